/-
  PROVED: the Go function detentlaw16.BufferOrder returns true for every input, and each argument reads behind the call as it read before (Rows.BufferOrderSaid). No condition.
-/
import Derived.Test.YtneimdjgbblaoaaRows
import Derived.Test.YtneimdjgbblaoaaBfP
import Derived.WalkKit
import Derived.ProofKit
import Derived.OpenShut
import Derived.ShutString
import Derived.ChangeOld
import Derived.Below
namespace Go.Proofs.Ytneimdjgbblaoaa.bufferOrder
open Go.ChangeShapes Go.WideShapes Go.ChangeAt Go.RowKit
open Go.ChangeMaps (open_string shut_string)
set_option linter.unusedVariables false

theorem own : ownKnob Try.prog.godebug = none := by kernel_rfl
theorem laidOut : laidOutB Try.prog = true := by kernel_rfl

/-- n messages from j on -/
def M (sn : Nat → Nat) (q : Nat → Nat → Int) (j n : Nat) : List (List Int) := (List.range' j n).map fun k => R.mkm (sn k) (q k)
theorem M_end (sn : Nat → Nat) (q : Nat → Nat → Int) (j n : Nat) : M sn q j (n + 1) = M sn q j n ++ [R.mkm (sn (j + n)) (q (j + n))] := by unfold M; rw [List.range'_1_concat]; simp
theorem M_cons (sn : Nat → Nat) (q : Nat → Nat → Int) (j n : Nat) : M sn q j (n + 1) = R.mkm (sn j) (q j) :: M sn q (j + 1) n := by unfold M; rw [List.range'_succ]; simp

def R1 (w : World) (s p m N n : Nat) (sn : Nat → Nat) (q : Nat → Nat → Int) (i : Value) (wr : World) : Prop :=
  ∃ (k : Nat) (C : Int) (t : St), k ≤ n ∧ i = .int .i64 (k : Int) ∧ At w s p m C t wr ∧ C ≤ 100000 * (k : Int) ∧ Od k (M sn q 0 k) t ∧ t.N = N
def R2 (w : World) (s p m N n : Nat) (sn : Nat → Nat) (q : Nat → Nat → Int) (i : Value) (wr : World) : Prop :=
  ∃ (k r : Nat) (C : Int) (t : St), k + r = n ∧ i = .int .i64 (k : Int) ∧ At w s p m C t wr ∧ C ≤ 2000000 + 100000 * (k : Int) ∧ Od n (M sn q k r) t ∧ t.N = N

theorem fld42 (a b c : Value) (W : World) : (Instr.field 42 (.agg #[a, b, c]) 1).run Try.prog W = .ok b W := by
  simp [Instr.field, run_underlying Try.underlying42, go_sem, asAgg]

set_option maxHeartbeats 8000000 in
set_option maxRecDepth 100000 in
theorem walkIn (N : Nat) (A : Option Addr) (n cap b o : Nat) (SA : Nat → Option Addr) (sn sk : Nat → Nat) (q : Nat → Nat → Int) (hn : n ≤ 16) (hN : N ≤ 200) (h4 : N % 4 = 0) (w : World)
    (hP : 0 < n → A = some ⟨b, o, none⟩ ∧ Pts w b o n SA sn sk q) :
    Calls Try.prog 4 #[.int .i64 (N : Int), .slice A n cap] w fun e w' => e = .returned (.bool true) ∧ Below w.heap.size w w' := by
  have HP := Lib.hid hP
  have H4 := Lib.hid h4
  have t2 : decide ((200 : Int) < (N : Int)) = false := by simp; omega
  have t2' : decide (200 < N) = false := by simp; omega
  have t3 : (((N : Int).tmod 4) != 0) = false := by
    have e : (N : Int).tmod 4 = ((N % 4 : Nat) : Int) := by rw [Int.tmod_eq_emod_of_nonneg (by omega)]; omega
    rw [e, h4]; simp
  have t3' : (((N : Int) % 4) != 0) = false := by simp; omega
  have t3'' : ((N % 4) != 0) = false := by simp [h4]
  have t4 : decide ((16 : Int) < (n : Int)) = false := by simp; omega
  have t4' : decide (16 < n) = false := by simp; omega
  clear hP h4
  go_enter Try.func4, Try.ntmps4
  go_wp2_with fail
  refine (known_any w).mono ?_
  rintro e w0 ⟨rfl, hb0⟩
  have HB0 := Lib.hid hb0
  clear hb0
  go_wp2_with fail
  refine (new_at w w0 false 100 N (by omega) (by omega) H4.out (N : Int) rfl 100 rfl HB0.out).mono ?_
  rintro e w1 ⟨s, p, m, rfl, ha, _, _, _, _⟩
  have H0 : Hid (R1 w s p m N n sn q (.int .i64 0) w1) := Lib.hid ⟨0, 0, st0 false 100 N, Nat.zero_le _, rfl, ha, by omega, ⟨rfl, rfl, rfl, fun y hy => by simp [st0] at hy, rfl⟩, rfl⟩
  clear ha t2 t2' t3 t3' t3'' t4 t4'
  go_wp2
  go_loopw [7] (fun i wr => R1 w s p m N n sn q i wr) (fun i _ => n - (intOf i).toNat)
  case atStart => exact H0.out
  case round =>
    obtain ⟨k, C, t, hk, rfl, hat, hC, hod, htN⟩ := hrel
    have HA := Lib.hid hat
    have HC := Lib.hid hC
    have HOD := Lib.hid hod
    have HTN := Lib.hid htN
    clear hat hC hod htN H0
    by_cases hlt : k < n
    · obtain ⟨rfl, hpts⟩ := HP.out (by omega)
      have hlt' : (k : Int) < (n : Int) := by omega
      have hc := (HA.out.b.cell (p := ⟨b, o + k, none⟩) (hpts.hlt k hlt)).trans (hpts.c k hlt)
      have HS := Lib.hid (hpts.src k hlt)
      have HCP := Lib.hid (hpts.cap k hlt)
      obtain ⟨v, hv⟩ : ∃ v, sn k = v := ⟨_, rfl⟩
      rw [hv] at hc HS HCP
      have HV := Lib.hid hv
      clear hpts hv
      by_cases c0 : v = 0
      · have t5 : ((v : Int) == 0) = true := by simp; omega
        have t5' : (v == 0) = true := by simp; omega
        go_wp2
        go_ret
        exact ⟨rfl, HA.out.b⟩
      have t5 : ((v : Int) == 0) = false := by simp; omega
      have t5' : (v == 0) = false := by simp; omega
      by_cases c1 : 100 < v
      · have t6 : decide ((100 : Int) < (v : Int)) = true := by simp; omega
        have t6' : decide (100 < v) = true := by simp; omega
        go_wp2
        go_ret
        exact ⟨rfl, HA.out.b⟩
      have t6 : decide ((100 : Int) < (v : Int)) = false := by simp; omega
      have t6' : decide (100 < v) = false := by simp; omega
      obtain ⟨t', kk, hs, hod', hN'⟩ := HOD.out.send (x := R.mkm v (q k)) (by omega) (by rw [R.mkm_len]; omega) ((k : Int) + 1) rfl
      have HSD := Lib.hid (send_at HA.out (HS.out.sb HA.out.b HA.out.q.bs HA.out.q.bp HA.out.q.bm) HCP.out.1 (by have := HC.out; omega) hs)
      have HOD' := Lib.hid hod'
      have HN' := Lib.hid hN'
      clear hs hod' hN' c0 c1
      go_wp2_with fail
      refine HSD.out.mono ?_
      rintro e w2 ⟨rfl, ha2, _⟩
      have HA2 := Lib.hid ha2
      clear ha2 HSD hc
      go_wp2
      go_roundw
      case rel => exact ⟨k + 1, _, _, by omega, by go_num, HA2.out, by have := HC.out; omega, by rw [M_end, Nat.zero_add, HV.out]; exact HOD'.out, HN'.out.trans HTN.out⟩
      case measure => first | omega | (simp [intOf]; omega)
    · obtain rfl : k = n := by omega
      have H1 : Hid (R2 w s p m N k sn q (.int .i64 0) wr) := Lib.hid ⟨0, k, C, t, by omega, rfl, HA.out, by have := HC.out; omega, HOD.out, HTN.out⟩
      clear HA HC HOD HTN hlt hk
      go_wp2
      go_loopw [11] (fun i wr => R2 w s p m N k sn q i wr) (fun i _ => k - (intOf i).toNat)
      case atStart => exact H1.out
      case round =>
        obtain ⟨j, r, C, t, hjr, rfl, hat, hC, hod, htN⟩ := hrel
        have HA := Lib.hid hat
        have HC := Lib.hid hC
        have HOD := Lib.hid hod
        have HTN := Lib.hid htN
        clear hat hC hod htN H1
        by_cases hlt : j < k
        · obtain ⟨r, rfl⟩ : ∃ r', r = r' + 1 := ⟨r - 1, by omega⟩
          obtain ⟨rfl, hpts⟩ := HP.out (by omega)
          have hlt' : (j : Int) < (k : Int) := by omega
          have hc := (HA.out.b.cell (p := ⟨b, o + j, none⟩) (hpts.hlt j hlt)).trans (hpts.c j hlt)
          have HS := Lib.hid (hpts.src j hlt)
          have HBL := Lib.hid (hpts.hlt j hlt)
          obtain ⟨v, hv⟩ : ∃ v, sn j = v := ⟨_, rfl⟩
          rw [hv] at hc HS
          have hod := HOD.out
          rw [M_cons, hv] at hod
          obtain ⟨t', outs, hs, hod', hN'⟩ := hod.recv
          have HTR := Lib.hid (tryRecv_at HA.out (by have := HC.out; omega) hs)
          have HOD' := Lib.hid hod'
          have HN' := Lib.hid hN'
          have HCC := Lib.hid hc
          clear hpts hv hod hs hod' hN' hc
          go_wp2_with fail
          refine HTR.out.mono ?_
          rintro e w2 ⟨gv, rfl, hg, ha2, _⟩
          obtain ⟨v1, v2, rfl, htx, how, hnew⟩ := hg
          obtain ⟨Y, yi, yj, rfl⟩ : ∃ Y i j, v1 = .slice Y i j := by rcases htx with ⟨_, rfl⟩ | ⟨g, cap, rfl, _⟩ <;> exact ⟨_, _, _, rfl⟩
          obtain ⟨X, xn, xk, rfl⟩ : ∃ X n k, v2 = .slice X n k := by obtain ⟨X, k, e, _⟩ := K.own_form how; exact ⟨X, _, k, e⟩
          have HB3 := Lib.hid (show Below w2.heap.size w2 (w2.alloc (.cells #[.slice Y yi yj, .bool true, .slice X xn xk] 42)) from (Below.refl _ _).alloc (Nat.le_refl _) _)
          have bx := box3_new w2 42 (.slice Y yi yj) (.bool true) (.slice X xn xk)
          have b0 := bx.c0
          have b1 := bx.c1
          have hs1 := ((htx.below HB3.out).below (show Below _ _ (World.drew _) from (Below.refl _ _).drew)).str
          rw [show (some (R.mkm v (q j))).getD [] = R.mkm v (q j) from rfl] at hs1
          have HA3 := Lib.hid (ha2.below HB3.out)
          have hs2 := R.run_str (cap := sk j) ((HS.out.later HA3.out.drew.b).src)
          rw [← R.str_mkm] at hs2
          have d0 := (HA3.out.b.cell (p := ⟨b, o + j, none⟩) HBL.out).trans (((HA.out.b.cell (p := ⟨b, o + j, none⟩) HBL.out).symm).trans HCC.out)
          clear ha2 htx how hnew bx HTR
          go_wp2
          go_region_held3 (fun W => W.cell? ⟨w2.heap.size, 0, none⟩ = some (.slice Y yi yj) ∧ W.cell? ⟨w2.heap.size, 1, none⟩ = some (.bool true) ∧ W.cell? ⟨b, o + j, none⟩ = some (.slice (SA j) v (sk j)) ∧ (convert 31 9 (.slice Y yi yj)).run Try.prog W = .ok (.string (R.str (R.mkm v (q j)))) W ∧ (convert 31 9 (.slice (SA j) v (sk j))).run Try.prog W = .ok (.string (R.str (R.mkm v (q j)))) W)
            (first | exact ⟨b0, b1, d0, hs1, hs2⟩ | assumption)
            (fail)
          all_goals
            go_wp2
            go_roundw
            case rel => exact ⟨j + 1, r, _, _, by omega, by go_num, HA3.out.drew, by have := HC.out; omega, HOD'.out, HN'.out.trans HTN.out⟩
            case measure => first | omega | (simp [intOf]; omega)
        · obtain rfl : j = k := by omega
          obtain rfl : r = 0 := by omega
          have hod := HOD.out
          rw [show M sn q j 0 = [] from rfl] at hod
          obtain ⟨hs, hS, hG⟩ := hod.none
          have HTR := Lib.hid (tryRecv_at HA.out (by have := HC.out; omega) hs)
          have HSG := Lib.hid (And.intro hS hG)
          clear hod hs hS hG
          go_wp2_with fail
          refine HTR.out.mono ?_
          rintro e w2 ⟨gv, rfl, hg, ha2, _⟩
          obtain ⟨v1, v2, rfl, _, _, _⟩ := hg
          have HA2 := Lib.hid ha2
          have c0 := ha2.q.c.ring
          have hfl := fld42 v1 (.bool false) v2
          have HFr := Lib.hid (fun w3 (h : At w s p m (C + 90000) t w3) => free_at h)
          rw [HTN.out, HSG.out.2] at HFr
          clear ha2 HTR
          go_wp2_with fail
          refine (senders_at HA2.out (n := 0) (by rw [HSG.out.1]; rfl)).mono ?_
          rintro e w3 ⟨X, xk, rfl, _, hb3⟩
          have HA3 := Lib.hid (HA2.out.below hb3)
          have c1 := HA3.out.q.c.ring
          clear hb3
          go_wp2_with fail
          refine (HFr.out w3 HA3.out).mono ?_
          rintro e w4 ⟨rfl, d, rfl⟩
          have e0 : ((N : Int) - ((R.tot [] : Nat) : Int)) = (N : Int) := by show (N : Int) - 0 = N; omega
          rw [e0]
          go_wp2
          go_ret
          exact ⟨rfl, (HA3.out.drewN d).b⟩

set_option maxHeartbeats 4000000 in
set_option maxRecDepth 100000 in
theorem walkOut (a0 : Int) (A : Option Addr) (n cap : Nat) (hn : n ≤ 9223372036854775807) (w : World) (h : a0 < 0 ∨ 200 < a0 ∨ a0 % 4 ≠ 0 ∨ 16 < n) :
    Calls Try.prog 4 #[.int .i64 a0, .slice A n cap] w fun e w' => e = .returned (.bool true) ∧ Below w.heap.size w w' := by
  by_cases c0 : a0 < 0
  · have t0 := decide_eq_true c0
    clear h
    go_enter Try.func4, Try.ntmps4
    go_wp2_with fail
    refine (known_any w).mono ?_
    rintro e w1 ⟨rfl, hb⟩
    go_wp2
    go_ret
    exact ⟨rfl, hb⟩
  have t0 := decide_eq_false c0
  by_cases c1 : 200 < a0
  · have t1 := decide_eq_true c1
    clear h
    go_enter Try.func4, Try.ntmps4
    go_wp2_with fail
    refine (known_any w).mono ?_
    rintro e w1 ⟨rfl, hb⟩
    go_wp2
    go_ret
    exact ⟨rfl, hb⟩
  have t1 := decide_eq_false c1
  have ht : a0.tmod 4 = a0 % 4 := Int.tmod_eq_emod_of_nonneg (by omega)
  by_cases c2 : a0 % 4 ≠ 0
  · have t2 : ((a0.tmod 4) != 0) = true := by rw [ht]; simpa using c2
    have t2' : ((a0 % 4) != 0) = true := by simpa using c2
    clear h ht
    go_enter Try.func4, Try.ntmps4
    go_wp2_with fail
    refine (known_any w).mono ?_
    rintro e w1 ⟨rfl, hb⟩
    go_wp2
    go_ret
    exact ⟨rfl, hb⟩
  have t2 : ((a0.tmod 4) != 0) = false := by rw [ht]; simpa using c2
  have t2' : ((a0 % 4) != 0) = false := by simpa using c2
  have c3 : 16 < n := by omega
  have t3 : decide ((16 : Int) < (n : Int)) = true := by simp; omega
  have t3' : decide (16 < n) = true := by simp; omega
  clear h ht
  go_enter Try.func4, Try.ntmps4
  go_wp2_with fail
  refine (known_any w).mono ?_
  rintro e w1 ⟨rfl, hb⟩
  go_wp2
  go_ret
  exact ⟨rfl, hb⟩

theorem walk (a0 : Int) (w0 : (Lit.int .i64 a0).wf = true) (A : Option Addr) (n cap b o : Nat) (SA : Nat → Option Addr) (sn sk : Nat → Nat) (q : Nat → Nat → Int) (hl : n ≤ 9223372036854775807) (w : World) (hP : 0 < n → A = some ⟨b, o, none⟩ ∧ Pts w b o n SA sn sk q) :
    Calls Try.prog 4 #[.int .i64 a0, .slice A n cap] w fun e w' => e = .returned (.bool true) ∧ Below w.heap.size w w' := by
  by_cases h : a0 < 0 ∨ 200 < a0 ∨ a0 % 4 ≠ 0 ∨ 16 < n
  · exact walkOut a0 A n cap hl w h
  · obtain ⟨N, rfl⟩ : ∃ N : Nat, a0 = N := ⟨a0.toNat, by omega⟩
    exact walkIn N A n cap b o SA sn sk q (by omega) (by omega) (by omega) w hP

/-! ### the row's step -/
set_option maxRecDepth 100000 in
theorem lifted (os : Os) (started : os.Started) (H : Type) (enc : TypeId × Value → H) :
    ReturnsInHanded {} Try.checked os 4 .any (Rows.bufferOrderSpec.pre6 enc Try.prog Try.f4 Rows.bufferOrderRow.domain false) (Rows.bufferOrderSpec.post enc Try.prog Try.f4 false true false false) := by
  refine returnsInHanded_of_change (C := Try.checked) own started (by kernel_rfl) Try.func4
    (ChangeSpec.witness6 (enc := enc) (C := Try.checked) false ⟨#[], #[.int .i64 0, .slice none 0 0], []⟩ 8 (by kernel_rfl) (by kernel_rfl) (by kernel_rfl) (by kernel_rfl)) ?_
  intro W base args ds gs before hval0 hW hcnd _
  have hval : ∀ (j : Nat) t v, Try.f4.params[j]? = some t → args[j]? = some v → Value.okWide Try.prog W .any base t v := hval0
  have hW' := hW
  obtain ⟨p, q, hA0, hV, rfl, hfz, hnd⟩ := hW
  have hA : DataW.TrodAll enc Try.prog W 0 (fun _ => true) true Try.f4.params.toList args.toList ds p := hA0
  rw [Try.params4] at hA hval
  obtain ⟨v0, vs0, d0, ds0, p0, q0, hargs, rfl, rfl, h0, r0⟩ := trodAll_cons hA
  obtain ⟨v1, vs1, d1, ds1, p1, q1, rfl, rfl, rfl, h1, r1⟩ := trodAll_cons r0
  obtain ⟨rfl, rfl, rfl⟩ := trodAll_nil r1
  obtain rfl : args = #[v0, v1] := by cases args; simp_all
  obtain ⟨rfl, rfl⟩ := trodVars_none hV
  obtain ⟨a0, rfl, rfl, rfl, w0⟩ := open_int Try.underlying3 (hval 0 3 v0 rfl rfl) h0
  obtain ⟨a1, len1, cap1, rfl⟩ := okWide_slice Try.underlying80 (hval 1 80 v1 rfl rfl)
  have k1 := h1
  have lt1 : ∀ x ∈ p1, x.block < W.heap.size := by obtain ⟨m, hm⟩ := k1; exact DataW.trod_lt m _ _ _ hm
  obtain ⟨A, n, cap, b, o, SA, sn, sk, q, hv, hl, hP⟩ : ∃ (A : Option Addr) (n cap b o : Nat) (SA : Nat → Option Addr) (sn sk : Nat → Nat) (q : Nat → Nat → Int), Value.slice a1 len1 cap1 = .slice A n cap ∧ n ≤ 9223372036854775807 ∧ (0 < n → A = some ⟨b, o, none⟩ ∧ Pts W b o n SA sn sk q) := by
    obtain ⟨fuel, hf⟩ := h1
    exact parts_open (v := .slice a1 len1 cap1) hf
  injection hv with e1 e2 e3
  subst e1 e2 e3
  clear hA0 hval0
  refine (walk a0 w0 a1 len1 cap1 b o SA sn sk q hl W hP).mono fun e W' ⟨he, bel⟩ => ?_
  subst he
  exact ⟨_, rfl, _, _, _, [], _, [], hW', trodAll_mk1 (shut_bool Try.underlying4 _), (trodAll_cons_mk (shut_int Try.underlying3 w0) (trodAll_cons_mk (Below.trod laidOut (by kernel_rfl) (of_decide_eq_true (by kernel_rfl)) k1 bel lt1) trodAll_mk0)), rfl, bel.frame _, fun h => by cases h⟩

theorem over : Rows.bufferOrderRow.holds Try.pinned (OpenSpec.ofChange Rows.bufferOrderSpec) :=
  OpenClaim.holds_of_wide 4 Try.f4 rfl rfl rfl rfl rfl rfl rfl ⟨rfl, rfl, rfl, rfl, rfl⟩ rfl rfl rfl rfl rfl (by kernel_rfl) Try.func4 (by kernel_rfl)
    (of_decide_eq_true (by kernel_rfl)) (by unfold Func.isWrapper; first | (rw [if_pos (by decide +kernel)]; kernel_rfl) | (rw [if_neg (by decide +kernel)]; exact ⟨rfl, rfl⟩))
    (fun os started H enc _ => lifted os started H enc)

theorem proved : Rows.BufferOrderSaid := over
#print axioms proved
end Go.Proofs.Ytneimdjgbblaoaa.bufferOrder
namespace Go.Proofs.Ytneimdjgbblaoaa
theorem bufferOrder_holds : Rows.BufferOrderSaid := bufferOrder.proved
end Go.Proofs.Ytneimdjgbblaoaa
