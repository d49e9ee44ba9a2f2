/-
  PROVED: the Go function detentlaw13.DataForces returns true for every input, and each argument reads behind the call as it read before (Rows.DataForcesSaid). No condition.
-/
import Derived.Test.YtnbepahanhcmeaaRows
import Derived.Test.YtnbepahanhcmeaaDqL
import Derived.WalkKit
import Derived.ProofKit
import Derived.OpenShut
import Derived.ShutString
import Derived.ChangeOld
import Derived.Below
namespace Go.Proofs.Ytnbepahanhcmeaa.dataForces
open Go.ChangeShapes Go.WideShapes Go.ChangeAt Go.RowKit
open Go.ChangeMaps (open_string shut_string)
set_option linter.unusedVariables false

theorem own : ownKnob Try.prog.godebug = none := by kernel_rfl
theorem laidOut : laidOutB Try.prog = true := by kernel_rfl

/-- WHAT THE WALK IS TOLD OF A SLICE OF INTEGERS THAT CAME IN: it is nil; or it leads to a row of 'cap' cells, the numbers 'zs' (the first 'len' are its elements, the rest its spare room), each fitting its kind. -/
def IsRow (k : IntKind) (w : World) (a : Option Addr) (len cap : Nat) (zs : List Int) : Prop :=
  (a = none ∧ len = 0 ∧ cap = 0 ∧ zs = []) ∨
  ∃ x, a = some x ∧ len ≤ cap ∧ cap ≤ maxLen ∧ zs.length = cap ∧ (∀ i, i < zs.length → w.cell? (x.add i) = some (.int k (zs.getD i 0))) ∧ ∀ n ∈ zs, (Lit.int k n).wf = true

/-! ### the walk -/
set_option maxRecDepth 100000 in
set_option maxHeartbeats 4000000 in
theorem walk (a0 : Int) (a1 : Option Addr) (len1 cap1 : Nat) (z1 : List Int) (w : World) (w0 : (Lit.int .u8 a0).wf = true) (w1 : IsRow .i64 w a1 len1 cap1 z1) :
    Calls Try.prog 5 #[.int .u8 a0, .slice a1 len1 cap1] w fun e w' => e = .returned (.bool true) ∧ Below w.heap.size w w' := by
  obtain ⟨L, hL, hcap, hcap2, hnr⟩ := nr_of w1
  clear w1
  have hk := bounds_u8 w0
  obtain ⟨a, rfl⟩ : ∃ a : Nat, a0 = (a : Int) := ⟨a0.toNat, by omega⟩
  have ha : (a : Int) ≤ 255 := by omega
  clear w0 hk
  by_cases c150 : 150 < len1
  · have t1 : decide ((150 : Int) < (len1 : Int)) = true := by simp; omega
    have t2 : decide (150 < len1) = true := by simp; omega
    clear hnr c150
    go_enter Try.func5, Try.ntmps5
    go_wp2_with fail
    refine (known_ok w).mono ?_
    rintro e w1 ⟨rfl, hb⟩
    go_wp2
    go_ret
    exact ⟨rfl, hb⟩
  · have t1 : decide ((150 : Int) < (len1 : Int)) = false := by simp; omega
    have t2 : decide (150 < len1) = false := by simp; omega
    obtain ⟨m, hm⟩ : ∃ m, a % 65 = m := ⟨_, rfl⟩
    have hm64 : m ≤ 64 := by omega
    have HL := Lib.hid hL
    have HM := Lib.hid hm64
    have HNR := Lib.hid hnr
    have h150 : (len1 : Int) ≤ 150 := by omega
    obtain ⟨from', hfrom⟩ : ∃ f, len1 - m = f := ⟨_, rfl⟩
    have hmod : (a : Int) % 65 = (m : Int) := by omega
    have HF := Lib.hid hfrom
    clear hL hnr c150 hm hm64 ha hfrom
    go_enter Try.func5, Try.ntmps5
    go_wp2_with fail
    refine (known_ok w).mono ?_
    rintro e w1 ⟨rfl, hb⟩
    have HN := Lib.hid (new_at w w1 false m HM.out hb)
    have HB1 := Lib.hid hb
    clear hb
    go_wp2_with fail
    refine HN.out.mono ?_
    rintro e w2 ⟨s, v, rfl, ha, _, _, _⟩
    have HA := Lib.hid ha
    clear ha HN
    go_wp2
    clear hmod
    go_loopw [8] (fun i wr => ∃ (t : Nat) (v : Value), t ≤ len1 ∧ i = .int .i64 (t : Int) ∧ At w s v ⟨false, m, [], [], fun _ => 0, lst m (L.take t)⟩ wr) (fun i _ => len1 - (intOf i).toNat)
    case atStart => exact ⟨0, v, Nat.zero_le _, rfl, by rw [List.take_zero, lst_nil]; exact HA.out⟩
    case round =>
      obtain ⟨t, v, ht, rfl, ha⟩ := hrel
      by_cases hlt : t < len1
      · have hlt' : (t : Int) < (len1 : Int) := by omega
        obtain ⟨x, hx⟩ : ∃ x, L[t]? = some x := ⟨_, List.getElem?_eq_getElem (by rw [HL.out]; exact hlt)⟩
        obtain ⟨g, o, rfl, hg, hc⟩ := (HNR.out.below ha.b).at_ hx
        have HX := Lib.hid (take_next hx)
        by_cases c0 : m = 0
        · have t3 : ((m : Int) == 0) = true := by simp; omega
          have HT := Lib.hid (force_at ha (force_zero x c0))
          have C0 := Lib.hid c0
          clear ha hx c0
          go_wp2_with fail
          refine HT.out.mono ?_
          rintro e w3 ⟨rfl, v3, ha, _⟩
          have HA3 := Lib.hid ha
          clear ha HT hc
          go_wp2
          refine ⟨⟨t + 1, v3, by omega, by go_num, ?_⟩, by simp [intOf]; omega⟩
          have e0 : ∀ M : List Int, lst m M = [] := fun M => List.eq_nil_of_length_eq_zero (by rw [lst_len, C0.out]; omega)
          have e1 : lst m (L.take (t + 1)) = lst m (L.take t) := (e0 _).trans (e0 _).symm
          rw [e1]; exact HA3.out
        · have t3 : ((m : Int) == 0) = false := by simp; omega
          have HT := Lib.hid (force_at ha (force_lst (L.take t) x c0))
          clear ha hx c0
          go_wp2_with fail
          refine HT.out.mono ?_
          rintro e w3 ⟨rfl, v3, ha, _⟩
          have HA3 := Lib.hid ha
          clear ha HT hc
          go_wp2
          refine ⟨⟨t + 1, v3, by omega, by go_num, ?_⟩, by simp [intOf]; omega⟩
          rw [HX.out]; exact HA3.out
      · obtain rfl : t = len1 := by omega
        rw [List.take_of_length_le (by rw [HL.out]; exact Nat.le_refl _)] at ha
        by_cases c1 : m < t
        · have t4 : decide ((m : Int) < (t : Int)) = true := by simp; omega
          have t5 : decide (m < t) = true := by simpa using c1
          have hfi : (t : Int) - (m : Int) = (from' : Int) := by have := HF.out; omega
          go_wp2
          obtain ⟨XF, KF, hcut, hnf⟩ := nr_cut_l (f := from') (HNR.out.below ha.b) HL.out (by omega) hcap hcap2
          have hsl : ∀ W, (Instr.slice 58 (.slice a1 t cap1) (some (.int .i64 ((from' : Nat) : Int))) none none).run Try.prog W = .ok (.slice XF (t - from') KF) W := fun W => hcut W _ rfl
          have hq : lst m L = L.drop (from') := by unfold lst; rw [HL.out]; rw [HF.out]
          obtain ⟨n, hn⟩ : ∃ n, (lst m L).length = n := ⟨_, rfl⟩
          have HD := Lib.hid (data_to (ha.drew) n hn)
          have HNF := Lib.hid hnf
          have HQ := Lib.hid hq
          obtain ⟨lf, hlf⟩ : ∃ lf, t - from' = lf := ⟨_, rfl⟩
          rw [hlf] at hsl HNF
          have HAX := Lib.hid ha
          clear ha hcut hnf hn hq hlf hcap hcap2
          go_region_held3 (fun _ => True ∧ True)
            (first | exact ⟨trivial, trivial⟩ | assumption)
            (first
              | (go_at_call 33; refine (receivers_to ha7 0 rfl).mono ?_; rintro e w8 ⟨X8, K8, rfl, _, hb8⟩)
              | (go_at_call 32; refine (senders_to ha6 0 rfl).mono ?_; rintro e w7 ⟨X7, K7, rfl, _, hb7⟩; have ha7 := ha6.below hb7)
              | (go_at_call 30; refine (same_true _ _ _ _ _ hn5 (HNF.out.below hbb5) HQ.out).mono ?_; rintro e w6 ⟨rfl, hb6⟩; have ha6 := ha5.below hb6)
              | (go_at_call 31; refine HD.out.mono ?_; rintro e w5 ⟨X5, K5, rfl, hn5, hb5⟩; have ha5 := (HAX.out.drew).below hb5; have hbb5 := below_trans (below_drewN wr 1) hb5))
          have HB := Lib.hid (ha7.below hb8).b
          clear hb8 hb7 hb6 hb5 ha5 ha6 ha7 hbb5 hn5 hsl HD
          go_wp2
          go_ret
          exact ⟨rfl, HB.out⟩
        · have t4 : decide ((m : Int) < (t : Int)) = false := by simp; omega
          have t5 : decide (m < t) = false := by simpa using c1
          go_wp2
          obtain ⟨XF, KF, hcut, hnf⟩ := nr_cut_l (f := 0) (HNR.out.below ha.b) HL.out (by omega) hcap hcap2
          have hsl : ∀ W, (Instr.slice 58 (.slice a1 t cap1) (some (.int .i64 (0))) none none).run Try.prog W = .ok (.slice XF (t - 0) KF) W := fun W => hcut W _ rfl
          have hq : lst m L = L.drop 0 := by unfold lst; rw [HL.out]; rw [show t - m = 0 by omega]
          obtain ⟨n, hn⟩ : ∃ n, (lst m L).length = n := ⟨_, rfl⟩
          have HD := Lib.hid (data_to (ha.drew) n hn)
          have HNF := Lib.hid hnf
          have HQ := Lib.hid hq
          obtain ⟨lf, hlf⟩ : ∃ lf, t - 0 = lf := ⟨_, rfl⟩
          rw [hlf] at hsl HNF
          have HAX := Lib.hid ha
          clear ha hcut hnf hn hq hlf hcap hcap2
          go_region_held3 (fun _ => True ∧ True)
            (first | exact ⟨trivial, trivial⟩ | assumption)
            (first
              | (go_at_call 33; refine (receivers_to ha7 0 rfl).mono ?_; rintro e w8 ⟨X8, K8, rfl, _, hb8⟩)
              | (go_at_call 32; refine (senders_to ha6 0 rfl).mono ?_; rintro e w7 ⟨X7, K7, rfl, _, hb7⟩; have ha7 := ha6.below hb7)
              | (go_at_call 30; refine (same_true _ _ _ _ _ hn5 (HNF.out.below hbb5) HQ.out).mono ?_; rintro e w6 ⟨rfl, hb6⟩; have ha6 := ha5.below hb6)
              | (go_at_call 31; refine HD.out.mono ?_; rintro e w5 ⟨X5, K5, rfl, hn5, hb5⟩; have ha5 := (HAX.out.drew).below hb5; have hbb5 := below_trans (below_drewN wr 1) hb5))
          have HB := Lib.hid (ha7.below hb8).b
          clear hb8 hb7 hb6 hb5 ha5 ha6 ha7 hbb5 hn5 hsl HD
          go_wp2
          go_ret
          exact ⟨rfl, HB.out⟩

/-! ### THE ROW's STEP: WRITTEN OUT: LEAVE IT -/
set_option maxRecDepth 100000 in
theorem lifted (os : Os) (started : os.Started) (H : Type) (enc : TypeId × Value → H) :
    ReturnsInHanded {} Try.checked os 5 .any (Rows.dataForcesSpec.pre6 enc Try.prog Try.f5 Rows.dataForcesRow.domain false) (Rows.dataForcesSpec.post enc Try.prog Try.f5 false true false false) := by
  refine returnsInHanded_of_change (C := Try.checked) own started (by kernel_rfl) Try.func5
    (ChangeSpec.witness6 (enc := enc) (C := Try.checked) false ⟨#[], #[.int .u8 0, .slice none 0 0], []⟩ 8 (by kernel_rfl) (by kernel_rfl) (by kernel_rfl) (by kernel_rfl)) ?_
  intro W base args ds gs before hval0 hW hcnd _
  have hval : ∀ (j : Nat) t v, Try.f5.params[j]? = some t → args[j]? = some v → Value.okWide Try.prog W .any base t v := hval0
  have hW' := hW
  obtain ⟨p, q, hA0, hV, rfl, hfz, hnd⟩ := hW
  have hA : DataW.TrodAll enc Try.prog W 0 (fun _ => true) true Try.f5.params.toList args.toList ds p := hA0
  rw [Try.params5] at hA hval
  obtain ⟨v0, vs0, d0, ds0, p0, q0, hargs, rfl, rfl, h0, r0⟩ := trodAll_cons hA
  obtain ⟨v1, vs1, d1, ds1, p1, q1, rfl, rfl, rfl, h1, r1⟩ := trodAll_cons r0
  obtain ⟨rfl, rfl, rfl⟩ := trodAll_nil r1
  obtain rfl : args = #[v0, v1] := by cases args; simp_all
  obtain ⟨rfl, rfl⟩ := trodVars_none hV
  obtain ⟨a0, rfl, rfl, rfl, w0⟩ := open_int Try.underlying5 (hval 0 5 v0 rfl rfl) h0
  obtain ⟨a1, len1, cap1, rfl⟩ := okWide_slice Try.underlying58 (hval 1 58 v1 rfl rfl)
  have k1 := h1
  have lt1 : ∀ x ∈ p1, x.block < W.heap.size := by obtain ⟨m, hm⟩ := k1; exact DataW.trod_lt m _ _ _ hm
  obtain ⟨z1, w1⟩ : ∃ zs, IsRow .i64 W a1 len1 cap1 zs := by
    obtain ⟨fuel, hf⟩ := h1
    rcases open_ints Try.underlying58 Try.underlying3 (by kernel_rfl) hf with ⟨hcs, _⟩ | ⟨x, l, c, zs, hcs, _, hl, hm, hz, _, hcell, hwz⟩
    · simp [Value.cells] at hcs
      obtain ⟨rfl, rfl, rfl⟩ := hcs
      exact ⟨[], .inl ⟨rfl, rfl, rfl, rfl⟩⟩
    · simp [Value.cells] at hcs
      obtain ⟨rfl, rfl, rfl⟩ := hcs
      exact ⟨zs, .inr ⟨_, rfl, hl, hm, by simpa using hz, hcell, hwz⟩⟩
  clear hA0 hval0
  refine (walk a0 a1 len1 cap1 z1 W w0 w1).mono fun e W' ⟨he, bel⟩ => ?_
  subst he
  exact ⟨_, rfl, _, _, _, [], _, [], hW', trodAll_mk1 (shut_bool Try.underlying4 _), (trodAll_cons_mk (shut_int Try.underlying5 w0) (trodAll_cons_mk (Below.trod laidOut (by kernel_rfl) (of_decide_eq_true (by kernel_rfl)) k1 bel lt1) trodAll_mk0)), rfl, bel.frame _, fun h => by cases h⟩

theorem over : Rows.dataForcesRow.holds Try.pinned (OpenSpec.ofChange Rows.dataForcesSpec) :=
  OpenClaim.holds_of_wide 5 Try.f5 rfl rfl rfl rfl rfl rfl rfl ⟨rfl, rfl, rfl, rfl, rfl⟩ rfl rfl rfl rfl rfl (by kernel_rfl) Try.func5 (by kernel_rfl)
    (of_decide_eq_true (by kernel_rfl)) (by unfold Func.isWrapper; first | (rw [if_pos (by decide +kernel)]; kernel_rfl) | (rw [if_neg (by decide +kernel)]; exact ⟨rfl, rfl⟩))
    (fun os started H enc _ => lifted os started H enc)

/-- ████ THE STATEMENT ████ -/
theorem proved : Rows.DataForcesSaid := over
#print axioms proved
end Go.Proofs.Ytnbepahanhcmeaa.dataForces
namespace Go.Proofs.Ytnbepahanhcmeaa
theorem dataForces_holds : Rows.DataForcesSaid := dataForces.proved
end Go.Proofs.Ytnbepahanhcmeaa
