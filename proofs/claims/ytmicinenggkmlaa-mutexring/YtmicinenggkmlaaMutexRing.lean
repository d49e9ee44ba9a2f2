/-
  PROVED: the Go function detentlaw15.MutexRing returns true for every input, and each argument reads behind the call as it read before (Rows.MutexRingSaid). No condition.
-/
import Derived.Test.YtmicinenggkmlaaRows
import Derived.Test.YtmicinenggkmlaaMtP
import Derived.WalkKit
import Derived.ProofKit
import Derived.OpenShut
import Derived.ShutString
import Derived.ChangeOld
import Derived.Below
namespace Go.Proofs.Ytmicinenggkmlaa.mutexRing
open Go.ChangeShapes Go.WideShapes Go.ChangeAt Go.RowKit
open Go.ChangeMaps (open_string shut_string)
set_option linter.unusedVariables false      -- a walk need not use every 'w<i>' (that an integer argument fits its kind)

theorem own : ownKnob Try.prog.godebug = none := by kernel_rfl

/-- who holds what, while the first locks come -/
def fO (u : Nat) (i : Nat) : Int := if i + 1 < u then (i : Int) + 1 else 0
theorem ring1 {S : St} {n u : Nat} {a : Int} {B : Int → Int} (ha : a ≤ 2) (h8 : n ≤ 8) (hu : 1 ≤ u) (hun : u ≤ n) (h : Lk S n (fun _ => a) (fun _ => 0) (fO u) (fun _ _ => False) B) :
    ∃ S', lockL S (u : Int) (u : Int) = (S', true, 0) ∧ Lk S' n (fun _ => a) (fun _ => 0) (fO (u + 1)) (fun _ _ => False) B := by
  obtain ⟨S', h1, h2⟩ := h.lock_free (i := u - 1) (m := (u : Int)) (t := (u : Int)) (by omega) (by omega) (by unfold isT; omega) (by unfold fO; rw [if_neg (by omega)]) (fun e => by have := e.1; omega) (fun _ _ e => e)
  refine ⟨S', h1, h2.to (fun i hi => ?_) (fun _ _ _ => Iff.rfl) (fun _ _ => rfl)⟩
  unfold upd fO
  by_cases c : i = u - 1
  · rw [if_pos c, if_pos (by omega)]; omega
  · rw [if_neg c]
    by_cases c2 : i + 1 < u
    · rw [if_pos c2, if_pos (by omega)]
    · rw [if_neg c2, if_neg (by omega)]
/-- who waits where -/
def fW (u : Nat) (j : Nat) (s : Int) : Prop := 1 ≤ j ∧ j < u ∧ s = (j : Int)
theorem ring2 {S : St} {n u : Nat} {a : Int} {B : Int → Int} (f : Fine S) (ha : a ≤ 2) (h8 : n ≤ 8) (hu : 1 ≤ u) (hun : u < n) (h : Lk S n (fun _ => a) (fun _ => 0) (fO (n + 1)) (fW u) B) :
    ∃ S', lockL S ((u : Int) + 1) (u : Int) = (S', false, 0) ∧ Lk S' n (fun _ => a) (fun _ => 0) (fO (n + 1)) (fW (u + 1)) B := by
  have ho : fO (n + 1) u = (u : Int) + 1 := by unfold fO; rw [if_pos (by omega)]
  obtain ⟨S', h1, h2⟩ := h.lock_wait f (i := u) (m := (u : Int) + 1) (t := (u : Int)) hun rfl (by unfold isT; omega) (by rw [ho]; omega) (by rw [ho]; omega) (fun e => by have := e.1; omega)
    (fun j _ e => by unfold fW at e; omega) (h.short f.toFine0 (by rw [ho]; omega) (by omega) (fun j _ e => by rw [ho] at e; unfold fW at e; omega))
  refine ⟨S', h1, h2.to (fun _ _ => rfl) (fun j hj s => ?_) (fun _ _ => rfl)⟩
  unfold fW
  omega
theorem ring3 {S : St} {n : Nat} {a : Int} {B : Int → Int} (f : Fine S) (ha : a ≤ 2) (h8 : n ≤ 8) (h2 : 2 ≤ n) (h : Lk S n (fun _ => a) (fun _ => 0) (fO (n + 1)) (fW n) B) :
    lockL S 1 (n : Int) = (S, false, -28) ∧ tryL S 1 (n : Int) = (S, false, 0) ∧ wait S 1 = [] ∧ owns S 1 = 1 := by
  have h0 : 0 < n := by omega
  obtain ⟨hM, hx⟩ := h.im (i := 0) (m := 1) h0 rfl
  obtain ⟨k1, k2, k3⟩ := h.k 0 h0
  have ho : S.O (ix 1) = 1 := by rw [hx, k3]; unfold fO; rw [if_pos (by omega)]; rfl
  have hov : ¬ over S (ix 1) (S.B (n : Int)) := no_over (by rw [hx, k1]; omega)
  have hw : ∀ j, j < S.n → ¬ inq S j (n : Int) := fun j hj c => by
    rw [h.n_] at hj
    have := (h.w j hj _).1 c
    unfold fW at this; omega
  have ht : isT (n : Int) := by unfold isT; omega
  have hit : ∀ k, k < n → itr S 1 k = (k : Int) + 1 := by
    intro k
    induction k with
    | zero => intro _; rfl
    | succ k ih =>
      intro hk
      show nx S (itr S 1 k) = _
      rw [ih (by omega)]
      have hin : inq S (k + 1) ((k : Int) + 1) := (h.w (k + 1) hk _).2 ⟨by omega, hk, by omega⟩
      have e := fi_in f.toFine0 (j := k + 1) (by rw [h.n_]; exact hk) hin
      unfold nx
      rw [e, if_pos (by rw [h.n_]; exact hk), (h.k (k + 1) hk).2.2]
      unfold fO; rw [if_pos (by omega)]
  have hc : circ S (S.O (ix 1)) (n : Int) = true := circ_yes (k := n - 1) (by omega) (by rw [ho, hit (n - 1) (by omega)]; omega)
  refine ⟨lockL_circ hM ht (by rw [ho]; omega) (by rw [ho]; omega) hov hw hc, tryL_busy hM ht (by rw [ho]; omega) (by rw [ho]; omega) hov hw, ?_, ?_⟩
  · unfold wait
    rw [if_pos hM, hx]
    have : S.Q 0 = [] := List.eq_nil_iff_forall_not_mem.2 fun y hy => by
      have := (h.w 0 h0 y.1).1 ⟨y, hy, rfl⟩
      unfold fW at this; omega
    rw [this]; rfl
  · unfold owns; rw [if_pos hM]; exact ho
def Rg1 (a0 : Int) (n : Nat) (w : World) (a g : Nat) (q : Nat → Nat) (i : Value) (wr : World) : Prop :=
  ∃ (u : Nat) (S : St) (B : Int → Int), 1 ≤ u ∧ u ≤ n + 1 ∧ i = .int .i64 (u : Int) ∧ At w a g q S wr ∧ Lk S n (fun _ => a0) (fun _ => 0) (fO u) (fun _ _ => False) B
def Rg2 (a0 : Int) (n : Nat) (w : World) (a g : Nat) (q : Nat → Nat) (i : Value) (wr : World) : Prop :=
  ∃ (u : Nat) (S : St) (B : Int → Int), 1 ≤ u ∧ u ≤ n ∧ i = .int .i64 (u : Int) ∧ At w a g q S wr ∧ Lk S n (fun _ => a0) (fun _ => 0) (fO (n + 1)) (fW u) B

/-! ### the walk -/
set_option maxRecDepth 100000 in
set_option maxHeartbeats 4000000 in
theorem walk (a0 : Int) (a1 : Int) (w0 : (Lit.int .i64 a0).wf = true) (w1 : (Lit.int .i64 a1).wf = true) (w : World) :
    Calls Try.prog 5 #[.int .i64 a0, .int .i64 a1] w fun e w' => e = .returned (.bool true) ∧ Below w.heap.size w w' := by
  by_cases c0 : a0 < 0
  · have t0 := decide_eq_true c0
    go_enter Try.func5, Try.ntmps5
    go_wp2_with fail
    refine (known_ok w).mono ?_
    rintro e w1 ⟨rfl, hb⟩
    go_wp2
    go_ret
    exact ⟨rfl, hb⟩
  have t0 := decide_eq_false c0
  by_cases c1 : 2 < a0
  · have t1 := decide_eq_true c1
    go_enter Try.func5, Try.ntmps5
    go_wp2_with fail
    refine (known_ok w).mono ?_
    rintro e w1 ⟨rfl, hb⟩
    go_wp2
    go_ret
    exact ⟨rfl, hb⟩
  have t1 := decide_eq_false c1
  by_cases c2 : a1 < 2
  · have t2 := decide_eq_true c2
    go_enter Try.func5, Try.ntmps5
    go_wp2_with fail
    refine (known_ok w).mono ?_
    rintro e w1 ⟨rfl, hb⟩
    go_wp2
    go_ret
    exact ⟨rfl, hb⟩
  have t2 := decide_eq_false c2
  by_cases c3 : 8 < a1
  · have t3 := decide_eq_true c3
    go_enter Try.func5, Try.ntmps5
    go_wp2_with fail
    refine (known_ok w).mono ?_
    rintro e w1 ⟨rfl, hb⟩
    go_wp2
    go_ret
    exact ⟨rfl, hb⟩
  have t3 := decide_eq_false c3
  obtain ⟨n, rfl⟩ : ∃ n : Nat, a1 = (n : Int) := ⟨a1.toNat, by omega⟩
  have h2n : 2 ≤ n := by omega
  have h8n : n ≤ 8 := by omega
  have h2a : a0 ≤ 2 := by omega
  have HOK := Lib.hid (fun i (hi : i < n) => ok_fifo (a := a0) (by omega) h2a)
  clear w0 w1
  go_enter Try.func5, Try.ntmps5
  go_wp2_with fail
  refine (known_ok w).mono ?_
  rintro e w1 ⟨rfl, hb⟩
  have HB0 := Lib.hid hb
  clear hb
  go_wp2
  clear t0 t1 t2 t3 c0 c1 c2 c3
  go_loopw [6, 5] (fun i y wr => ∃ (v : Nat) (vo : Value), v ≤ n ∧ i = .int .i64 (v : Int) ∧ y = vo ∧ wr.ownsRow w.heap.size 55 2 vo v (K.vals K.ck (rowK (fun _ => (a0, 0)) v)) ∧ Below w.heap.size w wr) (fun i _ _ => n - (intOf i).toNat)
  case atStart => exact ⟨0, _, Nat.zero_le _, rfl, rfl, ⟨rfl, .inl ⟨rfl, rfl⟩⟩, HB0.out⟩
  case round =>
    clear HB0
    obtain ⟨v, vo, hv, rfl, rfl, hown, hb⟩ := hrel
    obtain ⟨X1, k1, rfl, _, _⟩ := K.own_form hown
    have HO := Lib.hid hown
    have HB := Lib.hid hb
    clear hown hb
    by_cases hlt : v < n
    · have hlt' : (v : Int) < (n : Int) := by omega
      obtain ⟨wb, hwb⟩ : ∃ wb, wr.alloc (.cells #[.int .i64 a0, .int .i64 0] 55) = wb := ⟨_, rfl⟩
      have HPRE := Lib.hid (kind_pre HO.out HB.out hwb)
      have HWB := Lib.hid hwb
      have b2 : v + 1 ≤ 100000 := by omega
      go_wp2_with (first
        | (refine K.wpList_append_row K.kk (by decide) rfl _ _ rfl w.heap.size (.slice X1 v k1) (rowK (fun _ => (a0, 0)) v) [(a0, 0)] v (rowK_len _ _) rfl HPRE.out.1 _ 1 1 rfl rfl HPRE.out.2.1 b2 HPRE.out.2.2 (v + 1) rfl ?_
           intro X7 k7 w7 hown7 hgr7
           have HP7 := Lib.hid (kind_post HPRE.out.1 HB.out HWB.out rfl hown7 hgr7)
           clear hown7 hgr7))
      go_roundw
      case rel => exact ⟨v + 1, _, by omega, by go_num, rfl, HP7.out.1, HP7.out.2⟩
      case measure => simp [intOf]; omega
    · have hlt' : decide ((v : Int) < (n : Int)) = false := by simp; omega
      have HOE := Lib.hid (show wr.ownsRow w.heap.size 55 2 (.slice X1 n k1) n (K.vals K.ck (rowK (fun _ => (a0, 0)) n)) by have := HO.out; rw [show v = n by omega] at this; exact this)
      obtain rfl : v = n := by omega
      clear hv
      go_wp2_with fail
      refine (kind_new X1 k1 v _ h8n HOE.out HOK.out HB.out).mono ?_
      rintro e w2 ⟨a, g, q, S, rfl, hat, hlk⟩
      have HAT := Lib.hid hat
      have HLK := Lib.hid hlk
      clear hat hlk
      go_wp2
      go_loopw [9] (fun i wr => Rg1 a0 v w a g q i wr) (fun i _ => v + 1 - (intOf i).toNat)
      case atStart => exact ⟨1, S, _, by omega, by omega, rfl, HAT.out, HLK.out.to (fun i _ => by unfold fO; rw [if_neg (by omega)]) (fun _ _ _ => Iff.rfl) (fun _ _ => rfl)⟩
      case round =>
        clear HAT HLK
        obtain ⟨u, S, B, hu1, hu, rfl, hat, hlk⟩ := hrel
        have HAT := Lib.hid hat
        have HLK := Lib.hid hlk
        clear hat hlk
        by_cases hle : u ≤ v
        · have hle' : (u : Int) ≤ (v : Int) := by omega
          obtain ⟨S', e1, hlk⟩ := ring1 h2a h8n hu1 hle HLK.out
          have HL := Lib.hid (lock_at HAT.out e1)
          have HLK := Lib.hid hlk
          clear e1 hlk
          go_wp2_with fail
          refine HL.out.mono ?_
          rintro e w3 ⟨rfl, h3⟩
          have H3 := Lib.hid h3
          clear h3
          go_wp2
          go_roundw
          case rel => exact ⟨u + 1, S', B, by omega, by omega, by go_num, H3.out, HLK.out⟩
          case measure => simp [intOf]; omega
        · have hle' : decide ((u : Int) ≤ (v : Int)) = false := by simp; omega
          have HLK := Lib.hid (show Lk S v (fun _ => a0) (fun _ => 0) (fO (v + 1)) (fun _ _ => False) B by have := HLK.out; rw [show u = v + 1 by omega] at this; exact this)
          clear hu hu1
          go_wp2
          go_loopw [10] (fun i wr => Rg2 a0 v w a g q i wr) (fun i _ => v - (intOf i).toNat)
          case atStart => exact ⟨1, S, B, by omega, by omega, rfl, HAT.out, HLK.out.to (fun _ _ => rfl) (fun i _ s => by unfold fW; constructor; exact fun e => e.elim; omega) (fun _ _ => rfl)⟩
          case round =>
            clear HAT HLK hle hle'
            obtain ⟨u, S, B, hu1, hu, rfl, hat, hlk⟩ := hrel
            have HAT := Lib.hid hat
            have HLK := Lib.hid hlk
            clear hat hlk
            by_cases hl2 : u < v
            · have hl2' : (u : Int) < (v : Int) := by omega
              obtain ⟨S', e1, hlk⟩ := ring2 HAT.out.f h2a h8n hu1 hl2 HLK.out
              have HL := Lib.hid (lock_at HAT.out e1)
              have HLK := Lib.hid hlk
              clear e1 hlk
              go_wp2_with fail
              refine HL.out.mono ?_
              rintro e w3 ⟨rfl, h3⟩
              have H3 := Lib.hid h3
              clear h3
              go_wp2
              go_roundw
              case rel => exact ⟨u + 1, S', B, by omega, by omega, by go_num, H3.out, HLK.out⟩
              case measure => simp [intOf]; omega
            · have hl2' : decide ((u : Int) < (v : Int)) = false := by simp; omega
              obtain rfl : u = v := by omega
              have HR := Lib.hid (ring3 HAT.out.f h2a h8n h2n HLK.out)
              clear hu1 hu
              go_wp2_with fail
              refine (lock_at HAT.out HR.out.1).mono ?_
              rintro e w3 ⟨rfl, h3⟩
              have H3 := Lib.hid h3
              clear h3
              go_wp2_with fail
              refine (try_at H3.out HR.out.2.1).mono ?_
              rintro e w4 ⟨rfl, h4⟩
              have H4 := Lib.hid h4
              clear h4
              go_wp2_with fail
              refine (waiting_at H4.out HR.out.2.2.1).mono ?_
              rintro e w5 ⟨X, k, rfl, _, hb5⟩
              have H5 := Lib.hid (H4.out.below hb5)
              clear hb5
              simp only [List.length_nil]
              go_wp2_with fail
              refine (owner_at H5.out HR.out.2.2.2).mono ?_
              rintro e w6 ⟨rfl, rfl⟩
              go_wp2
              go_ret
              exact ⟨rfl, H5.out.b⟩

/-! ### THE ROW's STEP: WRITTEN OUT: LEAVE IT -/
set_option maxRecDepth 100000 in
theorem lifted (os : Os) (started : os.Started) (H : Type) (enc : TypeId × Value → H) :
    ReturnsInHanded {} Try.checked os 5 .any (Rows.mutexRingSpec.pre6 enc Try.prog Try.f5 Rows.mutexRingRow.domain false) (Rows.mutexRingSpec.post enc Try.prog Try.f5 false true false false) := by
  refine returnsInHanded_of_change (C := Try.checked) own started (by kernel_rfl) Try.func5
    (ChangeSpec.witness6 (enc := enc) (C := Try.checked) false ⟨#[], #[.int .i64 0, .int .i64 0], []⟩ 8 (by kernel_rfl) (by kernel_rfl) (by kernel_rfl) (by kernel_rfl)) ?_
  intro W base args ds gs before hval0 hW hcnd _
  have hval : ∀ (j : Nat) t v, Try.f5.params[j]? = some t → args[j]? = some v → Value.okWide Try.prog W .any base t v := hval0
  have hW' := hW
  obtain ⟨p, q, hA0, hV, rfl, hfz, hnd⟩ := hW
  have hA : DataW.TrodAll enc Try.prog W 0 (fun _ => true) true Try.f5.params.toList args.toList ds p := hA0
  rw [Try.params5] at hA hval
  obtain ⟨v0, vs0, d0, ds0, p0, q0, hargs, rfl, rfl, h0, r0⟩ := trodAll_cons hA
  obtain ⟨v1, vs1, d1, ds1, p1, q1, rfl, rfl, rfl, h1, r1⟩ := trodAll_cons r0
  obtain ⟨rfl, rfl, rfl⟩ := trodAll_nil r1
  obtain rfl : args = #[v0, v1] := by cases args; simp_all
  obtain ⟨rfl, rfl⟩ := trodVars_none hV
  obtain ⟨a0, rfl, rfl, rfl, w0⟩ := open_int Try.underlying3 (hval 0 3 v0 rfl rfl) h0
  obtain ⟨a1, rfl, rfl, rfl, w1⟩ := open_int Try.underlying3 (hval 1 3 v1 rfl rfl) h1
  clear hA0 hval0
  simp only [List.append_nil] at hW'
  refine (walk a0 a1 w0 w1 W).mono fun e W' ⟨he, hg⟩ => ?_
  subst he
  exact ⟨_, rfl, _, _, _, [], [], [], hW', (trodAll_cons_mk (shut_bool Try.underlying4 _) trodAll_mk0), (trodAll_cons_mk (shut_int Try.underlying3 w0) (trodAll_cons_mk (shut_int Try.underlying3 w1) trodAll_mk0)), rfl, hg.frame _, fun h => by cases h⟩

theorem over : Rows.mutexRingRow.holds Try.pinned (OpenSpec.ofChange Rows.mutexRingSpec) :=
  OpenClaim.holds_of_wide 5 Try.f5 rfl rfl rfl rfl rfl rfl rfl ⟨rfl, rfl, rfl, rfl, rfl⟩ rfl rfl rfl rfl rfl (by kernel_rfl) Try.func5 (by kernel_rfl)
    (of_decide_eq_true (by kernel_rfl)) (by unfold Func.isWrapper; first | (rw [if_pos (by decide +kernel)]; kernel_rfl) | (rw [if_neg (by decide +kernel)]; exact ⟨rfl, rfl⟩))
    (fun os started H enc _ => lifted os started H enc)

/-- ████ THE STATEMENT ████ -/
theorem proved : Rows.MutexRingSaid :=
  over
#print axioms proved
end Go.Proofs.Ytmicinenggkmlaa.mutexRing
namespace Go.Proofs.Ytmicinenggkmlaa
theorem mutexRing_holds : Rows.MutexRingSaid := mutexRing.proved
end Go.Proofs.Ytmicinenggkmlaa
