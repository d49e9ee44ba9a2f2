/-
  PROVED: the Go function detentlaw14.BoxRefuses returns true for every input, and each argument reads behind the call as it read before (Rows.BoxRefusesSaid). No condition.
-/
import Derived.Test.YtapogohekfeiiaaRows
import Derived.Test.YtapogohekfeiiaaMxK
import Derived.WalkKit
import Derived.ProofKit
import Derived.OpenShut
import Derived.ShutString
import Derived.ChangeOld
import Derived.Below
namespace Go.Proofs.Ytapogohekfeiiaa.boxRefuses
open Go.ChangeShapes Go.WideShapes Go.ChangeAt Go.RowKit
open Go.ChangeMaps (open_string shut_string)
set_option linter.unusedVariables false      -- a walk need not use every 'w<i>' (that an integer argument fits its kind)

theorem own : ownKnob Try.prog.godebug = none := by kernel_rfl

theorem send1 {m : Int} (h : 1 ≤ m) : send ⟨true, [], true, m, []⟩ 7 1 = (⟨true, [], true, m, [(7, 1)]⟩, 0, 0) := by
  unfold send
  rw [if_neg (by rintro (h1 | ⟨_, h1 | h1⟩) <;> first | omega | (simp only at h1; omega)), if_neg (by simp [ids])]
  rfl
theorem sendBad {m a p : Int} (h : a = 0 ∨ p < 1 ∨ m < p) : send ⟨true, [], true, m, [(7, 1)]⟩ a p = (⟨true, [], true, m, [(7, 1)]⟩, 0, -17) := by
  unfold send
  rw [if_pos (by rcases h with h | h; exact .inl h; exact .inr ⟨rfl, h⟩)]
theorem sendIn {m p : Int} (h1 : ¬ p < 1) (h2 : ¬ m < p) : send ⟨true, [], true, m, [(7, 1)]⟩ 7 p = (⟨true, [], true, m, [(7, 1)]⟩, 0, -41) := by
  unfold send
  rw [if_neg (by rintro (h | ⟨_, h | h⟩); omega; exact h1 h; exact h2 h), if_pos (by simp [ids])]
theorem sendMore {m a p : Int} (h0 : a ≠ 0) (h1 : ¬ p < 1) (h2 : ¬ m < p) (h3 : a ≠ 7) : send ⟨true, [], true, m, [(7, 1)]⟩ a p = (⟨true, [], true, m, [(7, 1), (a, p)]⟩, 0, 0) := by
  unfold send
  rw [if_neg (by rintro (h | ⟨_, h | h⟩); exact h0 h; exact h1 h; exact h2 h), if_neg (by simp [ids, h3])]
  have e : plc true [(7, 1)] p = 1 := plc_none fun j y hy => by
    obtain ⟨hj, e⟩ := List.getElem?_eq_some_iff.1 hy
    have : y ∈ [((7 : Int), (1 : Int))] := List.mem_of_getElem? hy
    simp at this; subst this; simp only; omega
  simp only [e]
  rfl

/-! ### the walk -/
set_option maxRecDepth 100000 in
set_option maxHeartbeats 4000000 in
theorem walk (a0 : Int) (a1 : Int) (a2 : Int) (w0 : (Lit.int .i64 a0).wf = true) (w1 : (Lit.int .i64 a1).wf = true) (w2 : (Lit.int .u8 a2).wf = true) (w : World) :
    Calls Try.prog 6 #[.int .i64 a0, .int .i64 a1, .int .u8 a2] w fun e w' => e = .returned (.bool true) ∧ Below w.heap.size w w' := by
  by_cases c : a2 = 0
  · subst c
    go_enter Try.func6, Try.ntmps6
    go_wp2_with fail
    refine (known_ok w).mono ?_
    rintro e w1 ⟨rfl, hb⟩
    go_wp2
    go_ret
    exact ⟨rfl, hb⟩
  have hm := bounds_u8 w2
  have hw := bounds_i64 w0
  have HW := Lib.hid (in64 hw.1 hw.2)
  obtain ⟨m, hmm⟩ : ∃ m, a2 = m := ⟨_, rfl⟩
  rw [hmm] at hm c ⊢
  have hm1 : 1 ≤ m := by omega
  have hm2 : m ≤ 255 := by omega
  have t0 : (m == 0) = false := by simpa using c
  clear w0 w1 w2 hmm hw c
  go_enter Try.func6, Try.ntmps6
  go_wp2_with fail
  refine (known_ok w).mono ?_
  rintro e w1 ⟨rfl, hb⟩
  have HN := Lib.hid (new_at w w1 true true m hm1 hm2 hb)
  clear hb
  go_wp2_with fail
  refine HN.out.mono ?_
  rintro e w2 ⟨s, q, n, rfl, ha⟩
  clear HN
  go_wp2_with fail
  refine (send_at ha (in64 (by omega) (by omega)) (by omega) (send1 hm1)).mono ?_
  rintro e w3 ⟨rfl, ha1⟩
  clear ha
  by_cases c0 : a0 = 0
  · have t1 : (a0 == 0) = true := by simpa using c0
    have P := Lib.hid (sendBad (m := m) (p := a1) (.inl c0))
    clear c0
    go_wp2_with fail
    refine (send_at ha1 HW.out (by omega) (S' := ⟨true, [], true, m, [(7, 1)]⟩) (t := 0) (k := -17) P.out).mono ?_
    rintro e w4 ⟨rfl, ha2⟩
    clear ha1
    go_wp2_with fail
    refine (messages_at ha2 (by simp)).mono ?_
    rintro e w5 ⟨X, k, rfl, _, ha3⟩
    have HB := Lib.hid ha3.b
    clear ha2 ha3
    simp only [List.length_cons, List.length_nil]
    go_wp2
    go_ret
    exact ⟨rfl, HB.out⟩
  have t1 : (a0 == 0) = false := by simpa using c0
  by_cases c1 : a1 < 1
  · have t2 : decide (a1 < 1) = true := by simpa using c1
    have P := Lib.hid (sendBad (m := m) (a := a0) (.inr (.inl c1)))
    clear c0
    go_wp2_with fail
    refine (send_at ha1 HW.out (by omega) (S' := ⟨true, [], true, m, [(7, 1)]⟩) (t := 0) (k := -17) P.out).mono ?_
    rintro e w4 ⟨rfl, ha2⟩
    clear ha1
    go_wp2_with fail
    refine (messages_at ha2 (by simp)).mono ?_
    rintro e w5 ⟨X, k, rfl, _, ha3⟩
    have HB := Lib.hid ha3.b
    clear ha2 ha3
    simp only [List.length_cons, List.length_nil]
    go_wp2
    go_ret
    exact ⟨rfl, HB.out⟩
  have t2 : decide (a1 < 1) = false := by simpa using c1
  by_cases c2 : m < a1
  · have t3 : decide (m < a1) = true := by simpa using c2
    have P := Lib.hid (sendBad (a := a0) (.inr (.inr c2)))
    clear c0
    go_wp2_with fail
    refine (send_at ha1 HW.out (by omega) (S' := ⟨true, [], true, m, [(7, 1)]⟩) (t := 0) (k := -17) P.out).mono ?_
    rintro e w4 ⟨rfl, ha2⟩
    clear ha1
    go_wp2_with fail
    refine (messages_at ha2 (by simp)).mono ?_
    rintro e w5 ⟨X, k, rfl, _, ha3⟩
    have HB := Lib.hid ha3.b
    clear ha2 ha3
    simp only [List.length_cons, List.length_nil]
    go_wp2
    go_ret
    exact ⟨rfl, HB.out⟩
  have t3 : decide (m < a1) = false := by simpa using c2
  by_cases c3 : a0 = 7
  · subst c3
    have P := Lib.hid (sendIn c1 c2)
    clear c0
    go_wp2_with fail
    refine (send_at ha1 HW.out (by omega) (S' := ⟨true, [], true, m, [(7, 1)]⟩) (t := 0) (k := -41) P.out).mono ?_
    rintro e w4 ⟨rfl, ha2⟩
    clear ha1
    go_wp2_with fail
    refine (messages_at ha2 (by simp)).mono ?_
    rintro e w5 ⟨X, k, rfl, _, ha3⟩
    have HB := Lib.hid ha3.b
    clear ha2 ha3
    simp only [List.length_cons, List.length_nil]
    go_wp2
    go_ret
    exact ⟨rfl, HB.out⟩
  have t4 : (a0 == 7) = false := by simpa using c3
  have P := Lib.hid (sendMore c0 c1 c2 c3)
  clear c0 c1 c2 c3
  go_wp2_with fail
  refine (send_at ha1 HW.out (by omega) P.out).mono ?_
  rintro e w4 ⟨rfl, ha2⟩
  clear ha1
  go_wp2_with fail
  refine (messages_at ha2 (by simp)).mono ?_
  rintro e w5 ⟨X, k, rfl, ho, ha3⟩
  have HB := Lib.hid ha3.b
  rcases K.own_src rfl ho with ⟨_, e, _⟩ | ⟨g, o, rfl, hg, hc⟩
  · simp [ids] at e
  have e0 : w5.cell? ⟨g, o, none⟩ = some (.int .i64 7) := hc 0 _ rfl
  have e1 : w5.cell? ⟨g, o + 1, none⟩ = some (.int .i64 a0) := hc 1 _ rfl
  clear ha2 ha3 ho hc
  simp only [List.length_cons, List.length_nil]
  go_wp2
  go_ret
  exact ⟨rfl, HB.out⟩

/-! ### THE ROW's STEP: WRITTEN OUT: LEAVE IT -/
set_option maxRecDepth 100000 in
theorem lifted (os : Os) (started : os.Started) (H : Type) (enc : TypeId × Value → H) :
    ReturnsInHanded {} Try.checked os 6 .any (Rows.boxRefusesSpec.pre6 enc Try.prog Try.f6 Rows.boxRefusesRow.domain false) (Rows.boxRefusesSpec.post enc Try.prog Try.f6 false true false false) := by
  refine returnsInHanded_of_change (C := Try.checked) own started (by kernel_rfl) Try.func6
    (ChangeSpec.witness6 (enc := enc) (C := Try.checked) false ⟨#[], #[.int .i64 0, .int .i64 0, .int .u8 0], []⟩ 8 (by kernel_rfl) (by kernel_rfl) (by kernel_rfl) (by kernel_rfl)) ?_
  intro W base args ds gs before hval0 hW hcnd _
  have hval : ∀ (j : Nat) t v, Try.f6.params[j]? = some t → args[j]? = some v → Value.okWide Try.prog W .any base t v := hval0
  have hW' := hW
  obtain ⟨p, q, hA0, hV, rfl, hfz, hnd⟩ := hW
  have hA : DataW.TrodAll enc Try.prog W 0 (fun _ => true) true Try.f6.params.toList args.toList ds p := hA0
  rw [Try.params6] at hA hval
  obtain ⟨v0, vs0, d0, ds0, p0, q0, hargs, rfl, rfl, h0, r0⟩ := trodAll_cons hA
  obtain ⟨v1, vs1, d1, ds1, p1, q1, rfl, rfl, rfl, h1, r1⟩ := trodAll_cons r0
  obtain ⟨v2, vs2, d2, ds2, p2, q2, rfl, rfl, rfl, h2, r2⟩ := trodAll_cons r1
  obtain ⟨rfl, rfl, rfl⟩ := trodAll_nil r2
  obtain rfl : args = #[v0, v1, v2] := by cases args; simp_all
  obtain ⟨rfl, rfl⟩ := trodVars_none hV
  obtain ⟨a0, rfl, rfl, rfl, w0⟩ := open_int Try.underlying3 (hval 0 3 v0 rfl rfl) h0
  obtain ⟨a1, rfl, rfl, rfl, w1⟩ := open_int Try.underlying3 (hval 1 3 v1 rfl rfl) h1
  obtain ⟨a2, rfl, rfl, rfl, w2⟩ := open_int Try.underlying5 (hval 2 5 v2 rfl rfl) h2
  clear hA0 hval0
  simp only [List.append_nil] at hW'
  refine (walk a0 a1 a2 w0 w1 w2 W).mono fun e W' ⟨he, hg⟩ => ?_
  subst he
  exact ⟨_, rfl, _, _, _, [], [], [], hW', (trodAll_cons_mk (shut_bool Try.underlying4 _) trodAll_mk0), (trodAll_cons_mk (shut_int Try.underlying3 w0) (trodAll_cons_mk (shut_int Try.underlying3 w1) (trodAll_cons_mk (shut_int Try.underlying5 w2) trodAll_mk0))), rfl, hg.frame _, fun h => by cases h⟩

theorem over : Rows.boxRefusesRow.holds Try.pinned (OpenSpec.ofChange Rows.boxRefusesSpec) :=
  OpenClaim.holds_of_wide 6 Try.f6 rfl rfl rfl rfl rfl rfl rfl ⟨rfl, rfl, rfl, rfl, rfl⟩ rfl rfl rfl rfl rfl (by kernel_rfl) Try.func6 (by kernel_rfl)
    (of_decide_eq_true (by kernel_rfl)) (by unfold Func.isWrapper; first | (rw [if_pos (by decide +kernel)]; kernel_rfl) | (rw [if_neg (by decide +kernel)]; exact ⟨rfl, rfl⟩))
    (fun os started H enc _ => lifted os started H enc)

/-- ████ THE STATEMENT ████ -/
theorem proved : Rows.BoxRefusesSaid :=
  over
#print axioms proved
end Go.Proofs.Ytapogohekfeiiaa.boxRefuses
namespace Go.Proofs.Ytapogohekfeiiaa
theorem boxRefuses_holds : Rows.BoxRefusesSaid := boxRefuses.proved
end Go.Proofs.Ytapogohekfeiiaa
