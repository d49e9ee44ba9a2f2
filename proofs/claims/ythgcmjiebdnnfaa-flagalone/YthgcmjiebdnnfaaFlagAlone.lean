/-
  PROVED: the Go function detentlaw12.FlagAlone returns true for every input, and each argument reads behind the call as it read before (Rows.FlagAloneSaid). No condition.
-/
import Derived.Test.YthgcmjiebdnnfaaRows
import Derived.Test.YthgcmjiebdnnfaaFgK
import Derived.WalkKit
import Derived.ProofKit
import Derived.OpenShut
import Derived.ShutString
import Derived.ChangeOld
import Derived.Below
namespace Go.Proofs.Ythgcmjiebdnnfaa.flagAlone
open Go.ChangeShapes Go.WideShapes Go.ChangeAt Go.RowKit
open Go.ChangeMaps (open_string shut_string)
set_option linter.unusedVariables false      -- a walk need not use every 'w<i>' (that an integer argument fits its kind)

theorem own : ownKnob Try.prog.godebug = none := by kernel_rfl

set_option maxHeartbeats 1600000 in
theorem walkOut (a b : Int) (h : a = 0 ∨ b = 0) (w : World) : Calls Try.prog 7 #[.int .u32 a, .int .u32 b] w fun e w' => e = .returned (.bool true) ∧ Below w.heap.size w w' := by
  by_cases h1 : a = 0
  · have t1 : (a == 0) = true := by simpa using h1
    clear h h1
    go_enter Try.func7, Try.ntmps7
    go_wp2_with fail
    refine (known_ok w).mono ?_
    rintro e w0 ⟨rfl, hb0⟩
    go_wp2
    go_ret
    exact ⟨rfl, hb0⟩
  · have t1 : (a == 0) = false := by simpa using h1
    have t2 : (b == 0) = true := by simpa using h.resolve_left h1
    clear h h1
    go_enter Try.func7, Try.ntmps7
    go_wp2_with fail
    refine (known_ok w).mono ?_
    rintro e w0 ⟨rfl, hb0⟩
    go_wp2
    go_ret
    exact ⟨rfl, hb0⟩

set_option maxHeartbeats 1600000 in
theorem walkIn (a b : Int) (h1 : a ≠ 0) (h2 : b ≠ 0) (ha : U a) (w : World) : Calls Try.prog 7 #[.int .u32 a, .int .u32 b] w fun e w' => e = .returned (.bool true) ∧ Below w.heap.size w w' := by
  have t1 : (a == 0) = false := by simpa using h1
  have t2 : (b == 0) = false := by simpa using h2
  have P1 : perm (a, 0) = true := by simp [perm, h1]
  have P2 : perm (b, 0) = true := by simp [perm, h2]
  have P3 : perm (b, 1) = true := by simp [perm, h2]
  have F0 := Lib.hid (fine_new true false false 0 (fun _ => (0, 0)))
  obtain ⟨W, hW, e1⟩ := one_wait true false false 0 1 9 (a, 0) (fun _ => (0, 0)) (by omega) (by omega) P1 (met_zero ha)
  have E1 := Lib.hid e1
  have F1 := Lib.hid (F0.out.wait E1.out)
  have E2 := Lib.hid (wait_full (S := ⟨true, false, false, 0, [(1, 9)], W⟩) (id := 2) (pri := 1) P2 rfl)
  have E3 := Lib.hid (poll_full (S := ⟨true, false, false, 0, [(1, 9)], W⟩) P3 rfl)
  have o1 : ors 0 [a] = a := zero_or ha
  have E4 := Lib.hid (raise_one (b := true) (m := false) (c := false) (x := 0) (y := (1, 9)) (W := W) (ys := [a]) (by rw [o1, hW]; simp [met, and_self32 ha, h1]))
  rw [o1] at E4
  clear h1 h2 P1 P2 P3 o1 hW e1
  go_enter Try.func7, Try.ntmps7
  go_wp2_with fail
  refine (known_ok w).mono ?_
  rintro e w0 ⟨rfl, hb0⟩
  go_wp2_with fail
  refine (new_at w w0 true false false 0 hb0).mono ?_
  rintro e w1 ⟨s, p, rfl, h1, _, _, _⟩
  go_wp2_with fail
  refine (wait_at h1 F0.out E1.out).mono ?_
  rintro e w2 ⟨rfl, h2, _⟩
  go_wp2_with fail
  refine (wait_at h2 F1.out E2.out).mono ?_
  rintro e w3 ⟨rfl, h3, _⟩
  go_wp2_with fail
  refine (poll_at h3 E3.out).mono ?_
  rintro e w4 ⟨rfl, h4, _⟩
  have HA := Lib.hid (h4.alloc (.cells #[.int .u32 a] 22))
  have HU := Lib.hid (us_one w4 s a h4.sq.lts)
  clear h1 h2 h3 h4 hb0
  go_wp2_with fail
  refine (raise_at HA.out F1.out HU.out (n := 1) (cap := 1) rfl (by omega) E4.out (c := 1) rfl).mono ?_
  rintro e w5 ⟨X, k, rfl, hw, h5, _⟩
  obtain ⟨g, rfl, q0, q1⟩ := hw.one
  have d0 := h5.c0
  have HL := Lib.hid (len_at h5 (n := 0) rfl)
  have HB := Lib.hid h5.b
  simp only at q0
  clear HA HU hw h5 q1
  go_wp2_with fail
  refine HL.out.mono ?_
  rintro e w7 ⟨rfl, rfl⟩
  go_wp2
  go_ret
  exact ⟨rfl, HB.out⟩

/-! ### the walk -/
theorem walk (a0 : Int) (a1 : Int) (w0 : (Lit.int .u32 a0).wf = true) (w1 : (Lit.int .u32 a1).wf = true) (w : World) :
    Calls Try.prog 7 #[.int .u32 a0, .int .u32 a1] w fun e w' => e = .returned (.bool true) ∧ Below w.heap.size w w' := by
  by_cases h : a0 = 0 ∨ a1 = 0
  · exact walkOut a0 a1 h w
  · exact walkIn a0 a1 (fun e => h (.inl e)) (fun e => h (.inr e)) (u_of w0) w

/-! ### THE ROW's STEP: WRITTEN OUT: LEAVE IT -/
set_option maxRecDepth 100000 in
theorem lifted (os : Os) (started : os.Started) (H : Type) (enc : TypeId × Value → H) :
    ReturnsInHanded {} Try.checked os 7 .any (Rows.flagAloneSpec.pre6 enc Try.prog Try.f7 Rows.flagAloneRow.domain false) (Rows.flagAloneSpec.post enc Try.prog Try.f7 false true false false) := by
  refine returnsInHanded_of_change (C := Try.checked) own started (by kernel_rfl) Try.func7
    (ChangeSpec.witness6 (enc := enc) (C := Try.checked) false ⟨#[], #[.int .u32 0, .int .u32 0], []⟩ 8 (by kernel_rfl) (by kernel_rfl) (by kernel_rfl) (by kernel_rfl)) ?_
  intro W base args ds gs before hval0 hW hcnd _
  have hval : ∀ (j : Nat) t v, Try.f7.params[j]? = some t → args[j]? = some v → Value.okWide Try.prog W .any base t v := hval0
  have hW' := hW
  obtain ⟨p, q, hA0, hV, rfl, hfz, hnd⟩ := hW
  have hA : DataW.TrodAll enc Try.prog W 0 (fun _ => true) true Try.f7.params.toList args.toList ds p := hA0
  rw [Try.params7] at hA hval
  obtain ⟨v0, vs0, d0, ds0, p0, q0, hargs, rfl, rfl, h0, r0⟩ := trodAll_cons hA
  obtain ⟨v1, vs1, d1, ds1, p1, q1, rfl, rfl, rfl, h1, r1⟩ := trodAll_cons r0
  obtain ⟨rfl, rfl, rfl⟩ := trodAll_nil r1
  obtain rfl : args = #[v0, v1] := by cases args; simp_all
  obtain ⟨rfl, rfl⟩ := trodVars_none hV
  obtain ⟨a0, rfl, rfl, rfl, w0⟩ := open_int Try.underlying22 (hval 0 22 v0 rfl rfl) h0
  obtain ⟨a1, rfl, rfl, rfl, w1⟩ := open_int Try.underlying22 (hval 1 22 v1 rfl rfl) h1
  clear hA0 hval0
  simp only [List.append_nil] at hW'
  refine (walk a0 a1 w0 w1 W).mono fun e W' ⟨he, hg⟩ => ?_
  subst he
  exact ⟨_, rfl, _, _, _, [], [], [], hW', (trodAll_cons_mk (shut_bool Try.underlying4 _) trodAll_mk0), (trodAll_cons_mk (shut_int Try.underlying22 w0) (trodAll_cons_mk (shut_int Try.underlying22 w1) trodAll_mk0)), rfl, hg.frame _, fun h => by cases h⟩

theorem over : Rows.flagAloneRow.holds Try.pinned (OpenSpec.ofChange Rows.flagAloneSpec) :=
  OpenClaim.holds_of_wide 7 Try.f7 rfl rfl rfl rfl rfl rfl rfl ⟨rfl, rfl, rfl, rfl, rfl⟩ rfl rfl rfl rfl rfl (by kernel_rfl) Try.func7 (by kernel_rfl)
    (of_decide_eq_true (by kernel_rfl)) (by unfold Func.isWrapper; first | (rw [if_pos (by decide +kernel)]; kernel_rfl) | (rw [if_neg (by decide +kernel)]; exact ⟨rfl, rfl⟩))
    (fun os started H enc _ => lifted os started H enc)

/-- ████ THE STATEMENT ████ -/
theorem proved : Rows.FlagAloneSaid :=
  over
#print axioms proved
end Go.Proofs.Ythgcmjiebdnnfaa.flagAlone
namespace Go.Proofs.Ythgcmjiebdnnfaa
theorem flagAlone_holds : Rows.FlagAloneSaid := flagAlone.proved
end Go.Proofs.Ythgcmjiebdnnfaa
