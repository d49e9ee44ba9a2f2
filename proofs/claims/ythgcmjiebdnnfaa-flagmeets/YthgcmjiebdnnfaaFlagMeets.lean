/-
  PROVED: the Go function detentlaw12.FlagMeets returns true for every input, and each argument reads behind the call as it read before (Rows.FlagMeetsSaid). No condition.
-/
import Derived.Test.YthgcmjiebdnnfaaRows
import Derived.Test.YthgcmjiebdnnfaaFgK
import Derived.WalkKit
import Derived.ProofKit
import Derived.OpenShut
import Derived.ShutString
import Derived.ChangeOld
import Derived.Below
namespace Go.Proofs.Ythgcmjiebdnnfaa.flagMeets
open Go.ChangeShapes Go.WideShapes Go.ChangeAt Go.RowKit
open Go.ChangeMaps (open_string shut_string)
set_option linter.unusedVariables false      -- a walk need not use every 'w<i>' (that an integer argument fits its kind)

theorem own : ownKnob Try.prog.godebug = none := by kernel_rfl

set_option maxHeartbeats 1600000 in
theorem walkZero (x : Int) (w : World) : Calls Try.prog 5 #[.int .u32 x, .int .u32 0] w fun e w' => e = .returned (.bool true) ∧ Below w.heap.size w w' := by
  have E1 := Lib.hid (poll_bad (S := ⟨false, true, false, x, [], fun _ => (0, 0)⟩) (v := (0, 0)) (by decide))
  have E2 := Lib.hid (poll_bad (S := ⟨false, true, false, x, [], fun _ => (0, 0)⟩) (v := (0, 1)) (by decide))
  go_enter Try.func5, Try.ntmps5
  go_wp2_with fail
  refine (known_ok w).mono ?_
  rintro e w0 ⟨rfl, hb0⟩
  go_wp2_with fail
  refine (new_at w w0 false true false x hb0).mono ?_
  rintro e w1 ⟨s, p, rfl, h1, _, _, _⟩
  go_wp2_with fail
  refine (poll_at h1 E1.out).mono ?_
  rintro e w2 ⟨rfl, h2, _⟩
  go_wp2_with fail
  refine (poll_at h2 E2.out).mono ?_
  rintro e w3 ⟨rfl, h3, _⟩
  go_wp2
  go_ret
  exact ⟨rfl, h3.b⟩

set_option maxHeartbeats 1600000 in
theorem walkIn (x a : Int) (h0 : a ≠ 0) (w : World) : Calls Try.prog 5 #[.int .u32 x, .int .u32 a] w fun e w' => e = .returned (.bool true) ∧ Below w.heap.size w w' := by
  have P1 : perm (a, 0) = true := by simp [perm, h0]
  have P2 : perm (a, 1) = true := by simp [perm, h0]
  have ta : (a == 0) = false := by simpa using h0
  obtain ⟨h, hh⟩ : ∃ h, bits .and .u32 x a = h := ⟨_, rfl⟩
  by_cases c0 : h = 0
  · have M1 : met x (a, 0) = false := by simp [met, hh, c0]
    have M2 : met x (a, 1) = false := by simp [met, hh, c0]
    have t1 : (h == a) = false := by rw [c0]; simpa using Ne.symm h0
    have t2 : (h != 0) = false := by simp [c0]
    have E1 := Lib.hid (poll_no (S := ⟨false, true, false, x, [], fun _ => (0, 0)⟩) P1 rfl M1)
    have E2 := Lib.hid (poll_no (S := ⟨false, true, false, x, [], fun _ => (0, 0)⟩) P2 rfl M2)
    clear P1 P2 M1 M2 c0 h0
    go_enter Try.func5, Try.ntmps5
    go_wp2_with fail
    refine (known_ok w).mono ?_
    rintro e w0 ⟨rfl, hb0⟩
    go_wp2_with fail
    refine (new_at w w0 false true false x hb0).mono ?_
    rintro e w1 ⟨s, p, rfl, h1, _, _, _⟩
    go_wp2_with fail
    refine (poll_at h1 E1.out).mono ?_
    rintro e w2 ⟨rfl, h2, _⟩
    go_wp2_with fail
    refine (poll_at h2 E2.out).mono ?_
    rintro e w3 ⟨rfl, h3, _⟩
    have d1 := h3.c1
    simp only at d1
    have HB := Lib.hid h3.b
    clear hb0 h1 h2 h3
    go_wp2
    go_ret
    exact ⟨rfl, HB.out⟩
  · have t2 : (h != 0) = true := by simpa using c0
    have M2 : met x (a, 1) = true := by simp [met, hh, c0]
    have E2 := Lib.hid (poll_yes (S := ⟨false, true, false, x, [], fun _ => (0, 0)⟩) P2 rfl M2)
    by_cases c1 : h = a
    · have M1 : met x (a, 0) = true := by simp only [met, hh]; simp [c1, h0]
      have t1 : (h == a) = true := by simpa using c1
      have E1 := Lib.hid (poll_yes (S := ⟨false, true, false, x, [], fun _ => (0, 0)⟩) P1 rfl M1)
      clear P1 P2 M1 M2 c0 c1 h0
      go_enter Try.func5, Try.ntmps5
      go_wp2_with fail
      refine (known_ok w).mono ?_
      rintro e w0 ⟨rfl, hb0⟩
      go_wp2_with fail
      refine (new_at w w0 false true false x hb0).mono ?_
      rintro e w1 ⟨s, p, rfl, h1, _, _, _⟩
      go_wp2_with fail
      refine (poll_at h1 E1.out).mono ?_
      rintro e w2 ⟨rfl, h2, _⟩
      go_wp2_with fail
      refine (poll_at (S := ⟨false, true, false, x, [], fun _ => (0, 0)⟩) h2 E2.out).mono ?_
      rintro e w3 ⟨rfl, h3, _⟩
      have d1 : w3.cell? ⟨s, 1, none⟩ = some (.int .u32 x) := h3.c1
      have HB := Lib.hid h3.b
      clear hb0 h1 h2 h3
      go_wp2
      go_ret
      exact ⟨rfl, HB.out⟩
    · have M1 : met x (a, 0) = false := by simp only [met, hh]; simp [c0, c1]
      have t1 : (h == a) = false := by simpa using c1
      have E1 := Lib.hid (poll_no (S := ⟨false, true, false, x, [], fun _ => (0, 0)⟩) P1 rfl M1)
      clear P1 P2 M1 M2 c0 c1 h0
      go_enter Try.func5, Try.ntmps5
      go_wp2_with fail
      refine (known_ok w).mono ?_
      rintro e w0 ⟨rfl, hb0⟩
      go_wp2_with fail
      refine (new_at w w0 false true false x hb0).mono ?_
      rintro e w1 ⟨s, p, rfl, h1, _, _, _⟩
      go_wp2_with fail
      refine (poll_at h1 E1.out).mono ?_
      rintro e w2 ⟨rfl, h2, _⟩
      go_wp2_with fail
      refine (poll_at h2 E2.out).mono ?_
      rintro e w3 ⟨rfl, h3, _⟩
      have d1 : w3.cell? ⟨s, 1, none⟩ = some (.int .u32 x) := h3.c1
      have HB := Lib.hid h3.b
      clear hb0 h1 h2 h3
      go_wp2
      go_ret
      exact ⟨rfl, HB.out⟩

/-! ### the walk -/
theorem walk (a0 : Int) (a1 : Int) (w0 : (Lit.int .u32 a0).wf = true) (w1 : (Lit.int .u32 a1).wf = true) (w : World) :
    Calls Try.prog 5 #[.int .u32 a0, .int .u32 a1] w fun e w' => e = .returned (.bool true) ∧ Below w.heap.size w w' := by
  by_cases h : a1 = 0
  · subst h; exact walkZero a0 w
  · exact walkIn a0 a1 h w

/-! ### THE ROW's STEP: WRITTEN OUT: LEAVE IT -/
set_option maxRecDepth 100000 in
theorem lifted (os : Os) (started : os.Started) (H : Type) (enc : TypeId × Value → H) :
    ReturnsInHanded {} Try.checked os 5 .any (Rows.flagMeetsSpec.pre6 enc Try.prog Try.f5 Rows.flagMeetsRow.domain false) (Rows.flagMeetsSpec.post enc Try.prog Try.f5 false true false false) := by
  refine returnsInHanded_of_change (C := Try.checked) own started (by kernel_rfl) Try.func5
    (ChangeSpec.witness6 (enc := enc) (C := Try.checked) false ⟨#[], #[.int .u32 0, .int .u32 0], []⟩ 8 (by kernel_rfl) (by kernel_rfl) (by kernel_rfl) (by kernel_rfl)) ?_
  intro W base args ds gs before hval0 hW hcnd _
  have hval : ∀ (j : Nat) t v, Try.f5.params[j]? = some t → args[j]? = some v → Value.okWide Try.prog W .any base t v := hval0
  have hW' := hW
  obtain ⟨p, q, hA0, hV, rfl, hfz, hnd⟩ := hW
  have hA : DataW.TrodAll enc Try.prog W 0 (fun _ => true) true Try.f5.params.toList args.toList ds p := hA0
  rw [Try.params5] at hA hval
  obtain ⟨v0, vs0, d0, ds0, p0, q0, hargs, rfl, rfl, h0, r0⟩ := trodAll_cons hA
  obtain ⟨v1, vs1, d1, ds1, p1, q1, rfl, rfl, rfl, h1, r1⟩ := trodAll_cons r0
  obtain ⟨rfl, rfl, rfl⟩ := trodAll_nil r1
  obtain rfl : args = #[v0, v1] := by cases args; simp_all
  obtain ⟨rfl, rfl⟩ := trodVars_none hV
  obtain ⟨a0, rfl, rfl, rfl, w0⟩ := open_int Try.underlying22 (hval 0 22 v0 rfl rfl) h0
  obtain ⟨a1, rfl, rfl, rfl, w1⟩ := open_int Try.underlying22 (hval 1 22 v1 rfl rfl) h1
  clear hA0 hval0
  simp only [List.append_nil] at hW'
  refine (walk a0 a1 w0 w1 W).mono fun e W' ⟨he, hg⟩ => ?_
  subst he
  exact ⟨_, rfl, _, _, _, [], [], [], hW', (trodAll_cons_mk (shut_bool Try.underlying4 _) trodAll_mk0), (trodAll_cons_mk (shut_int Try.underlying22 w0) (trodAll_cons_mk (shut_int Try.underlying22 w1) trodAll_mk0)), rfl, hg.frame _, fun h => by cases h⟩

theorem over : Rows.flagMeetsRow.holds Try.pinned (OpenSpec.ofChange Rows.flagMeetsSpec) :=
  OpenClaim.holds_of_wide 5 Try.f5 rfl rfl rfl rfl rfl rfl rfl ⟨rfl, rfl, rfl, rfl, rfl⟩ rfl rfl rfl rfl rfl (by kernel_rfl) Try.func5 (by kernel_rfl)
    (of_decide_eq_true (by kernel_rfl)) (by unfold Func.isWrapper; first | (rw [if_pos (by decide +kernel)]; kernel_rfl) | (rw [if_neg (by decide +kernel)]; exact ⟨rfl, rfl⟩))
    (fun os started H enc _ => lifted os started H enc)

/-- ████ THE STATEMENT ████ -/
theorem proved : Rows.FlagMeetsSaid :=
  over
#print axioms proved
end Go.Proofs.Ythgcmjiebdnnfaa.flagMeets
namespace Go.Proofs.Ythgcmjiebdnnfaa
theorem flagMeets_holds : Rows.FlagMeetsSaid := flagMeets.proved
end Go.Proofs.Ythgcmjiebdnnfaa
