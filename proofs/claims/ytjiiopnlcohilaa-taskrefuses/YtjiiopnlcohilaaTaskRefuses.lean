/-
  PROVED: the Go function detentlaw10.TaskRefuses returns true for every input, and each argument reads behind the call as it read before (Rows.TaskRefusesSaid). No condition.
-/
import Derived.Test.YtjiiopnlcohilaaRows
import Derived.Test.YtjiiopnlcohilaaConF
import Derived.WalkKit
import Derived.ProofKit
import Derived.OpenShut
import Derived.ShutString
import Derived.ChangeOld
import Derived.Below
namespace Go.Proofs.Ytjiiopnlcohilaa.taskRefuses
open Go.ChangeShapes Go.WideShapes Go.ChangeAt Go.RowKit
open Go.ChangeMaps (open_string shut_string)
set_option linter.unusedVariables false      -- a walk need not use every 'w<i>' (that an integer argument fits its kind)

theorem own : ownKnob Try.prog.godebug = none := by kernel_rfl

set_option maxHeartbeats 800000 in
theorem walk1 (w : World) : Calls Try.prog 8 #[.int .i64 1] w fun e w' => e = .returned (.bool true) ∧ Below w.heap.size w w' := by
  go_enter Try.func8, Try.ntmps8
  go_wp2_with fail
  refine (known_any w).mono ?_
  rintro e w1 ⟨rfl, hb⟩
  have H0 := Lib.hid hb
  clear hb
  go_wp2_with fail
  refine (new_at w w1 H0.out).mono ?_
  rintro e w2 ⟨p, rfl, h2⟩
  have H2 := Lib.hid h2
  clear h2 H0
  go_wp2_with fail
  refine (do_at H2.out 1 ⟨0, 0, 0, 16, false⟩ 0 0 rfl).mono ?_
  rintro e w3 ⟨rfl, h3⟩
  have H3 := Lib.hid h3
  clear h3 H2
  go_wp2_with fail
  refine (is_at H3.out 16 true (by decide)).mono ?_
  rintro e w4 ⟨rfl, h4⟩
  obtain ⟨c0, c1, c2⟩ := five3 h4
  have H4 := Lib.hid h4
  clear h4 H3
  go_wp2_with fail
  refine (any_at H4.out false (by decide)).mono ?_
  rintro e w5 ⟨rfl, h5⟩
  have H5 := Lib.hid h5
  clear h5 H4 c0 c1 c2
  go_wp2
  go_ret
  exact ⟨rfl, H5.out.be⟩

set_option maxHeartbeats 800000 in
theorem walk2 (w : World) : Calls Try.prog 8 #[.int .i64 2] w fun e w' => e = .returned (.bool true) ∧ Below w.heap.size w w' := by
  go_enter Try.func8, Try.ntmps8
  go_wp2_with fail
  refine (known_any w).mono ?_
  rintro e w1 ⟨rfl, hb⟩
  have H0 := Lib.hid hb
  clear hb
  go_wp2_with fail
  refine (new_at w w1 H0.out).mono ?_
  rintro e w2 ⟨p, rfl, h2⟩
  have H2 := Lib.hid h2
  clear h2 H0
  go_wp2_with fail
  refine (do_at H2.out 2 ⟨0, 0, 0, 16, false⟩ 0 0 rfl).mono ?_
  rintro e w3 ⟨rfl, h3⟩
  have H3 := Lib.hid h3
  clear h3 H2
  go_wp2_with fail
  refine (is_at H3.out 16 true (by decide)).mono ?_
  rintro e w4 ⟨rfl, h4⟩
  obtain ⟨c0, c1, c2⟩ := five3 h4
  have H4 := Lib.hid h4
  clear h4 H3
  go_wp2_with fail
  refine (any_at H4.out false (by decide)).mono ?_
  rintro e w5 ⟨rfl, h5⟩
  have H5 := Lib.hid h5
  clear h5 H4 c0 c1 c2
  go_wp2
  go_ret
  exact ⟨rfl, H5.out.be⟩

set_option maxHeartbeats 800000 in
theorem walk3 (w : World) : Calls Try.prog 8 #[.int .i64 3] w fun e w' => e = .returned (.bool true) ∧ Below w.heap.size w w' := by
  go_enter Try.func8, Try.ntmps8
  go_wp2_with fail
  refine (known_any w).mono ?_
  rintro e w1 ⟨rfl, hb⟩
  have H0 := Lib.hid hb
  clear hb
  go_wp2_with fail
  refine (new_at w w1 H0.out).mono ?_
  rintro e w2 ⟨p, rfl, h2⟩
  have H2 := Lib.hid h2
  clear h2 H0
  go_wp2_with fail
  refine (do_at H2.out 3 ⟨0, 0, 0, 16, false⟩ 0 (-41) rfl).mono ?_
  rintro e w3 ⟨rfl, h3⟩
  have H3 := Lib.hid h3
  clear h3 H2
  go_wp2_with fail
  refine (is_at H3.out 16 true (by decide)).mono ?_
  rintro e w4 ⟨rfl, h4⟩
  obtain ⟨c0, c1, c2⟩ := five3 h4
  have H4 := Lib.hid h4
  clear h4 H3
  go_wp2_with fail
  refine (any_at H4.out false (by decide)).mono ?_
  rintro e w5 ⟨rfl, h5⟩
  have H5 := Lib.hid h5
  clear h5 H4 c0 c1 c2
  go_wp2
  go_ret
  exact ⟨rfl, H5.out.be⟩

set_option maxHeartbeats 800000 in
theorem walk4 (w : World) : Calls Try.prog 8 #[.int .i64 4] w fun e w' => e = .returned (.bool true) ∧ Below w.heap.size w w' := by
  go_enter Try.func8, Try.ntmps8
  go_wp2_with fail
  refine (known_any w).mono ?_
  rintro e w1 ⟨rfl, hb⟩
  have H0 := Lib.hid hb
  clear hb
  go_wp2_with fail
  refine (new_at w w1 H0.out).mono ?_
  rintro e w2 ⟨p, rfl, h2⟩
  have H2 := Lib.hid h2
  clear h2 H0
  go_wp2_with fail
  refine (do_at H2.out 4 ⟨0, 0, 0, 16, false⟩ 0 (-41) rfl).mono ?_
  rintro e w3 ⟨rfl, h3⟩
  have H3 := Lib.hid h3
  clear h3 H2
  go_wp2_with fail
  refine (is_at H3.out 16 true (by decide)).mono ?_
  rintro e w4 ⟨rfl, h4⟩
  obtain ⟨c0, c1, c2⟩ := five3 h4
  have H4 := Lib.hid h4
  clear h4 H3
  go_wp2_with fail
  refine (any_at H4.out false (by decide)).mono ?_
  rintro e w5 ⟨rfl, h5⟩
  have H5 := Lib.hid h5
  clear h5 H4 c0 c1 c2
  go_wp2
  go_ret
  exact ⟨rfl, H5.out.be⟩

set_option maxHeartbeats 800000 in
theorem walk5 (w : World) : Calls Try.prog 8 #[.int .i64 5] w fun e w' => e = .returned (.bool true) ∧ Below w.heap.size w w' := by
  go_enter Try.func8, Try.ntmps8
  go_wp2_with fail
  refine (known_any w).mono ?_
  rintro e w1 ⟨rfl, hb⟩
  have H0 := Lib.hid hb
  clear hb
  go_wp2_with fail
  refine (new_at w w1 H0.out).mono ?_
  rintro e w2 ⟨p, rfl, h2⟩
  have H2 := Lib.hid h2
  clear h2 H0
  go_wp2_with fail
  refine (do_at H2.out 5 ⟨0, 0, 0, 16, false⟩ 0 (-41) rfl).mono ?_
  rintro e w3 ⟨rfl, h3⟩
  have H3 := Lib.hid h3
  clear h3 H2
  go_wp2_with fail
  refine (is_at H3.out 16 true (by decide)).mono ?_
  rintro e w4 ⟨rfl, h4⟩
  obtain ⟨c0, c1, c2⟩ := five3 h4
  have H4 := Lib.hid h4
  clear h4 H3
  go_wp2_with fail
  refine (any_at H4.out false (by decide)).mono ?_
  rintro e w5 ⟨rfl, h5⟩
  have H5 := Lib.hid h5
  clear h5 H4 c0 c1 c2
  go_wp2
  go_ret
  exact ⟨rfl, H5.out.be⟩

set_option maxHeartbeats 800000 in
theorem walk6 (w : World) : Calls Try.prog 8 #[.int .i64 6] w fun e w' => e = .returned (.bool true) ∧ Below w.heap.size w w' := by
  go_enter Try.func8, Try.ntmps8
  go_wp2_with fail
  refine (known_any w).mono ?_
  rintro e w1 ⟨rfl, hb⟩
  have H0 := Lib.hid hb
  clear hb
  go_wp2_with fail
  refine (new_at w w1 H0.out).mono ?_
  rintro e w2 ⟨p, rfl, h2⟩
  have H2 := Lib.hid h2
  clear h2 H0
  go_wp2_with fail
  refine (do_at H2.out 6 ⟨0, 0, 0, 16, false⟩ 0 (-41) rfl).mono ?_
  rintro e w3 ⟨rfl, h3⟩
  have H3 := Lib.hid h3
  clear h3 H2
  go_wp2_with fail
  refine (is_at H3.out 16 true (by decide)).mono ?_
  rintro e w4 ⟨rfl, h4⟩
  obtain ⟨c0, c1, c2⟩ := five3 h4
  have H4 := Lib.hid h4
  clear h4 H3
  go_wp2_with fail
  refine (any_at H4.out false (by decide)).mono ?_
  rintro e w5 ⟨rfl, h5⟩
  have H5 := Lib.hid h5
  clear h5 H4 c0 c1 c2
  go_wp2
  go_ret
  exact ⟨rfl, H5.out.be⟩

set_option maxHeartbeats 800000 in
theorem walk7 (w : World) : Calls Try.prog 8 #[.int .i64 7] w fun e w' => e = .returned (.bool true) ∧ Below w.heap.size w w' := by
  go_enter Try.func8, Try.ntmps8
  go_wp2_with fail
  refine (known_any w).mono ?_
  rintro e w1 ⟨rfl, hb⟩
  have H0 := Lib.hid hb
  clear hb
  go_wp2_with fail
  refine (new_at w w1 H0.out).mono ?_
  rintro e w2 ⟨p, rfl, h2⟩
  have H2 := Lib.hid h2
  clear h2 H0
  go_wp2_with fail
  refine (do_at H2.out 7 ⟨0, 0, 0, 16, false⟩ 0 (-41) rfl).mono ?_
  rintro e w3 ⟨rfl, h3⟩
  have H3 := Lib.hid h3
  clear h3 H2
  go_wp2_with fail
  refine (is_at H3.out 16 true (by decide)).mono ?_
  rintro e w4 ⟨rfl, h4⟩
  obtain ⟨c0, c1, c2⟩ := five3 h4
  have H4 := Lib.hid h4
  clear h4 H3
  go_wp2_with fail
  refine (any_at H4.out false (by decide)).mono ?_
  rintro e w5 ⟨rfl, h5⟩
  have H5 := Lib.hid h5
  clear h5 H4 c0 c1 c2
  go_wp2
  go_ret
  exact ⟨rfl, H5.out.be⟩

set_option maxHeartbeats 800000 in
theorem walk8 (w : World) : Calls Try.prog 8 #[.int .i64 8] w fun e w' => e = .returned (.bool true) ∧ Below w.heap.size w w' := by
  go_enter Try.func8, Try.ntmps8
  go_wp2_with fail
  refine (known_any w).mono ?_
  rintro e w1 ⟨rfl, hb⟩
  have H0 := Lib.hid hb
  clear hb
  go_wp2_with fail
  refine (new_at w w1 H0.out).mono ?_
  rintro e w2 ⟨p, rfl, h2⟩
  have H2 := Lib.hid h2
  clear h2 H0
  go_wp2_with fail
  refine (do_at H2.out 8 ⟨0, 0, 0, 16, false⟩ 0 0 rfl).mono ?_
  rintro e w3 ⟨rfl, h3⟩
  have H3 := Lib.hid h3
  clear h3 H2
  go_wp2_with fail
  refine (is_at H3.out 16 true (by decide)).mono ?_
  rintro e w4 ⟨rfl, h4⟩
  obtain ⟨c0, c1, c2⟩ := five3 h4
  have H4 := Lib.hid h4
  clear h4 H3
  go_wp2_with fail
  refine (any_at H4.out false (by decide)).mono ?_
  rintro e w5 ⟨rfl, h5⟩
  have H5 := Lib.hid h5
  clear h5 H4 c0 c1 c2
  go_wp2
  go_ret
  exact ⟨rfl, H5.out.be⟩

set_option maxHeartbeats 800000 in
theorem walk9 (w : World) : Calls Try.prog 8 #[.int .i64 9] w fun e w' => e = .returned (.bool true) ∧ Below w.heap.size w w' := by
  go_enter Try.func8, Try.ntmps8
  go_wp2_with fail
  refine (known_any w).mono ?_
  rintro e w1 ⟨rfl, hb⟩
  have H0 := Lib.hid hb
  clear hb
  go_wp2_with fail
  refine (new_at w w1 H0.out).mono ?_
  rintro e w2 ⟨p, rfl, h2⟩
  have H2 := Lib.hid h2
  clear h2 H0
  go_wp2_with fail
  refine (do_at H2.out 9 ⟨0, 0, 0, 16, false⟩ 0 (-41) rfl).mono ?_
  rintro e w3 ⟨rfl, h3⟩
  have H3 := Lib.hid h3
  clear h3 H2
  go_wp2_with fail
  refine (is_at H3.out 16 true (by decide)).mono ?_
  rintro e w4 ⟨rfl, h4⟩
  obtain ⟨c0, c1, c2⟩ := five3 h4
  have H4 := Lib.hid h4
  clear h4 H3
  go_wp2_with fail
  refine (any_at H4.out false (by decide)).mono ?_
  rintro e w5 ⟨rfl, h5⟩
  have H5 := Lib.hid h5
  clear h5 H4 c0 c1 c2
  go_wp2
  go_ret
  exact ⟨rfl, H5.out.be⟩

set_option maxHeartbeats 800000 in
theorem walk10 (w : World) : Calls Try.prog 8 #[.int .i64 10] w fun e w' => e = .returned (.bool true) ∧ Below w.heap.size w w' := by
  go_enter Try.func8, Try.ntmps8
  go_wp2_with fail
  refine (known_any w).mono ?_
  rintro e w1 ⟨rfl, hb⟩
  have H0 := Lib.hid hb
  clear hb
  go_wp2_with fail
  refine (new_at w w1 H0.out).mono ?_
  rintro e w2 ⟨p, rfl, h2⟩
  have H2 := Lib.hid h2
  clear h2 H0
  go_wp2_with fail
  refine (do_at H2.out 10 ⟨0, 0, 0, 16, false⟩ 0 (-41) rfl).mono ?_
  rintro e w3 ⟨rfl, h3⟩
  have H3 := Lib.hid h3
  clear h3 H2
  go_wp2_with fail
  refine (is_at H3.out 16 true (by decide)).mono ?_
  rintro e w4 ⟨rfl, h4⟩
  obtain ⟨c0, c1, c2⟩ := five3 h4
  have H4 := Lib.hid h4
  clear h4 H3
  go_wp2_with fail
  refine (any_at H4.out false (by decide)).mono ?_
  rintro e w5 ⟨rfl, h5⟩
  have H5 := Lib.hid h5
  clear h5 H4 c0 c1 c2
  go_wp2
  go_ret
  exact ⟨rfl, H5.out.be⟩

set_option maxHeartbeats 800000 in
theorem walk11 (w : World) : Calls Try.prog 8 #[.int .i64 11] w fun e w' => e = .returned (.bool true) ∧ Below w.heap.size w w' := by
  go_enter Try.func8, Try.ntmps8
  go_wp2_with fail
  refine (known_any w).mono ?_
  rintro e w1 ⟨rfl, hb⟩
  have H0 := Lib.hid hb
  clear hb
  go_wp2_with fail
  refine (new_at w w1 H0.out).mono ?_
  rintro e w2 ⟨p, rfl, h2⟩
  have H2 := Lib.hid h2
  clear h2 H0
  go_wp2_with fail
  refine (do_at H2.out 11 ⟨0, 0, 0, 16, false⟩ 0 (-41) rfl).mono ?_
  rintro e w3 ⟨rfl, h3⟩
  have H3 := Lib.hid h3
  clear h3 H2
  go_wp2_with fail
  refine (is_at H3.out 16 true (by decide)).mono ?_
  rintro e w4 ⟨rfl, h4⟩
  obtain ⟨c0, c1, c2⟩ := five3 h4
  have H4 := Lib.hid h4
  clear h4 H3
  go_wp2_with fail
  refine (any_at H4.out false (by decide)).mono ?_
  rintro e w5 ⟨rfl, h5⟩
  have H5 := Lib.hid h5
  clear h5 H4 c0 c1 c2
  go_wp2
  go_ret
  exact ⟨rfl, H5.out.be⟩

theorem walk0 (w : World) : Calls Try.prog 8 #[.int .i64 0] w fun e w' => e = .returned (.bool true) ∧ Below w.heap.size w w' := by
  go_enter Try.func8, Try.ntmps8
  go_wp2_with fail
  refine (known_any w).mono ?_
  rintro e w1 ⟨rfl, hb⟩
  have H0 := Lib.hid hb
  clear hb
  go_wp2
  go_ret
  exact ⟨rfl, H0.out⟩

set_option maxHeartbeats 800000 in
theorem walkNo (a : Int) (ha : ∀ k : Int, 0 ≤ k → k ≤ 11 → ¬ a = k) (w : World) : Calls Try.prog 8 #[.int .i64 a] w fun e w' => e = .returned (.bool true) ∧ Below w.heap.size w w' := by
  have n0 := ha 0 (by omega) (by omega)
  have n1 := ha 1 (by omega) (by omega)
  have n2 := ha 2 (by omega) (by omega)
  have n3 := ha 3 (by omega) (by omega)
  have n4 := ha 4 (by omega) (by omega)
  have n5 := ha 5 (by omega) (by omega)
  have n6 := ha 6 (by omega) (by omega)
  have n7 := ha 7 (by omega) (by omega)
  have n8 := ha 8 (by omega) (by omega)
  have n9 := ha 9 (by omega) (by omega)
  have n10 := ha 10 (by omega) (by omega)
  have n11 := ha 11 (by omega) (by omega)
  have hst : step a born = (⟨0, 0, 0, 16, false⟩, 0, 0) := by
    unfold step
    rw [if_neg n0, if_neg n1, if_neg n2, if_neg n3, if_neg n4, if_neg n5, if_neg n6, if_neg n7, if_neg n8, if_neg n9, if_neg n10, if_neg n11]
    rfl
  have HS := Lib.hid hst
  clear hst ha
  have m0 : (a == 0) = false := by simpa using n0
  have m1 : (a == 1) = false := by simpa using n1
  have m2 : (a == 2) = false := by simpa using n2
  have m3 : (a == 3) = false := by simpa using n3
  have m4 : (a == 4) = false := by simpa using n4
  have m5 : (a == 5) = false := by simpa using n5
  have m6 : (a == 6) = false := by simpa using n6
  have m7 : (a == 7) = false := by simpa using n7
  have m8 : (a == 8) = false := by simpa using n8
  have m9 : (a == 9) = false := by simpa using n9
  have m10 : (a == 10) = false := by simpa using n10
  have m11 : (a == 11) = false := by simpa using n11
  go_enter Try.func8, Try.ntmps8
  go_wp2_with fail
  refine (known_any w).mono ?_
  rintro e w1 ⟨rfl, hb⟩
  have H0 := Lib.hid hb
  clear hb
  go_wp2_with fail
  refine (new_at w w1 H0.out).mono ?_
  rintro e w2 ⟨p, rfl, h2⟩
  have H2 := Lib.hid h2
  clear h2 H0
  go_wp2_with fail
  refine (do_at H2.out a ⟨0, 0, 0, 16, false⟩ 0 0 HS.out).mono ?_
  rintro e w3 ⟨rfl, h3⟩
  have H3 := Lib.hid h3
  clear h3 H2
  go_wp2_with fail
  refine (is_at H3.out 16 true (by decide)).mono ?_
  rintro e w4 ⟨rfl, h4⟩
  obtain ⟨c0, c1, c2⟩ := five3 h4
  have H4 := Lib.hid h4
  clear h4 H3
  go_wp2_with fail
  refine (any_at H4.out false (by decide)).mono ?_
  rintro e w5 ⟨rfl, h5⟩
  have H5 := Lib.hid h5
  clear h5 H4 c0 c1 c2
  go_wp2
  go_ret
  exact ⟨rfl, H5.out.be⟩


/-! ### the walk -/
theorem walk (a0 : Int) (w0 : (Lit.int .i64 a0).wf = true) (w : World) :
    Calls Try.prog 8 #[.int .i64 a0] w fun e w' => e = .returned (.bool true) ∧ Below w.heap.size w w' := by
  by_cases n0 : a0 = 0
  · subst n0; exact walk0 w
  by_cases n1 : a0 = 1
  · subst n1; exact walk1 w
  by_cases n2 : a0 = 2
  · subst n2; exact walk2 w
  by_cases n3 : a0 = 3
  · subst n3; exact walk3 w
  by_cases n4 : a0 = 4
  · subst n4; exact walk4 w
  by_cases n5 : a0 = 5
  · subst n5; exact walk5 w
  by_cases n6 : a0 = 6
  · subst n6; exact walk6 w
  by_cases n7 : a0 = 7
  · subst n7; exact walk7 w
  by_cases n8 : a0 = 8
  · subst n8; exact walk8 w
  by_cases n9 : a0 = 9
  · subst n9; exact walk9 w
  by_cases n10 : a0 = 10
  · subst n10; exact walk10 w
  by_cases n11 : a0 = 11
  · subst n11; exact walk11 w
  exact walkNo a0 (fun k h0 h1 hk => by omega) w

/-! ### THE ROW's STEP: WRITTEN OUT: LEAVE IT -/
set_option maxRecDepth 100000 in
theorem lifted (os : Os) (started : os.Started) (H : Type) (enc : TypeId × Value → H) :
    ReturnsInHanded {} Try.checked os 8 .any (Rows.taskRefusesSpec.pre6 enc Try.prog Try.f8 Rows.taskRefusesRow.domain false) (Rows.taskRefusesSpec.post enc Try.prog Try.f8 false true false false) := by
  refine returnsInHanded_of_change (C := Try.checked) own started (by kernel_rfl) Try.func8
    (ChangeSpec.witness6 (enc := enc) (C := Try.checked) false ⟨#[], #[.int .i64 0], []⟩ 8 (by kernel_rfl) (by kernel_rfl) (by kernel_rfl) (by kernel_rfl)) ?_
  intro W base args ds gs before hval0 hW hcnd _
  have hval : ∀ (j : Nat) t v, Try.f8.params[j]? = some t → args[j]? = some v → Value.okWide Try.prog W .any base t v := hval0
  have hW' := hW
  obtain ⟨p, q, hA0, hV, rfl, hfz, hnd⟩ := hW
  have hA : DataW.TrodAll enc Try.prog W 0 (fun _ => true) true Try.f8.params.toList args.toList ds p := hA0
  rw [Try.params8] at hA hval
  obtain ⟨v0, vs0, d0, ds0, p0, q0, hargs, rfl, rfl, h0, r0⟩ := trodAll_cons hA
  obtain ⟨rfl, rfl, rfl⟩ := trodAll_nil r0
  obtain rfl : args = #[v0] := by cases args; simp_all
  obtain ⟨rfl, rfl⟩ := trodVars_none hV
  obtain ⟨a0, rfl, rfl, rfl, w0⟩ := open_int Try.underlying30 (hval 0 30 v0 rfl rfl) h0
  clear hA0 hval0
  simp only [List.append_nil] at hW'
  refine (walk a0 w0 W).mono fun e W' ⟨he, hg⟩ => ?_
  subst he
  exact ⟨_, rfl, _, _, _, [], [], [], hW', (trodAll_cons_mk (shut_bool Try.underlying4 _) trodAll_mk0), (trodAll_cons_mk (shut_int Try.underlying30 w0) trodAll_mk0), rfl, hg.frame _, fun h => by cases h⟩

theorem over : Rows.taskRefusesRow.holds Try.pinned (OpenSpec.ofChange Rows.taskRefusesSpec) :=
  OpenClaim.holds_of_wide 8 Try.f8 rfl rfl rfl rfl rfl rfl rfl ⟨rfl, rfl, rfl, rfl, rfl⟩ rfl rfl rfl rfl rfl (by kernel_rfl) Try.func8 (by kernel_rfl)
    (of_decide_eq_true (by kernel_rfl)) (by unfold Func.isWrapper; first | (rw [if_pos (by decide +kernel)]; kernel_rfl) | (rw [if_neg (by decide +kernel)]; exact ⟨rfl, rfl⟩))
    (fun os started H enc _ => lifted os started H enc)

/-- ████ THE STATEMENT ████ -/
theorem proved : Rows.TaskRefusesSaid :=
  over
#print axioms proved
end Go.Proofs.Ytjiiopnlcohilaa.taskRefuses
namespace Go.Proofs.Ytjiiopnlcohilaa
theorem taskRefuses_holds : Rows.TaskRefusesSaid := taskRefuses.proved
end Go.Proofs.Ytjiiopnlcohilaa
