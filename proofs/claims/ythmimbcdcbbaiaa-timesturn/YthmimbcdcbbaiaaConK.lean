/- The contract of 'known': it returns true; the world has at most new blocks. -/
import Derived.Test.YthmimbcdcbbaiaaConM
namespace Go.Proofs.Ythmimbcdcbbaiaa
open Go.RowKit

set_option maxHeartbeats 1000000 in
theorem known_any (w : World) :
    Calls Try.prog 11 #[] w fun e w' => e = .returned (.bool true) ∧ Grown w w' ∧ Below w.heap.size w w' := by
  go_enter Try.func11, Try.ntmps11
  go_wp2_with fail
  refine (rel_ok 5 (by omega) (by omega) _).mono ?_; rintro e w' ⟨rfl, rfl⟩
  go_wp2_with fail
  refine (rel_low (-1) (by omega) _).mono ?_; rintro e w' ⟨rfl, rfl⟩
  go_wp2_with fail
  refine (add_any _ _ 1 (by rfl) _).mono ?_; rintro e w' ⟨rfl, rfl⟩
  go_wp2_with fail
  refine (gap_any _ _ 2 (by rfl) _).mono ?_; rintro e w' ⟨rfl, rfl⟩
  go_wp2_with fail
  refine (gap_any _ _ (-1) (by rfl) _).mono ?_; rintro e w' ⟨rfl, rfl⟩
  go_wp2_with fail
  refine (due_any _ _ true (by rfl) _).mono ?_; rintro e w' ⟨rfl, rfl⟩
  go_wp2_with fail
  refine (due_any _ _ false (by rfl) _).mono ?_; rintro e w' ⟨rfl, rfl⟩
  go_wp2_with fail
  refine (ticks_any _ _ 3 (by omega) (by omega) (by omega) (by rfl) _).mono ?_; rintro e w' ⟨rfl, rfl⟩
  go_wp2_with fail
  refine (align_any _ _ 8 (by rfl) _).mono ?_; rintro e w' ⟨rfl, rfl⟩
  go_wp2_with fail
  refine (max_any (fun i => match i with | 0 => 1 | 1 => 3 | _ => 2) _ _ 0 2 3 (by omega) (by unfold maxLen; omega) ?_).mono ?_
  · intro i hi
    match i, hi with
    | 0, _ => simp
    | 1, _ => simp
    | 2, _ => simp
  rintro e w' ⟨rfl, rfl⟩
  go_wp2_with fail
  refine (min_any (fun i => match i with | 0 => 2 | 1 => 1 | _ => 3) _ _ 0 2 3 (by omega) (by unfold maxLen; omega) ?_).mono ?_
  · intro i hi
    match i, hi with
    | 0, _ => simp
    | 1, _ => simp
    | 2, _ => simp
  rintro e w' ⟨rfl, rfl⟩
  go_wp2
  go_ret
  exact ⟨rfl, ((Grown.refl _).alloc _ _).alloc _ _, ((Below.refl _ _).alloc (Nat.le_refl _) _).alloc (by simp) _⟩
end Go.Proofs.Ythmimbcdcbbaiaa
