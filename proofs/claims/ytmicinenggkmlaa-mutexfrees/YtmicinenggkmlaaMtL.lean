/- What the laws of package mtx reckon: what each call answers, by what there is. -/
import Derived.Test.YtmicinenggkmlaaMtK
namespace Go.Proofs.Ytmicinenggkmlaa
open Go.RowKit
set_option linter.unusedVariables false
set_option maxRecDepth 100000

section
variable {S : St} {m t : Int}
theorem tryL_id (h : ¬ (isM S m ∧ isT t)) : tryL S m t = (S, false, -18) := by unfold tryL; rw [if_pos h]
theorem tryL_own (hm : isM S m) (ht : isT t) (h : S.O (ix m) = t ∨ over S (ix m) (S.B t)) : tryL S m t = (S, false, -28) := by
  unfold tryL; rw [if_neg (fun e => e ⟨hm, ht⟩), if_pos h]
theorem tryL_free (hm : isM S m) (ht : isT t) (h0 : S.O (ix m) = 0) (hov : ¬ over S (ix m) (S.B t)) (hw : ∀ j, j < S.n → ¬ inq S j t) : tryL S m t = ({ S with O := upd S.O (ix m) t }, true, 0) := by
  have h1 : S.O (ix m) ≠ t := by rw [h0]; unfold isT at ht; omega
  unfold tryL
  rw [if_neg (fun e => e ⟨hm, ht⟩), if_neg (by rintro (e | e); exact h1 e; exact hov e), if_neg (fun e => by rw [fi_none hw] at e; omega), if_neg (fun e => e h0)]
theorem tryL_busy (hm : isM S m) (ht : isT t) (h0 : S.O (ix m) ≠ 0) (h1 : S.O (ix m) ≠ t) (hov : ¬ over S (ix m) (S.B t)) (hw : ∀ j, j < S.n → ¬ inq S j t) : tryL S m t = (S, false, 0) := by
  unfold tryL
  rw [if_neg (fun e => e ⟨hm, ht⟩), if_neg (by rintro (e | e); exact h1 e; exact hov e), if_neg (fun e => by rw [fi_none hw] at e; omega), if_pos h0]
theorem lockL_of_try {S' : St} {r : Bool} {c : Int} (h : tryL S m t = (S', r, c)) (hc : r = true ∨ c ≠ 0) : lockL S m t = (S', r, c) := by
  unfold lockL; rw [h]; rw [if_pos hc]
theorem lockL_id (h : ¬ (isM S m ∧ isT t)) : lockL S m t = (S, false, -18) := lockL_of_try (tryL_id h) (.inr (by omega))
theorem lockL_own (hm : isM S m) (ht : isT t) (h : S.O (ix m) = t ∨ over S (ix m) (S.B t)) : lockL S m t = (S, false, -28) := lockL_of_try (tryL_own hm ht h) (.inr (by omega))
theorem lockL_free (hm : isM S m) (ht : isT t) (h0 : S.O (ix m) = 0) (hov : ¬ over S (ix m) (S.B t)) (hw : ∀ j, j < S.n → ¬ inq S j t) : lockL S m t = ({ S with O := upd S.O (ix m) t }, true, 0) := lockL_of_try (tryL_free hm ht h0 hov hw) (.inl rfl)
theorem lockL_wait (hm : isM S m) (ht : isT t) (h0 : S.O (ix m) ≠ 0) (h1 : S.O (ix m) ≠ t) (hov : ¬ over S (ix m) (S.B t)) (hw : ∀ j, j < S.n → ¬ inq S j t) (hc : circ S (S.O (ix m)) t = false) : lockL S m t = (settle (addQ S (ix m) t), false, 0) := by
  unfold lockL
  rw [tryL_busy hm ht h0 h1 hov hw, if_neg (by simp), hc, if_neg (by simp)]
theorem lockL_circ (hm : isM S m) (ht : isT t) (h0 : S.O (ix m) ≠ 0) (h1 : S.O (ix m) ≠ t) (hov : ¬ over S (ix m) (S.B t)) (hw : ∀ j, j < S.n → ¬ inq S j t) (hc : circ S (S.O (ix m)) t = true) : lockL S m t = (S, false, -28) := by
  unfold lockL
  rw [tryL_busy hm ht h0 h1 hov hw, if_neg (by simp), hc, if_pos rfl]
theorem unlk_id (h : ¬ (isM S m ∧ isT t)) : unlk S m t = (S, 0, -18) := by unfold unlk; rw [if_pos h]
theorem unlk_not (hm : isM S m) (ht : isT t) (h : S.O (ix m) ≠ t) : unlk S m t = (S, 0, -28) := by unfold unlk; rw [if_neg (fun e => e ⟨hm, ht⟩), if_pos h]
theorem unlk_ok (hm : isM S m) (ht : isT t) (h : S.O (ix m) = t) : unlk S m t = (passS S (ix m), fst (S.Q (ix m)), 0) := by unfold unlk; rw [if_neg (fun e => e ⟨hm, ht⟩), if_neg (fun e => e h)]
theorem no_over {i : Nat} {p : Int} (h : S.A i ≠ 3) : ¬ over S i p := fun e => h e.1
theorem sbase_ok {p : Int} (ht : isT t) (hp : 1 ≤ p ∧ p ≤ 16) (hb : ¬ badB S t p) : sbase S t p = (settle (setB S t p), 0) := by
  unfold sbase; rw [if_neg (fun e => e ht), if_neg (fun e => e hp), if_neg hb]
theorem no_bad {p : Int} (h : ∀ i, i < S.n → S.A i ≠ 3) : ¬ badB S t p := fun ⟨i, hi, h1, _⟩ => h i hi h1.1
end
end Go.Proofs.Ytmicinenggkmlaa
