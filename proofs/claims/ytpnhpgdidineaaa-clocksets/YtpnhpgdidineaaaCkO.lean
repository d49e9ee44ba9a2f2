/- What the laws of the clock reckon with sorted rows; no walk. -/
import Derived.Test.YtpnhpgdidineaaaCkK
namespace Go.Proofs.Ytpnhpgdidineaaa
open Go.RowKit

/-- what is left is what comes later -/
theorem rst_filter : ∀ {S : List En}, S.Pairwise lt → ∀ v : Int, rst S v = S.filter fun x => decide (v < x.1)
  | [], _, v => rfl
  | s :: S, h, v => by
    rw [List.pairwise_cons] at h
    by_cases c : s.1 ≤ v
    · rw [(due_cons c).2, rst_filter h.2 v, List.filter_cons, if_neg (by simp; omega)]
    · rw [(due_stop c).2]
      symm
      rw [List.filter_eq_self]
      intro x hx
      rcases List.mem_cons.1 hx with rfl | hx
      · simp; omega
      · have := lt_time (h.1 x hx); simp; omega
/-- how many of the first n numbers are above v -/
def cn (q : Nat → Int) (v : Int) : Nat → Nat
  | 0 => 0
  | n + 1 => cn q v n + if v < q n then 1 else 0
theorem cn_le (q : Nat → Int) (v : Int) : ∀ n, cn q v n ≤ n
  | 0 => Nat.le_refl _
  | n + 1 => by have := cn_le q v n; unfold cn; split <;> omega
theorem rst_fil {q : Nat → Int} {n : Nat} {v : Int} (h : (fil q n).Pairwise lt) : (rst (fil q n) v).length = cn q v n := by
  rw [rst_filter h v, ← List.countP_eq_length_filter]
  clear h
  induction n with
  | zero => rfl
  | succ n ih =>
    unfold fil cn
    rw [(ins_perm _ _).countP_eq, List.countP_cons, ih]
    by_cases c : v < q n
    · simp [c]
    · simp [c]
/-- a sorted row of those that were filled in, element by element -/
theorem ord_elem {q : Nat → Int} {n : Nat} {S : List En} (hs : S.Pairwise lt) (hS : Of q n S) {j : Nat} (hj : j < S.length) :
    ∃ i : Nat, i < n ∧ (args S)[j]? = some (i : Int) ∧ (0 < j → ∃ i' : Nat, i' < n ∧ (args S)[j - 1]? = some (i' : Int) ∧ (q i' < q i ∨ q i' = q i ∧ i' < i)) := by
  have key : ∀ k, (hk : k < S.length) → ∃ i : Nat, i < n ∧ S[k] = (q i, (i : Int) + 1, (i : Int)) := fun k hk => hS _ (List.getElem_mem hk)
  have get : ∀ k, (hk : k < S.length) → ∀ i : Nat, S[k] = (q i, (i : Int) + 1, (i : Int)) → (args S)[k]? = some (i : Int) := fun k hk i e => by rw [args_get, List.getElem?_eq_getElem hk, e]; rfl
  obtain ⟨i, hi, e⟩ := key j hj
  refine ⟨i, hi, get j hj i e, fun h0 => ?_⟩
  obtain ⟨i', hi', e'⟩ := key (j - 1) (by omega)
  refine ⟨i', hi', get (j - 1) (by omega) i' e', ?_⟩
  have hp := List.pairwise_iff_getElem.1 hs (j - 1) j (by omega) hj (by omega)
  rw [e, e'] at hp
  unfold lt at hp
  have hp' : q i' < q i ∨ (q i' = q i ∧ (i' : Int) + 1 < (i : Int) + 1) := hp
  omega
theorem rst_srt {S : List En} (hs : S.Pairwise lt) (now : Int) : (rst S now).Pairwise lt := hs.sublist (List.dropWhile_sublist _)
end Go.Proofs.Ytpnhpgdidineaaa
