/- What is due of timers filled with numbers; no walk. -/
import Derived.Test.YtpnhpgdidineaaaConM
namespace Go.Proofs.Ytpnhpgdidineaaa
open Go.RowKit

/-- each entry of S is one of those that were filled in -/
def Of (q : Nat → Int) (n : Nat) (S : List En) : Prop := ∀ x, x ∈ S → ∃ i : Nat, i < n ∧ x = (q i, (i : Int) + 1, (i : Int))
theorem of_fil (q : Nat → Int) (n : Nat) : Of q n (fil q n) := fun x hx => (fil_mem q n x).1 hx
theorem of_sub {q : Nat → Int} {n : Nat} {S S' : List En} (h : Of q n S) (hs : ∀ x, x ∈ S' → x ∈ S) : Of q n S' := fun x hx => h x (hs x hx)
theorem args_get (D : List En) (j : Nat) : (args D)[j]? = (D[j]?).map fun x => x.2.2 := by unfold args; rw [List.getElem?_map]

theorem due_elem {q : Nat → Int} {n : Nat} {S : List En} {m : Int} (hs : S.Pairwise lt) (hS : Of q n S) (hm : ∀ x, x ∈ S → m ≤ x.1) {j : Nat} (hj : j < (due S m).length) :
    ∃ i : Nat, i < n ∧ q i = m ∧ (q i, (i : Int) + 1, (i : Int)) ∈ S ∧ (args (due S m))[j]? = some (i : Int) ∧ (0 < j → ∃ i' : Nat, i' < i ∧ (args (due S m))[j - 1]? = some (i' : Int)) := by
  have key : ∀ k, k < (due S m).length → ∃ i : Nat, i < n ∧ q i = m ∧ (due S m)[k]? = some (q i, (i : Int) + 1, (i : Int)) ∧ (q i, (i : Int) + 1, (i : Int)) ∈ S := fun k hk => by
    have h1 : (due S m)[k] ∈ due S m := List.getElem_mem hk
    obtain ⟨h2, h3⟩ := (mem_due hs m _).1 h1
    obtain ⟨i, hi, e⟩ := hS _ h2
    have h4 := hm _ h2
    rw [e] at h3 h4
    refine ⟨i, hi, ?_, by rw [List.getElem?_eq_getElem hk, e], by rw [← e]; exact h2⟩
    show q i = m
    have h3' : q i ≤ m := h3
    have h4' : m ≤ q i := h4
    omega
  obtain ⟨i, hi, hq, he, hmem⟩ := key j hj
  refine ⟨i, hi, hq, hmem, by rw [args_get, he]; rfl, fun h0 => ?_⟩
  obtain ⟨i', hi', hq', he', _⟩ := key (j - 1) (by omega)
  refine ⟨i', ?_, by rw [args_get, he']; rfl⟩
  have hp := List.pairwise_iff_getElem.1 (due_srt hs m) (j - 1) j (by omega) hj (by omega)
  have e1 : (due S m)[j - 1]'(by omega) = (q i', (i' : Int) + 1, (i' : Int)) := by have := List.getElem?_eq_getElem (l := due S m) (i := j - 1) (by omega); rw [he'] at this; injection this with this; exact this.symm
  have e2 : (due S m)[j] = (q i, (i : Int) + 1, (i : Int)) := by have := List.getElem?_eq_getElem (l := due S m) (i := j) hj; rw [he] at this; injection this with this; exact this.symm
  rw [e1, e2] at hp
  unfold lt at hp
  have hp' : q i' < q i ∨ (q i' = q i ∧ (i' : Int) + 1 < (i : Int) + 1) := hp
  omega
/-- something is due at the first one's time -/
theorem due_pos (s : En) (S : List En) : 0 < (due (s :: S) s.1).length := by rw [(due_cons (Int.le_refl _)).1]; simp
theorem rst_sub (S : List En) (m : Int) : ∀ x, x ∈ rst S m → x ∈ S := fun _ hx => (List.dropWhile_sublist _).subset hx
end Go.Proofs.Ytpnhpgdidineaaa
