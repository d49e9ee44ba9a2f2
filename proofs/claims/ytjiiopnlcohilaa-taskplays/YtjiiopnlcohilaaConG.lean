/- Numbers that came in; how they are kept. -/
import Derived.Test.YtjiiopnlcohilaaConE
import Derived.OpenShut
namespace Go.Proofs.Ytjiiopnlcohilaa
open Go.RowKit

theorem src_of {w : World} {a : Option Addr} {len cap : Nat} {zs : List Int} (h : (a = none ∧ len = 0 ∧ cap = 0 ∧ zs = []) ∨
  ∃ x, a = some x ∧ len ≤ cap ∧ cap ≤ maxLen ∧ zs.length = cap ∧ (∀ i, i < zs.length → w.cell? (x.add i) = some (.int .i64 (zs.getD i 0))) ∧ ∀ n ∈ zs, (Lit.int .i64 n).wf = true) :
    len ≤ 9223372036854775807 ∧ ∃ L : List Int, L.length = len ∧ Src w a L := by
  rcases h with ⟨_, rfl, _⟩ | ⟨x, rfl, hlc, hm, hz, hc, _⟩
  · exact ⟨by omega, [], rfl, fun h => absurd h (by simp)⟩
  · refine ⟨by unfold maxLen at hm; omega, zs.take len, by rw [List.length_take]; omega, fun h0 => ?_⟩
    rw [List.length_take] at h0
    obtain ⟨b, o, s⟩ := x
    have hc0 := hc 0 (by omega)
    have hs : s = none := by
      cases s with
      | none => rfl
      | some q => simp [Addr.add, World.cell?] at hc0; split at hc0 <;> simp at hc0
    subst hs
    have hb : b < w.heap.size := by have := lt_of_cell hc0; simpa [Addr.add] using this
    refine ⟨b, o, rfl, hb, fun j x hx => ?_⟩
    have hj : j < (zs.take len).length := (List.getElem?_eq_some_iff.1 hx).1
    rw [List.length_take] at hj
    have := hc j (by omega)
    rw [addr_add] at this
    rw [this]
    rw [List.getElem?_take_of_lt (by omega)] at hx
    rw [List.getD_eq_getElem?_getD, hx]; rfl

theorem Src.below {w w' : World} {a : Option Addr} {L : List Int} (h : Src w a L) (k : Below w.heap.size w w') : Src w' a L := fun h0 => by
  obtain ⟨b, o, h1, h2, h3⟩ := h h0
  exact ⟨b, o, h1, Nat.lt_of_lt_of_le h2 k.size, fun j x hx => by rw [k.cell (p := ⟨b, o + j, none⟩) h2]; exact h3 j x hx⟩
theorem Src.at_ {w : World} {a : Option Addr} {L : List Int} (h : Src w a L) {j : Nat} (hj : j < L.length) :
    ∃ b o x, a = some ⟨b, o, none⟩ ∧ L[j]? = some x ∧ w.cell? ⟨b, o + j, none⟩ = some (.int .i64 x) := by
  obtain ⟨b, o, h1, h2, h3⟩ := h (by omega)
  exact ⟨b, o, L[j], h1, by simp, h3 j _ (by simp)⟩
theorem below_drewN (w : World) (n : Nat) : Below w.heap.size w (w.drewN n) := ⟨rfl, rfl, rfl, Nat.le_refl _, fun _ _ => rfl⟩

/-- the five states; how often X is among the first k -/
def at5 : Nat → Int
  | 0 => 2 | 1 => 4 | 2 => 8 | 3 => 12 | _ => 16
def hits (X : Int) : Nat → Nat
  | 0 => 0
  | k + 1 => if X = at5 k then hits X k + 1 else hits X k
theorem hits_le (X : Int) : ∀ k, hits X k ≤ k
  | 0 => Nat.le_refl 0
  | k + 1 => by unfold hits; have := hits_le X k; split <;> omega
theorem hits5 {s : St} (h : Good s) : hits s.X 5 = 1 := by
  rcases h.2.2.2 with h | h | h | h | h <;> rw [h.1] <;> rfl
/-- among the first t -/
def among (L : List Int) (x : Int) (t : Nat) : Bool := decide (x ∈ L.take t)
theorem among_next {L : List Int} {x y : Int} {t : Nat} (h : L[t]? = some y) : among L x (t + 1) = (among L x t || decide (y = x)) := by
  unfold among
  have hlt : t < L.length := (List.getElem?_eq_some_iff.1 h).1
  have e : L.take (t + 1) = L.take t ++ [y] := by
    rw [List.take_add_one, h]; rfl
  rw [e]
  by_cases c : y = x
  · subst c; simp
  · have : ¬ x = y := fun h => c h.symm
    simp [c, this]
theorem among_all {L : List Int} {x : Int} {n : Nat} (h : L.length = n) : among L x n = decide (x ∈ L) := by
  unfold among; rw [← h, List.take_length]
end Go.Proofs.Ytjiiopnlcohilaa
