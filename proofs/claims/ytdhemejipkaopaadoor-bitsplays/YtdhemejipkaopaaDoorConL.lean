/- Rows of integers that came in. -/
import Derived.Test.YtdhemejipkaopaaDoorLaid
namespace Go.Proofs.YtdhemejipkaopaaDoor
open Go.ChangeShapes Go.WideShapes Go.ChangeAt Go.RowKit

/-- a slice of integers that came in: nil, or a row of cells -/
def IsRow (w : World) (a : Option Addr) (len cap : Nat) (zs : List Int) : Prop :=
  (a = none ∧ len = 0 ∧ cap = 0 ∧ zs = []) ∨
  ∃ x, a = some x ∧ len ≤ cap ∧ cap ≤ maxLen ∧ zs.length = cap ∧ (∀ i, i < zs.length → w.cell? (x.add i) = some (.int .i64 (zs.getD i 0))) ∧ ∀ n ∈ zs, (Lit.int .i64 n).wf = true

theorem src_of {w : World} {a : Option Addr} {len cap : Nat} {zs : List Int} (h : IsRow w a len cap zs) :
    len ≤ 9223372036854775807 ∧ ∃ L : List Int, L.length = len ∧ ∀ p, w.heap.size ≤ p → Src p w a L := by
  rcases h with ⟨_, rfl, _⟩ | ⟨x, rfl, hlc, hm, hz, hc, hwf⟩
  · exact ⟨by omega, [], rfl, fun _ _ h => absurd h (by simp)⟩
  · refine ⟨by unfold maxLen at hm; omega, zs.take len, by rw [List.length_take]; omega, fun p hp h0 => ?_⟩
    rw [List.length_take] at h0
    obtain ⟨b, o, s⟩ := x
    have hc0 := hc 0 (by omega)
    have hs : s = none := by
      cases s with
      | none => rfl
      | some q => simp [Addr.add, World.cell?] at hc0; split at hc0 <;> simp at hc0
    subst hs
    have hb : b < w.heap.size := by have := lt_of_cell hc0; simpa [Addr.add] using this
    refine ⟨b, o, rfl, hb, by omega, fun j x hx => ?_⟩
    rw [List.getElem?_take] at hx
    split at hx
    · have := hc j (by omega)
      rw [addr_add] at this
      rw [this, List.getD_eq_getElem?_getD, hx]; rfl
    · exact absurd hx (by simp)
theorem Src.below {p : Nat} {w w' : World} {a : Option Addr} {L : List Int} (h : Src p w a L) (k : Below w.heap.size w w') : Src p w' a L := fun h0 => by
  obtain ⟨b, o, h1, h2, h3, h4⟩ := h h0
  exact ⟨b, o, h1, Nat.lt_of_lt_of_le h2 k.size, h3, fun j x hx => by rw [k.cell (p := ⟨b, o + j, none⟩) h2]; exact h4 j x hx⟩
theorem Src.alloc {p : Nat} {w : World} {a : Option Addr} {L : List Int} (h : Src p w a L) (o : Obj) : Src p (w.alloc o) a L := h.below ((Below.refl _ _).alloc (Nat.le_refl _) _)
end Go.Proofs.YtdhemejipkaopaaDoor
