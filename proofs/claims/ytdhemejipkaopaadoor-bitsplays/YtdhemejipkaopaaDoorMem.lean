/- Memory of package bits: a Map behind a pointer, numbers that are handed in, 'only one block has turned', and how each is kept. -/
import Derived.Test.YtdhemejipkaopaaDoorConA
import Derived.Below
import Derived.Laws.Rows
import Derived.Laws.Slices
import Derived.Deep.Draws
namespace Go.Proofs.YtdhemejipkaopaaDoor
open Go.RowKit

/-- Only block p may have turned, and new ones may have come. -/
structure Only (p : Nat) (w w' : World) : Prop where
  os : w'.os = w.os
  tape : w'.tape = w.tape
  output : w'.output = w.output
  size : w.heap.size ≤ w'.heap.size
  block : ∀ k, k < w.heap.size → k ≠ p → w'.heap[k]? = w.heap[k]?

theorem Only.refl (p : Nat) (w : World) : Only p w w := ⟨rfl, rfl, rfl, Nat.le_refl _, fun _ _ _ => rfl⟩
theorem Only.trans {p : Nat} {a b c : World} (h : Only p a b) (k : Only p b c) : Only p a c :=
  ⟨k.os.trans h.os, k.tape.trans h.tape, k.output.trans h.output, Nat.le_trans h.size k.size,
   fun i hi h1 => (k.block i (Nat.lt_of_lt_of_le hi h.size) h1).trans (h.block i hi h1)⟩
theorem Only.alloc {p : Nat} {a w : World} (h : Only p a w) (o : Obj) : Only p a (w.alloc o) :=
  h.trans ⟨rfl, rfl, rfl, by simp, fun k hk _ => Below.heap_alloc _ _ _ hk⟩
theorem Only.drew {p : Nat} {a w : World} (h : Only p a w) : Only p a w.drew := ⟨h.os, h.tape, h.output, h.size, h.block⟩
theorem Only.drewN {p : Nat} {a w : World} (h : Only p a w) (n : Nat) : Only p a (w.drewN n) := ⟨h.os, h.tape, h.output, h.size, h.block⟩
theorem Only.setCell {p : Nat} {a w : World} (h : Only p a w) {q : Addr} (hq : q.block = p ∨ a.heap.size ≤ q.block) (u : Value) : Only p a (w.setCell q u) :=
  ⟨h.os, h.tape, h.output, by simpa [World.setCell] using h.size, fun k hk h1 => (Below.heap_setCell _ _ _ _ (by omega)).trans (h.block k hk h1)⟩
theorem Only.cell {p : Nat} {w w' : World} (h : Only p w w') {q : Addr} (hq : q.block < w.heap.size) (h1 : q.block ≠ p) : w'.cell? q = w.cell? q :=
  World.cell?_of_block (w := w) (h.block q.block hq h1)
theorem Only.below {p B : Nat} {w w' : World} (h : Only p w w') (h0 : B ≤ w.heap.size) (h1 : B ≤ p) : Below B w w' :=
  ⟨h.os, h.tape, h.output, h.size, fun k hk => h.block k (by omega) (by omega)⟩
theorem Only.of_below {p : Nat} {w w' : World} (h : Below w.heap.size w w') : Only p w w' :=
  ⟨h.os, h.tape, h.output, h.size, fun k hk _ => h.block k hk⟩
theorem below_trans {a b c : World} (h : Below a.heap.size a b) (k : Below b.heap.size b c) : Below a.heap.size a c :=
  h.trans ⟨k.os, k.tape, k.output, k.size, fun i hi => k.block i (Nat.lt_of_lt_of_le hi h.size)⟩

theorem lt_of_heap {w : World} {g : Nat} {o : Obj} (h : w.heap[g]? = some o) : g < w.heap.size := (Array.getElem?_eq_some_iff.1 h).1
theorem lt_of_cell {w : World} {p : Addr} {v : Value} (h : w.cell? p = some v) : p.block < w.heap.size := by
  rcases Nat.lt_or_ge p.block w.heap.size with g | g
  · exact g
  · have e : w.heap[p.block]? = none := by simp; omega
    simp [World.cell?, e] at h
theorem addr_add (b o j : Nat) : (⟨b, o, none⟩ : Addr).add j = ⟨b, o + j, none⟩ := by cases j <;> simp [Addr.add]

theorem Tab.pos {w : World} (h : Tab w) : 0 < w.heap.size := lt_of_cell (p := ⟨0, 0, none⟩) (h 0 (by decide))
theorem Tab.only {w w' : World} {p : Nat} (h : Tab w) (k : Only p w w') (hp : p ≠ 0) : Tab w' := fun j hj => by
  rw [k.cell (q := ⟨0, j, none⟩) h.pos (Ne.symm hp)]; exact h j hj
theorem Tab.below {w w' : World} (h : Tab w) (k : Below w.heap.size w w') : Tab w' := fun j hj => by
  rw [k.cell (p := ⟨0, j, none⟩) h.pos]; exact h j hj
theorem Tab.alloc {w : World} (h : Tab w) (o : Obj) : Tab (w.alloc o) := h.below ((Below.refl _ _).alloc (Nat.le_refl _) _)
theorem Tab.drew {w : World} (h : Tab w) : Tab w.drew := h
theorem Tab.drewN {w : World} (h : Tab w) (n : Nat) : Tab (w.drewN n) := h

/-- a Map's four words in block p -/
def Wd (w : World) (p : Nat) (f : Nat → Nat) : Prop :=
  ∃ cs : Array Value, w.heap[p]? = some (.cells cs 27 (0, 0)) ∧ ∀ j, j < 4 → cs[j]? = some (.int .u64 (f j : Int))
theorem Wd.lt {w : World} {p : Nat} {f : Nat → Nat} (h : Wd w p f) : p < w.heap.size := by obtain ⟨cs, hh, _⟩ := h; exact lt_of_heap hh
theorem Wd.at_ {w : World} {p : Nat} {f : Nat → Nat} (h : Wd w p f) {j : Nat} (hj : j < 4) : w.cell? ⟨p, j, none⟩ = some (.int .u64 (f j : Int)) := by
  obtain ⟨cs, hh, hc⟩ := h; rw [cell_of_row w p j cs 27 (0, 0) hh]; exact hc j hj
theorem Wd.frozen {w : World} {p : Nat} {f : Nat → Nat} (h : Wd w p f) (j : Nat) : w.frozen? ⟨p, j, none⟩ = false := by
  obtain ⟨cs, hh, _⟩ := h; exact frozen_of_row w p j cs 27 hh
theorem Wd.keep {w w' : World} {p : Nat} {f : Nat → Nat} (h : Wd w p f) (k : w'.heap[p]? = w.heap[p]?) : Wd w' p f := by
  obtain ⟨cs, hh, r⟩ := h; exact ⟨cs, k.trans hh, r⟩
theorem Wd.drew {w : World} {p : Nat} {f : Nat → Nat} (h : Wd w p f) : Wd w.drew p f := h
theorem Wd.set {w : World} {p : Nat} {f : Nat → Nat} (h : Wd w p f) (i x : Nat) (hi : i < 4) :
    Wd (w.setCell ⟨p, i, none⟩ (.int .u64 (x : Int))) p (fun j => if j = i then x else f j) := by
  obtain ⟨cs, hh, hc⟩ := h
  have hsz : i < cs.size := (Array.getElem?_eq_some_iff.1 (hc i hi)).1
  refine ⟨cs.setIfInBounds i (.int .u64 (x : Int)), heap_setCell_same w p i cs 27 _ hh, fun j hj => ?_⟩
  by_cases e : j = i
  · subst e; simp [hsz]
  · have := hc j hj; simp [Ne.symm e, e, this]

/-- a Map in block p (which is not the table's): the set B -/
def Mp (w : World) (p : Nat) (B : Nat → Bool) : Prop := p ≠ 0 ∧ ∃ f, Wd w p f ∧ Rep f B
theorem Mp.lt {w : World} {p : Nat} {B : Nat → Bool} (h : Mp w p B) : p < w.heap.size := by obtain ⟨_, f, h, _⟩ := h; exact h.lt
theorem Mp.keep {w w' : World} {p : Nat} {B : Nat → Bool} (h : Mp w p B) (k : w'.heap[p]? = w.heap[p]?) : Mp w' p B := by obtain ⟨h0, f, h, r⟩ := h; exact ⟨h0, f, h.keep k, r⟩
theorem Mp.only {w w' : World} {p q : Nat} {B : Nat → Bool} (h : Mp w p B) (k : Only q w w') (h1 : p ≠ q) : Mp w' p B := h.keep (k.block p h.lt h1)
theorem Mp.below {w w' : World} {p : Nat} {B : Nat → Bool} (h : Mp w p B) (k : Below w.heap.size w w') : Mp w' p B := h.keep (k.block p h.lt)
theorem Mp.alloc {w : World} {p : Nat} {B : Nat → Bool} (h : Mp w p B) (o : Obj) : Mp (w.alloc o) p B := h.keep (Below.heap_alloc w o p h.lt)
theorem Mp.drew {w : World} {p : Nat} {B : Nat → Bool} (h : Mp w p B) : Mp w.drew p B := h
theorem Mp.drewN {w : World} {p : Nat} {B : Nat → Bool} (h : Mp w p B) (n : Nat) : Mp (w.drewN n) p B := h
/-- a new Map is empty -/
theorem Mp.new (w : World) (h : 0 < w.heap.size) : Mp (w.alloc (.cells #[.int .u64 0, .int .u64 0, .int .u64 0, .int .u64 0] 27)) w.heap.size none' := by
  refine ⟨by omega, fun _ => 0, ⟨_, heap_alloc_new _ _, fun j hj => ?_⟩, Rep.zero⟩
  match j, hj with
  | 0, _ => rfl
  | 1, _ => rfl
  | 2, _ => rfl
  | 3, _ => rfl

/-- numbers that are read, not in block p -/
def Src (p : Nat) (w : World) (a : Option Addr) (L : List Int) : Prop :=
  0 < L.length → ∃ b o : Nat, a = some ⟨b, o, none⟩ ∧ b < w.heap.size ∧ b ≠ p ∧ ∀ j x, L[j]? = some x → w.cell? ⟨b, o + j, none⟩ = some (.int .i64 x)
theorem Src.only {p : Nat} {w w' : World} {a : Option Addr} {L : List Int} (h : Src p w a L) (k : Only p w w') : Src p w' a L := fun h0 => by
  obtain ⟨b, o, h1, h2, h3, h4⟩ := h h0
  exact ⟨b, o, h1, Nat.lt_of_lt_of_le h2 k.size, h3, fun j x hx => by rw [k.cell (q := ⟨b, o + j, none⟩) h2 h3]; exact h4 j x hx⟩
end Go.Proofs.YtdhemejipkaopaaDoor
