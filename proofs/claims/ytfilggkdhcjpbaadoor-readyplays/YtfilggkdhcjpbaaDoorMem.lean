/- Memory of package bits: a Map behind a pointer, numbers that are handed in, 'only one block has turned', and how each is kept. -/
import Derived.Test.YtfilggkdhcjpbaaDoorConA
import Derived.Below
import Derived.Laws.Rows
import Derived.Laws.Slices
import Derived.Deep.Draws
namespace Go.Proofs.YtfilggkdhcjpbaaDoor
open Go.RowKit
variable {X : Nat → Int}

/-- Only block p may have turned, and new ones may have come. -/
structure Only (p : Nat) (w w' : World) : Prop where
  os : w'.os = w.os
  tape : w'.tape = w.tape
  output : w'.output = w.output
  size : w.heap.size ≤ w'.heap.size
  block : ∀ k, k < w.heap.size → k ≠ p → w'.heap[k]? = w.heap[k]?

theorem Only.refl (p : Nat) (w : World) : Only p w w := ⟨rfl, rfl, rfl, Nat.le_refl _, fun _ _ _ => rfl⟩
theorem Only.trans {p : Nat} {a b c : World} (h : Only p a b) (k : Only p b c) : Only p a c :=
  ⟨k.os.trans h.os, k.tape.trans h.tape, k.output.trans h.output, Nat.le_trans h.size k.size,
   fun i hi h1 => (k.block i (Nat.lt_of_lt_of_le hi h.size) h1).trans (h.block i hi h1)⟩
theorem Only.alloc {p : Nat} {a w : World} (h : Only p a w) (o : Obj) : Only p a (w.alloc o) :=
  h.trans ⟨rfl, rfl, rfl, by simp, fun k hk _ => Below.heap_alloc _ _ _ hk⟩
theorem Only.drew {p : Nat} {a w : World} (h : Only p a w) : Only p a w.drew := ⟨h.os, h.tape, h.output, h.size, h.block⟩
theorem Only.drewN {p : Nat} {a w : World} (h : Only p a w) (n : Nat) : Only p a (w.drewN n) := ⟨h.os, h.tape, h.output, h.size, h.block⟩
theorem Only.setCell {p : Nat} {a w : World} (h : Only p a w) {q : Addr} (hq : q.block = p ∨ a.heap.size ≤ q.block) (u : Value) : Only p a (w.setCell q u) :=
  ⟨h.os, h.tape, h.output, by simpa [World.setCell] using h.size, fun k hk h1 => (Below.heap_setCell _ _ _ _ (by omega)).trans (h.block k hk h1)⟩
theorem Only.cell {p : Nat} {w w' : World} (h : Only p w w') {q : Addr} (hq : q.block < w.heap.size) (h1 : q.block ≠ p) : w'.cell? q = w.cell? q :=
  World.cell?_of_block (w := w) (h.block q.block hq h1)
theorem Only.below {p B : Nat} {w w' : World} (h : Only p w w') (h0 : B ≤ w.heap.size) (h1 : B ≤ p) : Below B w w' :=
  ⟨h.os, h.tape, h.output, h.size, fun k hk => h.block k (by omega) (by omega)⟩
theorem Only.of_below {p : Nat} {w w' : World} (h : Below w.heap.size w w') : Only p w w' :=
  ⟨h.os, h.tape, h.output, h.size, fun k hk _ => h.block k hk⟩
theorem below_trans {a b c : World} (h : Below a.heap.size a b) (k : Below b.heap.size b c) : Below a.heap.size a c :=
  h.trans ⟨k.os, k.tape, k.output, k.size, fun i hi => k.block i (Nat.lt_of_lt_of_le hi h.size)⟩

theorem lt_of_heap {w : World} {g : Nat} {o : Obj} (h : w.heap[g]? = some o) : g < w.heap.size := (Array.getElem?_eq_some_iff.1 h).1
theorem lt_of_cell {w : World} {p : Addr} {v : Value} (h : w.cell? p = some v) : p.block < w.heap.size := by
  rcases Nat.lt_or_ge p.block w.heap.size with g | g
  · exact g
  · have e : w.heap[p.block]? = none := by simp; omega
    simp [World.cell?, e] at h
theorem addr_add (b o j : Nat) : (⟨b, o, none⟩ : Addr).add j = ⟨b, o + j, none⟩ := by cases j <;> simp [Addr.add]

theorem Tab.pos {w : World} (h : Tab w) : 0 < w.heap.size := lt_of_cell (p := ⟨0, 0, none⟩) (h 0 (by decide))
theorem Tab.only {w w' : World} {p : Nat} (h : Tab w) (k : Only p w w') (hp : p ≠ 0) : Tab w' := fun j hj => by
  rw [k.cell (q := ⟨0, j, none⟩) h.pos (Ne.symm hp)]; exact h j hj
theorem Tab.below {w w' : World} (h : Tab w) (k : Below w.heap.size w w') : Tab w' := fun j hj => by
  rw [k.cell (p := ⟨0, j, none⟩) h.pos]; exact h j hj
theorem Tab.alloc {w : World} (h : Tab w) (o : Obj) : Tab (w.alloc o) := h.below ((Below.refl _ _).alloc (Nat.le_refl _) _)
theorem Tab.drew {w : World} (h : Tab w) : Tab w.drew := h
theorem Tab.drewN {w : World} (h : Tab w) (n : Nat) : Tab (w.drewN n) := h

/-- a Queue's block p: a Map's four words, then integers -/
def Wd (w : World) (p : Nat) (X : Nat → Int) (f : Nat → Nat) : Prop :=
  ∃ cs : Array Value, w.heap[p]? = some (.cells cs 63 (0, 0)) ∧ cs.size = 310 ∧ (∀ j, j < 4 → cs[j]? = some (.int .u64 (f j : Int))) ∧ ∀ j, 4 ≤ j → j < 310 → cs[j]? = some (.int .i64 (X j))
theorem Wd.lt {w : World} {p : Nat} {f : Nat → Nat} (h : Wd w p X f) : p < w.heap.size := by obtain ⟨cs, hh, _⟩ := h; exact lt_of_heap hh
theorem Wd.at_ {w : World} {p : Nat} {f : Nat → Nat} (h : Wd w p X f) {j : Nat} (hj : j < 4) : w.cell? ⟨p, j, none⟩ = some (.int .u64 (f j : Int)) := by
  obtain ⟨cs, hh, _, hc, _⟩ := h; rw [cell_of_row w p j cs 63 (0, 0) hh]; exact hc j hj
theorem Wd.ix {w : World} {p : Nat} {f : Nat → Nat} (h : Wd w p X f) {j : Nat} (h4 : 4 ≤ j) (hj : j < 310) : w.cell? ⟨p, j, none⟩ = some (.int .i64 (X j)) := by
  obtain ⟨cs, hh, _, _, hc⟩ := h; rw [cell_of_row w p j cs 63 (0, 0) hh]; exact hc j h4 hj
theorem Wd.frozen {w : World} {p : Nat} {f : Nat → Nat} (h : Wd w p X f) (j : Nat) : w.frozen? ⟨p, j, none⟩ = false := by
  obtain ⟨cs, hh, _⟩ := h; exact frozen_of_row w p j cs 63 hh
theorem Wd.keep {w w' : World} {p : Nat} {f : Nat → Nat} (h : Wd w p X f) (k : w'.heap[p]? = w.heap[p]?) : Wd w' p X f := by
  obtain ⟨cs, hh, r⟩ := h; exact ⟨cs, k.trans hh, r⟩
theorem Wd.drew {w : World} {p : Nat} {f : Nat → Nat} (h : Wd w p X f) : Wd w.drew p X f := h
theorem Wd.set {w : World} {p : Nat} {f : Nat → Nat} (h : Wd w p X f) (i x : Nat) (hi : i < 4) :
    Wd (w.setCell ⟨p, i, none⟩ (.int .u64 (x : Int))) p X (fun j => if j = i then x else f j) := by
  obtain ⟨cs, hh, hz, hc, hd⟩ := h
  refine ⟨cs.setIfInBounds i (.int .u64 (x : Int)), heap_setCell_same w p i cs 63 _ hh, by simpa using hz, fun j hj => ?_, fun j h4 hj => ?_⟩
  · by_cases e : j = i
    · subst e; have hs : j < cs.size := by omega
      simp [hs]
    · have := hc j hj; simp [Ne.symm e, e, this]
  · have e : i ≠ j := by omega
    have := hd j h4 hj; simp [e, this]
theorem Wd.put {w : World} {p : Nat} {f : Nat → Nat} (h : Wd w p X f) (i : Nat) (x : Int) (h4 : 4 ≤ i) (hi : i < 310) :
    Wd (w.setCell ⟨p, i, none⟩ (.int .i64 x)) p (fun j => if j = i then x else X j) f := by
  obtain ⟨cs, hh, hz, hc, hd⟩ := h
  refine ⟨cs.setIfInBounds i (.int .i64 x), heap_setCell_same w p i cs 63 _ hh, by simpa using hz, fun j hj => ?_, fun j h4 hj => ?_⟩
  · have e : i ≠ j := by omega
    have := hc j hj; simp [e, this]
  · by_cases e : j = i
    · subst e; have hs : j < cs.size := by omega
      simp [hs]
    · have := hd j h4 hj; simp [Ne.symm e, e, this]

/-- a Queue in block p (which is not the table's): the set B of its Map -/
def Mp (w : World) (p : Nat) (X : Nat → Int) (B : Nat → Bool) : Prop := p ≠ 0 ∧ ∃ f, Wd w p X f ∧ Rep f B
theorem Mp.lt {w : World} {p : Nat} {B : Nat → Bool} (h : Mp w p X B) : p < w.heap.size := by obtain ⟨_, f, h, _⟩ := h; exact h.lt
theorem Mp.ix {w : World} {p : Nat} {B : Nat → Bool} (h : Mp w p X B) {j : Nat} (h4 : 4 ≤ j) (hj : j < 310) : w.cell? ⟨p, j, none⟩ = some (.int .i64 (X j)) := by obtain ⟨_, f, h, _⟩ := h; exact h.ix h4 hj
theorem Mp.frozen {w : World} {p : Nat} {B : Nat → Bool} (h : Mp w p X B) (j : Nat) : w.frozen? ⟨p, j, none⟩ = false := by obtain ⟨_, f, h, _⟩ := h; exact h.frozen j
theorem Mp.put {w : World} {p : Nat} {B : Nat → Bool} (h : Mp w p X B) (i : Nat) (x : Int) (h4 : 4 ≤ i) (hi : i < 310) : Mp (w.setCell ⟨p, i, none⟩ (.int .i64 x)) p (fun j => if j = i then x else X j) B := by
  obtain ⟨h0, f, h, r⟩ := h; exact ⟨h0, f, h.put i x h4 hi, r⟩
theorem Mp.keep {w w' : World} {p : Nat} {B : Nat → Bool} (h : Mp w p X B) (k : w'.heap[p]? = w.heap[p]?) : Mp w' p X B := by obtain ⟨h0, f, h, r⟩ := h; exact ⟨h0, f, h.keep k, r⟩
theorem Mp.only {w w' : World} {p q : Nat} {B : Nat → Bool} (h : Mp w p X B) (k : Only q w w') (h1 : p ≠ q) : Mp w' p X B := h.keep (k.block p h.lt h1)
theorem Mp.below {w w' : World} {p : Nat} {B : Nat → Bool} (h : Mp w p X B) (k : Below w.heap.size w w') : Mp w' p X B := h.keep (k.block p h.lt)
theorem Mp.alloc {w : World} {p : Nat} {B : Nat → Bool} (h : Mp w p X B) (o : Obj) : Mp (w.alloc o) p X B := h.keep (Below.heap_alloc w o p h.lt)
theorem Mp.drew {w : World} {p : Nat} {B : Nat → Bool} (h : Mp w p X B) : Mp w.drew p X B := h
theorem Mp.drewN {w : World} {p : Nat} {B : Nat → Bool} (h : Mp w p X B) (n : Nat) : Mp (w.drewN n) p X B := h
theorem Mp.congr {w : World} {p : Nat} {B : Nat → Bool} {Y : Nat → Int} (h : Mp w p X B) (e : ∀ j, 4 ≤ j → j < 310 → Y j = X j) : Mp w p Y B := by
  obtain ⟨h0, f, ⟨cs, hh, hz, hc, hd⟩, r⟩ := h; exact ⟨h0, f, ⟨cs, hh, hz, hc, fun j h4 hj => by rw [e j h4 hj]; exact hd j h4 hj⟩, r⟩
theorem Mp.setB {w : World} {p : Nat} {B B' : Nat → Bool} (h : Mp w p X B) (e : ∀ q, 1 ≤ q → q ≤ 256 → B' q = B q) : Mp w p X B' := by
  obtain ⟨h0, f, h, r⟩ := h; exact ⟨h0, f, h, r.congr e⟩

/-- numbers that are read, not in block p -/
def Src (p : Nat) (w : World) (a : Option Addr) (L : List Int) : Prop :=
  0 < L.length → ∃ b o : Nat, a = some ⟨b, o, none⟩ ∧ b < w.heap.size ∧ b ≠ p ∧ ∀ j x, L[j]? = some x → w.cell? ⟨b, o + j, none⟩ = some (.int .i64 x)
theorem Src.only {p : Nat} {w w' : World} {a : Option Addr} {L : List Int} (h : Src p w a L) (k : Only p w w') : Src p w' a L := fun h0 => by
  obtain ⟨b, o, h1, h2, h3, h4⟩ := h h0
  exact ⟨b, o, h1, Nat.lt_of_lt_of_le h2 k.size, h3, fun j x hx => by rw [k.cell (q := ⟨b, o + j, none⟩) h2 h3]; exact h4 j x hx⟩
end Go.Proofs.YtfilggkdhcjpbaaDoor
