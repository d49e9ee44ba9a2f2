/- Memory of package tcb: a task behind a pointer, 'only one block has turned', and how each is kept. -/
import Derived.Test.YtjiiopnlcohilaaRows
import Derived.Test.YtjiiopnlcohilaaAbs
import Derived.Below
import Derived.WalkKit
import Derived.Laws.Rows
import Derived.Laws.Slices
import Derived.Deep.Draws
import Derived.Lib.Hide
import Derived.IntWalk
namespace Go.Proofs.Ytjiiopnlcohilaa
open Go.RowKit

theorem ret_int {k : IntKind} {a b : Int} (h : a = b) : Ending.returned (.int k a) = .returned (.int k b) := by rw [h]

/-- Only block p may have turned, and new ones may have come. -/
structure Only (p : Nat) (w w' : World) : Prop where
  os : w'.os = w.os
  tape : w'.tape = w.tape
  output : w'.output = w.output
  size : w.heap.size ≤ w'.heap.size
  block : ∀ k, k < w.heap.size → k ≠ p → w'.heap[k]? = w.heap[k]?

theorem Only.refl (p : Nat) (w : World) : Only p w w := ⟨rfl, rfl, rfl, Nat.le_refl _, fun _ _ _ => rfl⟩
theorem Only.trans {p : Nat} {a b c : World} (h : Only p a b) (k : Only p b c) : Only p a c :=
  ⟨k.os.trans h.os, k.tape.trans h.tape, k.output.trans h.output, Nat.le_trans h.size k.size,
   fun i hi h1 => (k.block i (Nat.lt_of_lt_of_le hi h.size) h1).trans (h.block i hi h1)⟩
theorem Only.alloc {p : Nat} {a w : World} (h : Only p a w) (o : Obj) : Only p a (w.alloc o) :=
  h.trans ⟨rfl, rfl, rfl, by simp, fun k hk _ => Below.heap_alloc _ _ _ hk⟩
theorem Only.drew {p : Nat} {a w : World} (h : Only p a w) : Only p a w.drew := ⟨h.os, h.tape, h.output, h.size, h.block⟩
theorem Only.drewN {p : Nat} {a w : World} (h : Only p a w) (n : Nat) : Only p a (w.drewN n) := ⟨h.os, h.tape, h.output, h.size, h.block⟩
theorem Only.setCell {p : Nat} {a w : World} (h : Only p a w) {q : Addr} (hq : q.block = p ∨ a.heap.size ≤ q.block) (u : Value) : Only p a (w.setCell q u) :=
  ⟨h.os, h.tape, h.output, by simpa [World.setCell] using h.size, fun k hk h1 => (Below.heap_setCell _ _ _ _ (by omega)).trans (h.block k hk h1)⟩
theorem Only.cell {p : Nat} {w w' : World} (h : Only p w w') {q : Addr} (hq : q.block < w.heap.size) (h1 : q.block ≠ p) : w'.cell? q = w.cell? q :=
  World.cell?_of_block (w := w) (h.block q.block hq h1)
theorem Only.below {p B : Nat} {w w' : World} (h : Only p w w') (h0 : B ≤ w.heap.size) (h1 : B ≤ p) : Below B w w' :=
  ⟨h.os, h.tape, h.output, h.size, fun k hk => h.block k (by omega) (by omega)⟩
theorem Only.of_below {p : Nat} {w w' : World} (h : Below w.heap.size w w') : Only p w w' :=
  ⟨h.os, h.tape, h.output, h.size, fun k hk _ => h.block k hk⟩
theorem below_trans {a b c : World} (h : Below a.heap.size a b) (k : Below b.heap.size b c) : Below a.heap.size a c :=
  h.trans ⟨k.os, k.tape, k.output, k.size, fun i hi => k.block i (Nat.lt_of_lt_of_le hi h.size)⟩

theorem lt_of_heap {w : World} {g : Nat} {o : Obj} (h : w.heap[g]? = some o) : g < w.heap.size := (Array.getElem?_eq_some_iff.1 h).1
theorem lt_of_cell {w : World} {p : Addr} {v : Value} (h : w.cell? p = some v) : p.block < w.heap.size := by
  rcases Nat.lt_or_ge p.block w.heap.size with g | g
  · exact g
  · have e : w.heap[p.block]? = none := by simp; omega
    simp [World.cell?, e] at h
theorem addr_add (b o j : Nat) : (⟨b, o, none⟩ : Addr).add j = ⟨b, o + j, none⟩ := by cases j <;> simp [Addr.add]

/-- a task (the program's: type 47; the document's: type 56) in block p -/
def Tk (w : World) (T p : Nat) (s : St) : Prop :=
  w.heap[p]? = some (.cells #[.int .i64 s.A, .int .i64 s.W, .int .i64 s.S, .int .i64 s.X, .bool s.z] T (0, 0))
section
variable {w w' : World} {T p : Nat} {s : St}
theorem Tk.lt (h : Tk w T p s) : p < w.heap.size := lt_of_heap h
theorem Tk.at_ (h : Tk w T p s) : w.cell? ⟨p, 0, none⟩ = some (.int .i64 s.A) ∧ w.cell? ⟨p, 1, none⟩ = some (.int .i64 s.W) ∧ w.cell? ⟨p, 2, none⟩ = some (.int .i64 s.S) ∧ w.cell? ⟨p, 3, none⟩ = some (.int .i64 s.X) ∧ w.cell? ⟨p, 4, none⟩ = some (.bool s.z) := by
  refine ⟨?_, ?_, ?_, ?_, ?_⟩ <;> rw [cell_of_row _ _ _ _ _ _ h] <;> rfl
theorem Tk.frozen (h : Tk w T p s) (i : Nat) : w.frozen? ⟨p, i, none⟩ = false := frozen_of_row w p i _ T h
theorem Tk.keep (h : Tk w T p s) (k : w'.heap[p]? = w.heap[p]?) : Tk w' T p s := k.trans h
theorem Tk.below (h : Tk w T p s) (k : Below w.heap.size w w') : Tk w' T p s := h.keep (k.block p h.lt)
theorem Tk.alloc (h : Tk w T p s) (o : Obj) : Tk (w.alloc o) T p s := h.keep (Below.heap_alloc w o p h.lt)
theorem Tk.drew (h : Tk w T p s) : Tk w.drew T p s := h
theorem Tk.drewN (h : Tk w T p s) (n : Nat) : Tk (w.drewN n) T p s := h
theorem Tk.only {q : Nat} (h : Tk w T p s) (k : Only q w w') (hq : p ≠ q) : Tk w' T p s := h.keep (k.block p h.lt hq)
theorem Tk.setA (h : Tk w T p s) (x : Int) : Tk (w.setCell ⟨p, 0, none⟩ (.int .i64 x)) T p { s with A := x } := heap_setCell_same w p 0 _ T _ h
theorem Tk.setW (h : Tk w T p s) (x : Int) : Tk (w.setCell ⟨p, 1, none⟩ (.int .i64 x)) T p { s with W := x } := heap_setCell_same w p 1 _ T _ h
theorem Tk.setS (h : Tk w T p s) (x : Int) : Tk (w.setCell ⟨p, 2, none⟩ (.int .i64 x)) T p { s with S := x } := heap_setCell_same w p 2 _ T _ h
theorem Tk.setX (h : Tk w T p s) (x : Int) : Tk (w.setCell ⟨p, 3, none⟩ (.int .i64 x)) T p { s with X := x } := heap_setCell_same w p 3 _ T _ h
theorem Tk.setz (h : Tk w T p s) (x : Bool) : Tk (w.setCell ⟨p, 4, none⟩ (.bool x)) T p { s with z := x } := heap_setCell_same w p 4 _ T _ h
end

/-- numbers that are read -/
def Src (w : World) (a : Option Addr) (L : List Int) : Prop :=
  0 < L.length → ∃ b o : Nat, a = some ⟨b, o, none⟩ ∧ b < w.heap.size ∧ ∀ j x, L[j]? = some x → w.cell? ⟨b, o + j, none⟩ = some (.int .i64 x)
end Go.Proofs.Ytjiiopnlcohilaa
