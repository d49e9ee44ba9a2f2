/- Memory of package list: linked lists behind a pointer, 'only two blocks have turned', and how each is kept. -/
import Derived.Below
import Derived.Laws.Rows
import Derived.Laws.CopyOwn
import Derived.Laws.OwnMore
import Derived.Deep.Draws
namespace Go.Proofs.Ytmfjhckacmdijaa
open Go.RowKit

/-- Only blocks p and m may have turned, and new ones may have come. -/
structure Only (p m : Nat) (w w' : World) : Prop where
  os : w'.os = w.os
  tape : w'.tape = w.tape
  output : w'.output = w.output
  size : w.heap.size ≤ w'.heap.size
  block : ∀ k, k < w.heap.size → k ≠ p → k ≠ m → w'.heap[k]? = w.heap[k]?

theorem Only.refl (p m : Nat) (w : World) : Only p m w w := ⟨rfl, rfl, rfl, Nat.le_refl _, fun _ _ _ _ => rfl⟩
theorem Only.trans {p m : Nat} {a b c : World} (h : Only p m a b) (k : Only p m b c) : Only p m a c :=
  ⟨k.os.trans h.os, k.tape.trans h.tape, k.output.trans h.output, Nat.le_trans h.size k.size,
   fun i hi h1 h2 => (k.block i (Nat.lt_of_lt_of_le hi h.size) h1 h2).trans (h.block i hi h1 h2)⟩
theorem Only.alloc {p m : Nat} {a w : World} (h : Only p m a w) (o : Obj) : Only p m a (w.alloc o) :=
  h.trans ⟨rfl, rfl, rfl, by simp, fun k hk _ _ => Below.heap_alloc _ _ _ hk⟩
theorem Only.drew {p m : Nat} {a w : World} (h : Only p m a w) : Only p m a w.drew := ⟨h.os, h.tape, h.output, h.size, h.block⟩
theorem Only.drewN {p m : Nat} {a w : World} (h : Only p m a w) (n : Nat) : Only p m a (w.drewN n) := ⟨h.os, h.tape, h.output, h.size, h.block⟩
theorem Only.setCell {p m : Nat} {a w : World} (h : Only p m a w) {q : Addr} (hq : q.block = p ∨ q.block = m ∨ a.heap.size ≤ q.block) (u : Value) : Only p m a (w.setCell q u) :=
  ⟨h.os, h.tape, h.output, by simpa [World.setCell] using h.size, fun k hk h1 h2 => (Below.heap_setCell _ _ _ _ (by omega)).trans (h.block k hk h1 h2)⟩
theorem Only.cell {p m : Nat} {w w' : World} (h : Only p m w w') {q : Addr} (hq : q.block < w.heap.size) (h1 : q.block ≠ p) (h2 : q.block ≠ m) : w'.cell? q = w.cell? q :=
  World.cell?_of_block (w := w) (h.block q.block hq h1 h2)
theorem Only.below {p m B : Nat} {w w' : World} (h : Only p m w w') (h0 : B ≤ w.heap.size) (h1 : B ≤ p) (h2 : B ≤ m) : Below B w w' :=
  ⟨h.os, h.tape, h.output, h.size, fun k hk => h.block k (by omega) (by omega) (by omega)⟩
theorem Only.of_below {p m : Nat} {w w' : World} (h : Below w.heap.size w w') : Only p m w w' :=
  ⟨h.os, h.tape, h.output, h.size, fun k hk _ _ => h.block k hk⟩
theorem Only.of_new {p m q r : Nat} {a w w' : World} (h : Only p m a w) (k : Only q r w w') (hq : a.heap.size ≤ q ∨ q = p ∨ q = m) (hr : a.heap.size ≤ r ∨ r = p ∨ r = m) : Only p m a w' :=
  ⟨k.os.trans h.os, k.tape.trans h.tape, k.output.trans h.output, Nat.le_trans h.size k.size,
   fun i hi h1 h2 => (k.block i (Nat.lt_of_lt_of_le hi h.size) (by omega) (by omega)).trans (h.block i hi h1 h2)⟩

theorem lt_of_heap {w : World} {g : Nat} {o : Obj} (h : w.heap[g]? = some o) : g < w.heap.size := (Array.getElem?_eq_some_iff.1 h).1

/-- Block m holds at least n integers f 0, f 1, .. (cells of type 54's fields), none frozen. -/
def Lk (w : World) (m n : Nat) (f : Nat → Int) : Prop :=
  ∃ cs : Array Value, w.heap[m]? = some (.cells cs 54 (0, 0)) ∧ ∀ i, i < n → cs[i]? = some (.int .i64 (f i))

theorem Lk.lt {w : World} {g n : Nat} {f : Nat → Int} (h : Lk w g n f) : g < w.heap.size := by obtain ⟨cs, hh, _⟩ := h; exact lt_of_heap hh
theorem Lk.at_ {w : World} {g n : Nat} {f : Nat → Int} (h : Lk w g n f) {i : Nat} (hi : i < n) : w.cell? ⟨g, i, none⟩ = some (.int .i64 (f i)) := by
  obtain ⟨cs, hh, hc⟩ := h; rw [cell_of_row w g i cs 54 (0, 0) hh]; exact hc i hi
theorem Lk.frozen {w : World} {g n : Nat} {f : Nat → Int} (h : Lk w g n f) (i : Nat) : w.frozen? ⟨g, i, none⟩ = false := by
  obtain ⟨cs, hh, hc⟩ := h; exact frozen_of_row w g i cs 54 hh
theorem Lk.keep {w w' : World} {g n : Nat} {f : Nat → Int} (h : Lk w g n f) (k : w'.heap[g]? = w.heap[g]?) : Lk w' g n f := by
  obtain ⟨cs, hh, hc⟩ := h; exact ⟨cs, k.trans hh, hc⟩
theorem Lk.set {w : World} {g n : Nat} {f : Nat → Int} (h : Lk w g n f) (i : Nat) (x : Int) (hi : i < n) :
    Lk (w.setCell ⟨g, i, none⟩ (.int .i64 x)) g n (fun j => if j = i then x else f j) := by
  obtain ⟨cs, hh, hc⟩ := h
  refine ⟨cs.setIfInBounds i (.int .i64 x), heap_setCell_same w g i cs 54 _ hh, fun j hj => ?_⟩
  have hsz : i < cs.size := (Array.getElem?_eq_some_iff.1 (hc i hi)).1
  by_cases e : j = i
  · subst e; simp [hsz]
  · have := hc j hj; simp [Ne.symm e, e, this]
theorem Lk.congr {w : World} {g n : Nat} {f f' : Nat → Int} (h : Lk w g n f) (e : ∀ i, i < n → f' i = f i) : Lk w g n f' := by
  obtain ⟨cs, hh, hc⟩ := h; exact ⟨cs, hh, fun i hi => by rw [e i hi]; exact hc i hi⟩

/-- Lists: their struct lies in block p, their links in block m: N nodes, H heads; link i is f (3i), f (3i+1), f (3i+2). -/
def Lm (w : World) (p m N H : Nat) (f : Nat → Int) : Prop :=
  (∃ k : Nat, w.heap[p]? = some (.cells #[.int .i64 (N : Int), .slice (some ⟨m, 0, none⟩) (N + H) k] 52 (0, 0)) ∧ N + H ≤ k ∧ k ≤ 9223372036854775807) ∧ Lk w m (3 * (N + H)) f

theorem Lm.ne {w : World} {p m N H : Nat} {f : Nat → Int} (h : Lm w p m N H f) : p ≠ m := by
  rintro rfl
  obtain ⟨⟨k, hk, _⟩, cs, hc, _⟩ := h
  rw [hk] at hc; injection hc with hc; injection hc with _ ht; cases ht
theorem Lm.ltp {w : World} {p m N H : Nat} {f : Nat → Int} (h : Lm w p m N H f) : p < w.heap.size := by obtain ⟨⟨k, hk, _⟩, _⟩ := h; exact lt_of_heap hk
theorem Lm.ltm {w : World} {p m N H : Nat} {f : Nat → Int} (h : Lm w p m N H f) : m < w.heap.size := h.2.lt
theorem Lm.keep {w w' : World} {p m N H : Nat} {f : Nat → Int} (h : Lm w p m N H f) (h1 : w'.heap[p]? = w.heap[p]?) (h2 : w'.heap[m]? = w.heap[m]?) : Lm w' p m N H f := by
  obtain ⟨⟨k, hk, r⟩, hr⟩ := h; exact ⟨⟨k, h1.trans hk, r⟩, hr.keep h2⟩
theorem Lm.only {w w' : World} {p m N H q r : Nat} {f : Nat → Int} (h : Lm w p m N H f) (k : Only q r w w') (h1 : p ≠ q) (h2 : p ≠ r) (h3 : m ≠ q) (h4 : m ≠ r) : Lm w' p m N H f :=
  h.keep (k.block p h.ltp h1 h2) (k.block m h.ltm h3 h4)
theorem Lm.alloc {w : World} {p m N H : Nat} {f : Nat → Int} (h : Lm w p m N H f) (o : Obj) : Lm (w.alloc o) p m N H f := h.keep (Below.heap_alloc w o p h.ltp) (Below.heap_alloc w o m h.ltm)
theorem Lm.drew {w : World} {p m N H : Nat} {f : Nat → Int} (h : Lm w p m N H f) : Lm w.drew p m N H f := h
theorem Lm.drewN {w : World} {p m N H : Nat} {f : Nat → Int} (h : Lm w p m N H f) (k : Nat) : Lm (w.drewN k) p m N H f := h
theorem Lm.below {w w' : World} {p m N H B : Nat} {f : Nat → Int} (h : Lm w p m N H f) (k : Below B w w') (h1 : p < B) (h2 : m < B) : Lm w' p m N H f :=
  h.keep (k.block p h1) (k.block m h2)
theorem Lm.congr {w : World} {p m N H : Nat} {f f' : Nat → Int} (h : Lm w p m N H f) (e : ∀ i, i < 3 * (N + H) → f' i = f i) : Lm w p m N H f' := ⟨h.1, h.2.congr e⟩
/-- a link's cell turned -/
theorem Lm.set {w : World} {p m N H : Nat} {f : Nat → Int} (h : Lm w p m N H f) (i : Nat) (x : Int) (hi : i < 3 * (N + H)) :
    Lm (w.setCell ⟨m, i, none⟩ (.int .i64 x)) p m N H (fun j => if j = i then x else f j) := by
  have hne := h.ne
  exact ⟨by obtain ⟨⟨k, hk, r⟩, _⟩ := h; exact ⟨k, (Below.heap_setCell w ⟨m, i, none⟩ _ p hne).trans hk, r⟩, h.2.set i x hi⟩
theorem Lm.at_ {w : World} {p m N H : Nat} {f : Nat → Int} (h : Lm w p m N H f) {i : Nat} (hi : i < 3 * (N + H)) : w.cell? ⟨m, i, none⟩ = some (.int .i64 (f i)) := h.2.at_ hi
theorem Lm.frozen {w : World} {p m N H : Nat} {f : Nat → Int} (h : Lm w p m N H f) (i : Nat) : w.frozen? ⟨m, i, none⟩ = false := h.2.frozen i
theorem Lm.cells {w : World} {p m N H : Nat} {f : Nat → Int} (h : Lm w p m N H f) :
    ∃ k : Nat, w.cell? ⟨p, 0, none⟩ = some (.int .i64 (N : Int)) ∧ w.cell? ⟨p, 1, none⟩ = some (.slice (some ⟨m, 0, none⟩) (N + H) k) ∧ N + H ≤ k ∧ k ≤ 9223372036854775807 := by
  obtain ⟨⟨k, hk, r⟩, _⟩ := h
  exact ⟨k, by rw [cell_of_row w p 0 _ 52 (0, 0) hk]; rfl, by rw [cell_of_row w p 1 _ 52 (0, 0) hk]; rfl, r⟩
end Go.Proofs.Ytmfjhckacmdijaa
