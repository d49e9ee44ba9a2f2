/- An eventflag (package flag), by itself and in memory: its queue, its bits, what each task waits for. -/
import Derived.Test.YthgcmjiebdnnfaaConL
import Derived.Test.YthgcmjiebdnnfaaKdA
namespace Go.Proofs.Ythgcmjiebdnnfaa
open Go.RowKit
set_option maxRecDepth 100000

/-- Only blocks s and p may have turned, and new ones may have come. -/
structure On2 (s p : Nat) (w w' : World) : Prop where
  os : w'.os = w.os
  tape : w'.tape = w.tape
  output : w'.output = w.output
  size : w.heap.size ≤ w'.heap.size
  block : ∀ k, k < w.heap.size → k ≠ s → k ≠ p → w'.heap[k]? = w.heap[k]?

theorem On2.refl (s p : Nat) (w : World) : On2 s p w w := ⟨rfl, rfl, rfl, Nat.le_refl _, fun _ _ _ _ => rfl⟩
theorem On2.trans {s p : Nat} {a b c : World} (h : On2 s p a b) (k : On2 s p b c) : On2 s p a c :=
  ⟨k.os.trans h.os, k.tape.trans h.tape, k.output.trans h.output, Nat.le_trans h.size k.size,
   fun i hi h1 h2 => (k.block i (Nat.lt_of_lt_of_le hi h.size) h1 h2).trans (h.block i hi h1 h2)⟩
theorem On2.alloc {s p : Nat} {a w : World} (h : On2 s p a w) (o : Obj) : On2 s p a (w.alloc o) :=
  h.trans ⟨rfl, rfl, rfl, by simp, fun k hk _ _ => Below.heap_alloc _ _ _ hk⟩
theorem On2.drew {s p : Nat} {a w : World} (h : On2 s p a w) : On2 s p a w.drew := ⟨h.os, h.tape, h.output, h.size, h.block⟩
theorem On2.drewN {s p : Nat} {a w : World} (h : On2 s p a w) (n : Nat) : On2 s p a (w.drewN n) := ⟨h.os, h.tape, h.output, h.size, h.block⟩
theorem On2.setCell {s p : Nat} {a w : World} (h : On2 s p a w) {q : Addr} (hq : q.block = s ∨ q.block = p ∨ a.heap.size ≤ q.block) (u : Value) : On2 s p a (w.setCell q u) :=
  ⟨h.os, h.tape, h.output, by simpa [World.setCell] using h.size, fun k hk h1 h2 => (Below.heap_setCell _ _ _ _ (by omega)).trans (h.block k hk h1 h2)⟩
theorem On2.below {s p B : Nat} {w w' : World} (h : On2 s p w w') (h0 : B ≤ w.heap.size) (h1 : B ≤ s) (h2 : B ≤ p) : Below B w w' :=
  ⟨h.os, h.tape, h.output, h.size, fun k hk => h.block k (by omega) (by omega) (by omega)⟩
theorem On2.of_below {s p : Nat} {w w' : World} (h : Below w.heap.size w w') : On2 s p w w' :=
  ⟨h.os, h.tape, h.output, h.size, fun k hk _ _ => h.block k hk⟩
theorem On2.one {s p : Nat} {w w' : World} (h : Only p w w') : On2 s p w w' :=
  ⟨h.os, h.tape, h.output, h.size, fun k hk _ h2 => h.block k hk h2⟩
theorem On2.fst {s p : Nat} {w w' : World} (h : Only s w w') : On2 s p w w' :=
  ⟨h.os, h.tape, h.output, h.size, fun k hk h1 _ => h.block k hk h1⟩
theorem On2.cell {s p : Nat} {w w' : World} (h : On2 s p w w') {q : Addr} (hq : q.block < w.heap.size) (h1 : q.block ≠ s) (h2 : q.block ≠ p) : w'.cell? q = w.cell? q :=
  World.cell?_of_block (w := w) (h.block q.block hq h1 h2)
/-- what came later turned by itself, too -/
theorem On2.below2 {s p : Nat} {a b c : World} (h : On2 s p a b) (k : Below a.heap.size b c) : On2 s p a c :=
  ⟨k.os.trans h.os, k.tape.trans h.tape, k.output.trans h.output, Nat.le_trans h.size k.size, fun i hi h1 h2 => (k.block i hi).trans (h.block i hi h1 h2)⟩

/-- what a task waits for: bits, a mode -/
abbrev Wi := Int × Int

/-- an eventflag in block s (type T; its bits from cell B on, its wishes from cell O on): its queue's block p, bits x, many m, clear c, wishes f -/
def Fg (w : World) (s T p B O : Nat) (x : Int) (m c : Bool) (f : Nat → Wi) : Prop :=
  ((B = 1 ∧ O = 4) ∨ (B = 35 ∧ O = 1)) ∧ ∃ cs : Array Value, w.heap[s]? = some (.cells cs T (0, 0)) ∧ cs.size = 38 ∧ cs[0]? = some (.pointer (some ⟨p, 0, none⟩)) ∧
    cs[B]? = some (.int .u32 x) ∧ cs[B + 1]? = some (.bool m) ∧ cs[B + 2]? = some (.bool c) ∧ ∀ i, i < 17 → cs[O + i * 2]? = some (.int .u32 (f i).1) ∧ cs[O + i * 2 + 1]? = some (.int .i64 (f i).2)

theorem Fg.lt {w : World} {s T p B O : Nat} {x : Int} {m c : Bool} {f : Nat → Wi} (h : Fg w s T p B O x m c f) : s < w.heap.size := by obtain ⟨_, cs, h, _⟩ := h; exact lt_of_heap h
theorem Fg.c0 {w : World} {s T p B O : Nat} {x : Int} {m c : Bool} {f : Nat → Wi} (h : Fg w s T p B O x m c f) : w.cell? ⟨s, 0, none⟩ = some (.pointer (some ⟨p, 0, none⟩)) := by
  obtain ⟨_, cs, h, _, h0, _⟩ := h; rw [cell_of_row w s 0 cs T (0, 0) h]; exact h0
theorem Fg.cx {w : World} {s T p B O : Nat} {x : Int} {m c : Bool} {f : Nat → Wi} (h : Fg w s T p B O x m c f) : w.cell? ⟨s, B, none⟩ = some (.int .u32 x) := by
  obtain ⟨_, cs, h, _, _, h0, _⟩ := h; rw [cell_of_row w s B cs T (0, 0) h]; exact h0
theorem Fg.cm {w : World} {s T p B O : Nat} {x : Int} {m c : Bool} {f : Nat → Wi} (h : Fg w s T p B O x m c f) : w.cell? ⟨s, B + 1, none⟩ = some (.bool m) := by
  obtain ⟨_, cs, h, _, _, _, h0, _⟩ := h; rw [cell_of_row w s _ cs T (0, 0) h]; exact h0
theorem Fg.cc {w : World} {s T p B O : Nat} {x : Int} {m c : Bool} {f : Nat → Wi} (h : Fg w s T p B O x m c f) : w.cell? ⟨s, B + 2, none⟩ = some (.bool c) := by
  obtain ⟨_, cs, h, _, _, _, _, h0, _⟩ := h; rw [cell_of_row w s _ cs T (0, 0) h]; exact h0
theorem Fg.cw {w : World} {s T p B O : Nat} {x : Int} {m c : Bool} {f : Nat → Wi} (h : Fg w s T p B O x m c f) {i : Nat} (hi : i < 17) :
    w.cell? ⟨s, O + i * 2, none⟩ = some (.int .u32 (f i).1) ∧ w.cell? ⟨s, O + i * 2 + 1, none⟩ = some (.int .i64 (f i).2) := by
  obtain ⟨_, cs, h, _, _, _, _, _, h0⟩ := h; rw [cell_of_row w s _ cs T (0, 0) h, cell_of_row w s _ cs T (0, 0) h]; exact h0 i hi
theorem Fg.fz {w : World} {s T p B O : Nat} {x : Int} {m c : Bool} {f : Nat → Wi} (h : Fg w s T p B O x m c f) (i : Nat) : w.frozen? ⟨s, i, none⟩ = false := by
  obtain ⟨_, cs, h, _⟩ := h; exact frozen_of_row w s i cs T h
theorem Fg.keep {w w' : World} {s T p B O : Nat} {x : Int} {m c : Bool} {f : Nat → Wi} (h : Fg w s T p B O x m c f) (k : w'.heap[s]? = w.heap[s]?) : Fg w' s T p B O x m c f := by
  obtain ⟨a, cs, h, r⟩ := h; exact ⟨a, cs, k.trans h, r⟩
theorem Fg.below {w w' : World} {s T p B O : Nat} {x : Int} {m c : Bool} {f : Nat → Wi} (h : Fg w s T p B O x m c f) (k : Below w.heap.size w w') : Fg w' s T p B O x m c f := h.keep (k.block s h.lt)
theorem Fg.only {w w' : World} {s T p B O q : Nat} {x : Int} {m c : Bool} {f : Nat → Wi} (h : Fg w s T p B O x m c f) (k : Only q w w') (h1 : s ≠ q) : Fg w' s T p B O x m c f := h.keep (k.block s h.lt h1)
theorem Fg.alloc {w : World} {s T p B O : Nat} {x : Int} {m c : Bool} {f : Nat → Wi} (h : Fg w s T p B O x m c f) (o : Obj) : Fg (w.alloc o) s T p B O x m c f := h.keep (Below.heap_alloc w o s h.lt)
theorem Fg.drew {w : World} {s T p B O : Nat} {x : Int} {m c : Bool} {f : Nat → Wi} (h : Fg w s T p B O x m c f) : Fg w.drew s T p B O x m c f := h
theorem Fg.drewN {w : World} {s T p B O : Nat} {x : Int} {m c : Bool} {f : Nat → Wi} (h : Fg w s T p B O x m c f) (n : Nat) : Fg (w.drewN n) s T p B O x m c f := h
theorem Fg.congr {w : World} {s T p B O : Nat} {x : Int} {m c : Bool} {f g : Nat → Wi} (h : Fg w s T p B O x m c f) (e : ∀ i, i < 17 → g i = f i) : Fg w s T p B O x m c g := by
  obtain ⟨a, cs, h, h0, h1, h2, h3, h4, h5⟩ := h; exact ⟨a, cs, h, h0, h1, h2, h3, h4, fun i hi => by rw [e i hi]; exact h5 i hi⟩
theorem Fg.setX {w : World} {s T p B O : Nat} {x : Int} {m c : Bool} {f : Nat → Wi} (h : Fg w s T p B O x m c f) (y : Int) : Fg (w.setCell ⟨s, B, none⟩ (.int .u32 y)) s T p B O y m c f := by
  obtain ⟨a, cs, h, h0, h1, h2, h3, h4, h5⟩ := h
  have hb : B < cs.size := by omega
  refine ⟨a, cs.setIfInBounds B (.int .u32 y), heap_setCell_same w s B cs T _ h, by simpa using h0, ?_, ?_, ?_, ?_, fun i hi => ⟨?_, ?_⟩⟩
  · rw [Array.getElem?_setIfInBounds_ne (by omega)]; exact h1
  · rw [Array.getElem?_setIfInBounds_self_of_lt hb]
  · rw [Array.getElem?_setIfInBounds_ne (by omega)]; exact h3
  · rw [Array.getElem?_setIfInBounds_ne (by omega)]; exact h4
  · rw [Array.getElem?_setIfInBounds_ne (by omega)]; exact (h5 i hi).1
  · rw [Array.getElem?_setIfInBounds_ne (by omega)]; exact (h5 i hi).2
theorem Fg.setA {w : World} {s T p B O : Nat} {x : Int} {m c : Bool} {f : Nat → Wi} (h : Fg w s T p B O x m c f) {t : Nat} (ht : t < 17) (y : Int) :
    Fg (w.setCell ⟨s, O + t * 2, none⟩ (.int .u32 y)) s T p B O x m c (fun i => if i = t then (y, (f t).2) else f i) := by
  obtain ⟨a, cs, h, h0, h1, h2, h3, h4, h5⟩ := h
  refine ⟨a, cs.setIfInBounds (O + t * 2) (.int .u32 y), heap_setCell_same w s _ cs T _ h, by simpa using h0, ?_, ?_, ?_, ?_, fun i hi => ?_⟩
  · rw [Array.getElem?_setIfInBounds_ne (by omega)]; exact h1
  · rw [Array.getElem?_setIfInBounds_ne (by omega)]; exact h2
  · rw [Array.getElem?_setIfInBounds_ne (by omega)]; exact h3
  · rw [Array.getElem?_setIfInBounds_ne (by omega)]; exact h4
  · by_cases e : i = t
    · subst e
      dsimp only
      rw [if_pos rfl]
      refine ⟨?_, ?_⟩
      · rw [Array.getElem?_setIfInBounds_self_of_lt (by omega)]
      · rw [Array.getElem?_setIfInBounds_ne (by omega)]; exact (h5 i hi).2
    · dsimp only
      rw [if_neg e]
      refine ⟨?_, ?_⟩
      · rw [Array.getElem?_setIfInBounds_ne (by omega)]; exact (h5 i hi).1
      · rw [Array.getElem?_setIfInBounds_ne (by omega)]; exact (h5 i hi).2
theorem Fg.setB {w : World} {s T p B O : Nat} {x : Int} {m c : Bool} {f : Nat → Wi} (h : Fg w s T p B O x m c f) {t : Nat} (ht : t < 17) (y : Int) :
    Fg (w.setCell ⟨s, O + t * 2 + 1, none⟩ (.int .i64 y)) s T p B O x m c (fun i => if i = t then ((f t).1, y) else f i) := by
  obtain ⟨a, cs, h, h0, h1, h2, h3, h4, h5⟩ := h
  refine ⟨a, cs.setIfInBounds (O + t * 2 + 1) (.int .i64 y), heap_setCell_same w s _ cs T _ h, by simpa using h0, ?_, ?_, ?_, ?_, fun i hi => ?_⟩
  · rw [Array.getElem?_setIfInBounds_ne (by omega)]; exact h1
  · rw [Array.getElem?_setIfInBounds_ne (by omega)]; exact h2
  · rw [Array.getElem?_setIfInBounds_ne (by omega)]; exact h3
  · rw [Array.getElem?_setIfInBounds_ne (by omega)]; exact h4
  · by_cases e : i = t
    · subst e
      dsimp only
      rw [if_pos rfl]
      refine ⟨?_, ?_⟩
      · rw [Array.getElem?_setIfInBounds_ne (by omega)]; exact (h5 i hi).1
      · rw [Array.getElem?_setIfInBounds_self_of_lt (by omega)]
    · dsimp only
      rw [if_neg e]
      refine ⟨?_, ?_⟩
      · rw [Array.getElem?_setIfInBounds_ne (by omega)]; exact (h5 i hi).1
      · rw [Array.getElem?_setIfInBounds_ne (by omega)]; exact (h5 i hi).2
theorem Fg.setP {w : World} {s T p B O : Nat} {x : Int} {m c : Bool} {f : Nat → Wi} (h : Fg w s T p B O x m c f) (q : Nat) : Fg (w.setCell ⟨s, 0, none⟩ (.pointer (some ⟨q, 0, none⟩))) s T q B O x m c f := by
  obtain ⟨a, cs, h, h0, h1, h2, h3, h4, h5⟩ := h
  refine ⟨a, cs.setIfInBounds 0 (.pointer (some ⟨q, 0, none⟩)), heap_setCell_same w s 0 cs T _ h, by simpa using h0, ?_, ?_, ?_, ?_, fun i hi => ⟨?_, ?_⟩⟩
  · rw [Array.getElem?_setIfInBounds_self_of_lt (by omega)]
  · rw [Array.getElem?_setIfInBounds_ne (by omega)]; exact h2
  · rw [Array.getElem?_setIfInBounds_ne (by omega)]; exact h3
  · rw [Array.getElem?_setIfInBounds_ne (by omega)]; exact h4
  · rw [Array.getElem?_setIfInBounds_ne (by omega)]; exact (h5 i hi).1
  · rw [Array.getElem?_setIfInBounds_ne (by omega)]; exact (h5 i hi).2
theorem Fg.type {w : World} {s T p B O : Nat} {x : Int} {m c : Bool} {f : Nat → Wi} (h : Fg w s T p B O x m c f) {e : TypeId} (he : e ≠ T) : ∀ cs fr, w.heap[s]? ≠ some (.cells cs e fr) := by
  intro cs2 fr h2
  obtain ⟨_, cs, h, _⟩ := h
  rw [h] at h2; injection h2 with h2; injection h2 with _ h3; exact he h3.symm
theorem Fg.ne {w : World} {s T U p B O : Nat} {x : Int} {m c : Bool} {f : Nat → Wi} {b : Bool} {L : List It} (h : Fg w s T p B O x m c f) {q : Nat} (k : Ln w q U b L) (hT : T ≠ U) : s ≠ q := by
  rintro rfl
  obtain ⟨_, cs, h, _⟩ := h
  exact k.type hT _ _ h
/-- all cells are of one cell each -/
theorem Fg.cells {w : World} {s T p B O : Nat} {x : Int} {m c : Bool} {f : Nat → Wi} (h : Fg w s T p B O x m c f) : ∃ cs, w.heap[s]? = some (.cells cs T (0, 0)) ∧ cs.size = 38 ∧ cs.all (·.oneCell') = true ∧
    ∀ w' q, w'.heap[q]? = some (.cells cs T (0, 0)) → Fg w' q T p B O x m c f := by
  obtain ⟨a, cs, h, h0, h1, h2, h3, h4, h5⟩ := h
  refine ⟨cs, h, h0, ?_, fun w' q hq => ⟨a, cs, hq, h0, h1, h2, h3, h4, h5⟩⟩
  rw [Array.all_eq_true]
  intro i hi
  have e : cs[i]? = some cs[i] := Array.getElem?_eq_getElem hi
  have one : ∀ v, cs[i]? = some v → v.oneCell' = true → (cs[i]).oneCell' = true := fun v hv ho => by rw [e] at hv; injection hv with hv; rw [hv]; exact ho
  by_cases i0 : i = 0
  · subst i0; exact one _ h1 rfl
  by_cases i1 : i = B
  · subst i1; exact one _ h2 rfl
  by_cases i2 : i = B + 1
  · subst i2; exact one _ h3 rfl
  by_cases i3 : i = B + 2
  · subst i3; exact one _ h4 rfl
  by_cases i4 : (i - O) % 2 = 0
  · have e4 : i = O + (i - O) / 2 * 2 := by omega
    have := (h5 ((i - O) / 2) (by omega)).1
    rw [← e4] at this
    exact one _ this rfl
  · have e4 : i = O + (i - O) / 2 * 2 + 1 := by omega
    have := (h5 ((i - O) / 2) (by omega)).2
    rw [← e4] at this
    exact one _ this rfl
end Go.Proofs.Ythgcmjiebdnnfaa
