/- Arguments opened: bytes, slices of slices of bytes, the calls of detentlaw16.BufferPlays (structs of three integers and bytes). -/
import Derived.Test.YtneimdjgbblaoaaBfL
import Derived.Deep.Slices
import Derived.Deep.Fields
import Derived.OpenShut
import Derived.ChangeSlices
import Derived.ProofKit
namespace Go.Proofs.Ytneimdjgbblaoaa
open Go.ChangeShapes Go.WideShapes Go.ChangeAt Go.RowKit Go.Deep
set_option maxRecDepth 100000

theorem spot_none {w : World} {a : Addr} {v : Value} (h : w.cell? a = some v) : a.spot = none := by
  obtain ⟨b, o, s⟩ := a
  cases s with
  | none => rfl
  | some q => simp [World.cell?] at h; split at h <;> simp at h
theorem add_zero' (a : Addr) : a.add 0 = a := by simp [Addr.add]

/-- bytes that came in -/
def Inb (w : World) (A : Option Addr) (n : Nat) (q : Nat → Int) : Prop :=
  0 < n → ∃ b o : Nat, A = some ⟨b, o, none⟩ ∧ b < w.heap.size ∧ ∀ j, j < n → w.cell? ⟨b, o + j, none⟩ = some (.int .u8 (q j)) ∧ 0 ≤ q j ∧ q j ≤ 255
theorem Inb.later {w w' : World} {A : Option Addr} {n : Nat} {q : Nat → Int} (h : Inb w A n q) (k : Below w.heap.size w w') : Inb w' A n q := fun h0 => by
  obtain ⟨b, o, h1, h2, h3⟩ := h h0
  exact ⟨b, o, h1, Nat.lt_of_lt_of_le h2 k.size, fun j hj => ⟨(k.cell (p := ⟨b, o + j, none⟩) h2).trans (h3 j hj).1, (h3 j hj).2⟩⟩
/-- they do not lie in a buffer that came later -/
theorem Inb.sb {w w' : World} {s p m : Nat} {A : Option Addr} {n : Nat} {q : Nat → Int} (h : Inb w A n q) (k : Below w.heap.size w w') (h1 : w.heap.size ≤ s) (h2 : w.heap.size ≤ p) (h3 : w.heap.size ≤ m) : Sb w' s p m A n q := fun h0 => by
  obtain ⟨b, o, e, hb, hc⟩ := h h0
  exact ⟨b, o, e, by omega, by omega, by omega, fun j hj => ⟨(k.cell (p := ⟨b, o + j, none⟩) hb).trans (hc j hj).1, (hc j hj).2⟩⟩
theorem Inb.src {w : World} {A : Option Addr} {n : Nat} {q : Nat → Int} (h : Inb w A n q) : R.Src w w.heap.size w.heap.size A n q := fun h0 => by
  obtain ⟨b, o, e, hb, hc⟩ := h h0
  exact ⟨b, o, e, by omega, by omega, hc⟩

/-- The messages of a slice of slices, as they lie in memory. -/
structure Pts (w : World) (b o n : Nat) (SA : Nat → Option Addr) (sn sk : Nat → Nat) (q : Nat → Nat → Int) : Prop where
  c : ∀ i, i < n → w.cell? ⟨b, o + i, none⟩ = some (.slice (SA i) (sn i) (sk i))
  src : ∀ i, i < n → Inb w (SA i) (sn i) (q i)
  cap : ∀ i, i < n → sn i ≤ sk i ∧ sn i ≤ 9223372036854775807
  hlt : ∀ i, i < n → b < w.heap.size
/-- The calls, as they lie in memory: four cells each. -/
structure Acts (w : World) (b o n : Nat) (op tk pr : Nat → Int) (SA : Nat → Option Addr) (sn sk : Nat → Nat) (q : Nat → Nat → Int) : Prop where
  c0 : ∀ i, i < n → w.cell? ⟨b, o + i * 4, none⟩ = some (.int .i64 (op i))
  c1 : ∀ i, i < n → w.cell? ⟨b, o + i * 4 + 1, none⟩ = some (.int .i64 (tk i))
  c2 : ∀ i, i < n → w.cell? ⟨b, o + i * 4 + 2, none⟩ = some (.int .i64 (pr i))
  c3 : ∀ i, i < n → w.cell? ⟨b, o + i * 4 + 3, none⟩ = some (.slice (SA i) (sn i) (sk i))
  src : ∀ i, i < n → Inb w (SA i) (sn i) (q i)
  cap : ∀ i, i < n → sn i ≤ sk i ∧ sn i ≤ 9223372036854775807
  hlt : ∀ i, i < n → b < w.heap.size

theorem cells33 : Try.prog.cellsOf 33 = 4 := by kernel_rfl
theorem cells3 : Try.prog.cellsOf 3 = 1 := by kernel_rfl
theorem cells31 : Try.prog.cellsOf 31 = 1 := by kernel_rfl

section
variable {H : Type} {enc : TypeId × Value → H} {W : World} {base : Nat} {spare : Nat → Bool} {held : Bool}

theorem bytes_open {fuel : Nat} {v : Value} {x : DataW H × List MemPlace} (h : DataW.trod enc Try.prog W base spare held fuel 31 [v] = some x) :
    ∃ (A : Option Addr) (n k : Nat) (q : Nat → Int), v = .slice A n k ∧ Inb W A n q ∧ n ≤ k ∧ n ≤ 9223372036854775807 := by
  rcases open_ints Try.underlying31 Try.underlying5 (by kernel_rfl) h with ⟨hcs, rfl⟩ | ⟨a, len, cap, zs, hcs, _, hl, hm, hz, rfl, hcell, hwf⟩
  · simp only [List.cons.injEq, and_true] at hcs
    subst hcs
    exact ⟨none, 0, 0, fun _ => 0, rfl, fun h => absurd h (by simp), by simp, by simp⟩
  · simp only [List.cons.injEq, and_true] at hcs
    subst hcs
    unfold maxLen at hm
    have hzl : len ≤ zs.length := by rw [hz]; split <;> omega
    refine ⟨some a, len, cap, fun j => zs.getD j 0, rfl, ?_, by omega, by omega⟩
    intro h0
    have hc0 := hcell 0 (by omega)
    rw [add_zero'] at hc0
    have hs := spot_none hc0
    obtain ⟨b, o, s⟩ := a
    simp only at hs
    subst hs
    have hb := block_lt_of_cell hc0
    refine ⟨b, o, rfl, hb, fun j hj => ?_⟩
    have hj' : j < zs.length := by omega
    have := hcell j hj'
    rw [R.add_at] at this
    have hw := hwf (zs.getD j 0) (by rw [List.getD_eq_getElem?_getD, List.getElem?_eq_getElem hj']; exact List.getElem_mem _)
    have hb8 := bounds_u8 hw
    exact ⟨this, by simp only; omega, by simp only; omega⟩

theorem parts_open {fuel : Nat} {v : Value} {x : DataW H × List MemPlace} (h : DataW.trod enc Try.prog W base spare held fuel 80 [v] = some x) :
    ∃ (A : Option Addr) (n cap b o : Nat) (SA : Nat → Option Addr) (sn sk : Nat → Nat) (q : Nat → Nat → Int), v = .slice A n cap ∧ n ≤ 9223372036854775807 ∧ (0 < n → A = some ⟨b, o, none⟩ ∧ Pts W b o n SA sn sk q) := by
  rcases open_slice1 (e := 31) Try.underlying80 (by kernel_rfl) h with ⟨hcs, rfl⟩ | ⟨a, len, cap, m, n, V, D, Pl, hcs, _, hl, hm, hmm, rfl, hel⟩
  · simp only [List.cons.injEq, and_true] at hcs
    subst hcs
    exact ⟨none, 0, 0, 0, 0, fun _ => none, fun _ => 0, fun _ => 0, fun _ _ => 0, rfl, by omega, fun h => absurd h (by omega)⟩
  · simp only [List.cons.injEq, and_true] at hcs
    subst hcs
    unfold maxLen at hm
    have hlm : len ≤ m := by rw [hmm]; split <;> omega
    have hch : ∀ i, i < len → ∃ y : Option Addr × Nat × Nat × (Nat → Int), V i = .slice y.1 y.2.1 y.2.2.1 ∧ Inb W y.1 y.2.1 y.2.2.2 ∧ y.2.1 ≤ y.2.2.1 ∧ y.2.1 ≤ 9223372036854775807 := fun i hi => by
      obtain ⟨A, n, k, q, h1, h2, h3, h4⟩ := bytes_open (hel i (by omega)).2
      exact ⟨⟨A, n, k, q⟩, h1, h2, h3, h4⟩
    obtain ⟨Y, hY⟩ := choose_lt hch
    refine ⟨some a, len, cap, a.block, a.off, fun i => (Y i).1, fun i => (Y i).2.1, fun i => (Y i).2.2.1, fun i => (Y i).2.2.2, rfl, by omega, fun h0 => ?_⟩
    have hc0 := (hel 0 (by omega)).1
    rw [add_zero'] at hc0
    have hs := spot_none hc0
    have hbl := block_lt_of_cell hc0
    obtain ⟨b, o, sp⟩ := a
    simp only at hs hbl
    subst hs
    refine ⟨rfl, fun i hi => ?_, fun i hi => (hY i hi).2.1, fun i hi => (hY i hi).2.2, fun i hi => hbl⟩
    have := (hel i (by omega)).1
    rw [R.add_at, (hY i hi).1] at this
    exact this

/-- one call's reading -/
def Act1 (W : World) (cs : List Value) (y : (Int × Int × Int) × Option Addr × Nat × Nat × (Nat → Int)) : Prop :=
  cs = [.int .i64 y.1.1, .int .i64 y.1.2.1, .int .i64 y.1.2.2, .slice y.2.1 y.2.2.1 y.2.2.2.1] ∧ Inb W y.2.1 y.2.2.1 y.2.2.2.2 ∧ y.2.2.1 ≤ y.2.2.2.1 ∧ y.2.2.1 ≤ 9223372036854775807

theorem act_open {fuel : Nat} {cs : List Value} {x : DataW H × List MemPlace} (h : DataW.trod enc Try.prog W base spare held fuel 33 cs = some x) : ∃ y, Act1 W cs y := by
  obtain ⟨ys, n, _, rfl, hl, hlen, hf⟩ := DataW.trod_struct Try.underlying33 h
  rw [cells33] at hl
  match cs, hl with
  | [c0, c1, c2, c3], _ =>
    match ys, hlen with
    | [y0, y1, y2, y3], _ =>
      have f0 : DataW.trod enc Try.prog W base spare held n 3 (List.take (Try.prog.cellsOf 3) (List.drop 0 [c0, c1, c2, c3])) = some y0 := hf 0 _ rfl
      rw [cells3] at f0
      change DataW.trod enc Try.prog W base spare held n 3 [c0] = some y0 at f0
      have f1 : DataW.trod enc Try.prog W base spare held n 3 (List.take (Try.prog.cellsOf 3) (List.drop 1 [c0, c1, c2, c3])) = some y1 := hf 1 _ rfl
      rw [cells3] at f1
      change DataW.trod enc Try.prog W base spare held n 3 [c1] = some y1 at f1
      have f2 : DataW.trod enc Try.prog W base spare held n 3 (List.take (Try.prog.cellsOf 3) (List.drop 2 [c0, c1, c2, c3])) = some y2 := hf 2 _ rfl
      rw [cells3] at f2
      change DataW.trod enc Try.prog W base spare held n 3 [c2] = some y2 at f2
      have f3 : DataW.trod enc Try.prog W base spare held n 31 (List.take (Try.prog.cellsOf 31) (List.drop 3 [c0, c1, c2, c3])) = some y3 := hf 3 _ rfl
      rw [cells31] at f3
      change DataW.trod enc Try.prog W base spare held n 31 [c3] = some y3 at f3
      obtain ⟨x0, e0, _⟩ := DataW.trod_int Try.underlying3 (x := y0) f0
      obtain ⟨x1, e1, _⟩ := DataW.trod_int Try.underlying3 (x := y1) f1
      obtain ⟨x2, e2, _⟩ := DataW.trod_int Try.underlying3 (x := y2) f2
      obtain ⟨A, m, k, q, e3, h1, h2, h3⟩ := bytes_open (x := y3) f3
      simp only [List.cons.injEq, and_true] at e0 e1 e2
      subst e0 e1 e2 e3
      exact ⟨⟨⟨x0, x1, x2⟩, A, m, k, q⟩, rfl, h1, h2, h3⟩

theorem acts_open {fuel : Nat} {v : Value} {x : DataW H × List MemPlace} (h : DataW.trod enc Try.prog W base spare held fuel 22 [v] = some x) :
    ∃ (A : Option Addr) (n cap b o : Nat) (op tk pr : Nat → Int) (SA : Nat → Option Addr) (sn sk : Nat → Nat) (q : Nat → Nat → Int),
      v = .slice A n cap ∧ n ≤ 9223372036854775807 ∧ (0 < n → A = some ⟨b, o, none⟩ ∧ Acts W b o n op tk pr SA sn sk q) := by
  rcases open_slice (e := 33) Try.underlying22 h with ⟨hcs, rfl⟩ | ⟨a, len, cap, m, n, D, Pl, hcs, _, hl, hm, hmm, rfl, hel⟩
  · simp only [List.cons.injEq, and_true] at hcs
    subst hcs
    exact ⟨none, 0, 0, 0, 0, fun _ => 0, fun _ => 0, fun _ => 0, fun _ => none, fun _ => 0, fun _ => 0, fun _ _ => 0, rfl, by omega, fun h => absurd h (by omega)⟩
  · simp only [List.cons.injEq, and_true] at hcs
    subst hcs
    unfold maxLen at hm
    have hlm : len ≤ m := by rw [hmm]; split <;> omega
    rw [cells33] at hel
    have hch : ∀ i, i < len → ∃ y, ∃ cs', W.cells? base (a.add (i * 4)) 4 = some cs' ∧ Act1 W cs' y := fun i hi => by
      obtain ⟨cs', h1, h2⟩ := hel i (by omega)
      obtain ⟨y, hy⟩ := act_open h2
      exact ⟨y, cs', h1, hy⟩
    obtain ⟨Y, hY⟩ := choose_lt hch
    have hcell : ∀ i, i < len → ∀ j, j < 4 → W.cell? (a.add (i * 4 + j)) = [Value.int .i64 (Y i).1.1, .int .i64 (Y i).1.2.1, .int .i64 (Y i).1.2.2, .slice (Y i).2.1 (Y i).2.2.1 (Y i).2.2.2.1][j]? := fun i hi j hj => by
      obtain ⟨cs', h1, h2⟩ := hY i hi
      obtain ⟨_, _, h3⟩ := World.cells?_some h1
      have := h3 j hj
      rw [add_add, h2.1] at this
      exact this
    refine ⟨some a, len, cap, a.block, a.off, fun i => (Y i).1.1, fun i => (Y i).1.2.1, fun i => (Y i).1.2.2, fun i => (Y i).2.1, fun i => (Y i).2.2.1, fun i => (Y i).2.2.2.1, fun i => (Y i).2.2.2.2, rfl, by omega, fun h0 => ?_⟩
    have hc0 := hcell 0 h0 0 (by omega)
    simp only [Nat.zero_mul, Nat.zero_add, add_zero'] at hc0
    have hs := spot_none hc0
    have hbl := block_lt_of_cell hc0
    obtain ⟨b, o, sp⟩ := a
    simp only at hs hbl
    subst hs
    simp only [R.add_at] at hcell
    refine ⟨rfl, ⟨fun i hi => hcell i hi 0 (by omega), fun i hi => hcell i hi 1 (by omega), fun i hi => hcell i hi 2 (by omega), fun i hi => hcell i hi 3 (by omega), fun i hi => ?_, fun i hi => ?_, fun i hi => hbl⟩⟩
    · obtain ⟨cs', _, h2⟩ := hY i hi; exact h2.2.1
    · obtain ⟨cs', _, h2⟩ := hY i hi; exact h2.2.2
end
end Go.Proofs.Ytneimdjgbblaoaa
