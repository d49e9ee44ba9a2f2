/-
  The calls of detentlaw15.MutexPlays, opened: a slice of structs of four integers.
-/
import Derived.Test.YtmicinenggkmlaaRmI
import Derived.Deep.Slices
import Derived.Deep.Fields
import Derived.OpenShut
import Derived.ChangeSlices
import Derived.ProofKit
namespace Go.Proofs.Ytmicinenggkmlaa.mutexPlays
def In64 (x : Int) : Prop := -9223372036854775808 ≤ x ∧ x ≤ 9223372036854775807
theorem in64 {x : Int} (h1 : -9223372036854775808 ≤ x) (h2 : x ≤ 9223372036854775807) : In64 x := ⟨h1, h2⟩
open Go.ChangeShapes Go.WideShapes Go.ChangeAt Go.RowKit Go.Deep
set_option linter.unusedVariables false
set_option maxRecDepth 100000

theorem spot_none {w : World} {a : Addr} {v : Value} (h : w.cell? a = some v) : a.spot = none := by
  obtain ⟨b, o, s⟩ := a
  cases s with
  | none => rfl
  | some q => simp [World.cell?] at h; split at h <;> simp at h
theorem add_zero' (a : Addr) : a.add 0 = a := by simp [Addr.add]

/-- The calls, as they lie in memory: four cells each. -/
structure Acts (w : World) (b o n : Nat) (op id pri dat : Nat → Int) : Prop where
  c0 : ∀ i, i < n → w.cell? ⟨b, o + i * 4, none⟩ = some (.int .i64 (op i))
  c1 : ∀ i, i < n → w.cell? ⟨b, o + i * 4 + 1, none⟩ = some (.int .i64 (id i))
  c2 : ∀ i, i < n → w.cell? ⟨b, o + i * 4 + 2, none⟩ = some (.int .i64 (pri i))
  c3 : ∀ i, i < n → w.cell? ⟨b, o + i * 4 + 3, none⟩ = some (.int .i64 (dat i))
  wf : ∀ i, i < n → In64 (dat i)
  hlt : ∀ i, i < n → b < w.heap.size

theorem cells35 : Try.prog.cellsOf 35 = 4 := by kernel_rfl
theorem cells3 : Try.prog.cellsOf 3 = 1 := by kernel_rfl

section
variable {H : Type} {enc : TypeId × Value → H} {W : World} {base : Nat} {spare : Nat → Bool} {held : Bool}

/-- one call's reading -/
def Act1 (cs : List Value) (y : Int × Int × Int × Int) : Prop := cs = [.int .i64 y.1, .int .i64 y.2.1, .int .i64 y.2.2.1, .int .i64 y.2.2.2] ∧ In64 y.2.2.2

theorem act_open {fuel : Nat} {cs : List Value} {x : DataW H × List MemPlace} (h : DataW.trod enc Try.prog W base spare held fuel 35 cs = some x) : ∃ y, Act1 cs y := by
  obtain ⟨ys, n, _, rfl, hl, hlen, hf⟩ := DataW.trod_struct Try.underlying35 h
  rw [cells35] at hl
  match cs, hl with
  | [c0, c1, c2, c3], _ =>
    match ys, hlen with
    | [y0, y1, y2, y3], _ =>
      have f0 : DataW.trod enc Try.prog W base spare held n 3 (List.take (Try.prog.cellsOf 3) (List.drop 0 [c0, c1, c2, c3])) = some y0 := hf 0 _ rfl
      rw [cells3] at f0
      change DataW.trod enc Try.prog W base spare held n 3 [c0] = some y0 at f0
      have f1 : DataW.trod enc Try.prog W base spare held n 3 (List.take (Try.prog.cellsOf 3) (List.drop 1 [c0, c1, c2, c3])) = some y1 := hf 1 _ rfl
      rw [cells3] at f1
      change DataW.trod enc Try.prog W base spare held n 3 [c1] = some y1 at f1
      have f2 : DataW.trod enc Try.prog W base spare held n 3 (List.take (Try.prog.cellsOf 3) (List.drop 2 [c0, c1, c2, c3])) = some y2 := hf 2 _ rfl
      rw [cells3] at f2
      change DataW.trod enc Try.prog W base spare held n 3 [c2] = some y2 at f2
      have f3 : DataW.trod enc Try.prog W base spare held n 3 (List.take (Try.prog.cellsOf 3) (List.drop 3 [c0, c1, c2, c3])) = some y3 := hf 3 _ rfl
      rw [cells3] at f3
      change DataW.trod enc Try.prog W base spare held n 3 [c3] = some y3 at f3
      obtain ⟨x0, e0, _⟩ := DataW.trod_int Try.underlying3 (x := y0) f0
      obtain ⟨x1, e1, _⟩ := DataW.trod_int Try.underlying3 (x := y1) f1
      obtain ⟨x2, e2, _⟩ := DataW.trod_int Try.underlying3 (x := y2) f2
      obtain ⟨x3, e3, _, g3⟩ := DataW.trod_int Try.underlying3 (x := y3) f3
      simp only [List.cons.injEq, and_true] at e0 e1 e2 e3
      subst e0 e1 e2 e3
      exact ⟨⟨x0, x1, x2, x3⟩, rfl, in64 (bounds_i64 g3).1 (bounds_i64 g3).2⟩

theorem acts_open {fuel : Nat} {v : Value} {x : DataW H × List MemPlace} (h : DataW.trod enc Try.prog W base spare held fuel 23 [v] = some x) :
    ∃ (A : Option Addr) (n cap b o : Nat) (op id pri dat : Nat → Int),
      v = .slice A n cap ∧ n ≤ 9223372036854775807 ∧ (0 < n → A = some ⟨b, o, none⟩ ∧ Acts W b o n op id pri dat) := by
  rcases open_slice (e := 35) Try.underlying23 h with ⟨hcs, rfl⟩ | ⟨a, len, cap, m, n, D, Pl, hcs, _, hl, hm, hmm, rfl, hel⟩
  · simp only [List.cons.injEq, and_true] at hcs
    subst hcs
    exact ⟨none, 0, 0, 0, 0, fun _ => 0, fun _ => 0, fun _ => 0, fun _ => 0, rfl, by omega, fun h => absurd h (by omega)⟩
  · simp only [List.cons.injEq, and_true] at hcs
    subst hcs
    unfold maxLen at hm
    have hlm : len ≤ m := by rw [hmm]; split <;> omega
    rw [cells35] at hel
    have hch : ∀ i, i < len → ∃ y, ∃ cs', W.cells? base (a.add (i * 4)) 4 = some cs' ∧ Act1 cs' y := fun i hi => by
      obtain ⟨cs', h1, h2⟩ := hel i (by omega)
      obtain ⟨y, hy⟩ := act_open h2
      exact ⟨y, cs', h1, hy⟩
    obtain ⟨Y, hY⟩ := choose_lt hch
    have hcell : ∀ i, i < len → ∀ j, j < 4 → W.cell? (a.add (i * 4 + j)) = [Value.int .i64 (Y i).1, .int .i64 (Y i).2.1, .int .i64 (Y i).2.2.1, .int .i64 (Y i).2.2.2][j]? := fun i hi j hj => by
      obtain ⟨cs', h1, h2⟩ := hY i hi
      obtain ⟨_, _, h3⟩ := World.cells?_some h1
      have := h3 j hj
      rw [add_add, show cs' = _ from h2.1] at this
      exact this
    refine ⟨some a, len, cap, a.block, a.off, fun i => (Y i).1, fun i => (Y i).2.1, fun i => (Y i).2.2.1, fun i => (Y i).2.2.2, rfl, by omega, fun h0 => ?_⟩
    have hc0 := hcell 0 h0 0 (by omega)
    simp only [Nat.zero_mul, Nat.zero_add, add_zero'] at hc0
    have hs := spot_none hc0
    have hbl := block_lt_of_cell hc0
    obtain ⟨b, o, sp⟩ := a
    simp only at hs hbl
    subst hs
    simp only [addr_add] at hcell
    exact ⟨rfl, ⟨fun i hi => hcell i hi 0 (by omega), fun i hi => hcell i hi 1 (by omega), fun i hi => hcell i hi 2 (by omega), fun i hi => hcell i hi 3 (by omega), fun i hi => by obtain ⟨_, _, h2⟩ := hY i hi; exact h2.2, fun i hi => hbl⟩⟩

theorem cells55 : Try.prog.cellsOf 55 = 2 := by kernel_rfl
theorem kind_open {fuel : Nat} {cs : List Value} {x : DataW H × List MemPlace} (h : DataW.trod enc Try.prog W base spare held fuel 55 cs = some x) : ∃ y : Int × Int, cs = [.int .i64 y.1, .int .i64 y.2] := by
  obtain ⟨ys, n, _, rfl, hl, hlen, hf⟩ := DataW.trod_struct Try.underlying55 h
  rw [cells55] at hl
  match cs, hl with
  | [c0, c1], _ =>
    match ys, hlen with
    | [y0, y1], _ =>
      have f0 : DataW.trod enc Try.prog W base spare held n 3 (List.take (Try.prog.cellsOf 3) (List.drop 0 [c0, c1])) = some y0 := hf 0 _ rfl
      rw [cells3] at f0
      change DataW.trod enc Try.prog W base spare held n 3 [c0] = some y0 at f0
      have f1 : DataW.trod enc Try.prog W base spare held n 3 (List.take (Try.prog.cellsOf 3) (List.drop 1 [c0, c1])) = some y1 := hf 1 _ rfl
      rw [cells3] at f1
      change DataW.trod enc Try.prog W base spare held n 3 [c1] = some y1 at f1
      obtain ⟨x0, e0, _⟩ := DataW.trod_int Try.underlying3 (x := y0) f0
      obtain ⟨x1, e1, _⟩ := DataW.trod_int Try.underlying3 (x := y1) f1
      simp only [List.cons.injEq, and_true] at e0 e1
      subst e0 e1
      exact ⟨⟨x0, x1⟩, rfl⟩
theorem kinds_open {fuel : Nat} {v : Value} {x : DataW H × List MemPlace} (h : DataW.trod enc Try.prog W base spare held fuel 22 [v] = some x) :
    ∃ (X : Option Addr) (k : Nat) (L : List (Int × Int)), v = .slice X L.length k ∧ L.length ≤ 9223372036854775807 ∧ (0 < L.length → K.Sr K.ck W X k L) := by
  rcases open_slice (e := 55) Try.underlying22 h with ⟨hcs, rfl⟩ | ⟨a, len, cap, m, n, D, Pl, hcs, _, hl, hm, hmm, rfl, hel⟩
  · simp only [List.cons.injEq, and_true] at hcs
    subst hcs
    exact ⟨none, 0, [], rfl, by simp, fun h => absurd h (by simp)⟩
  · simp only [List.cons.injEq, and_true] at hcs
    subst hcs
    unfold maxLen at hm
    have hlm : len ≤ m := by rw [hmm]; split <;> omega
    rw [cells55] at hel
    have hch : ∀ i, i < len → ∃ y : Int × Int, ∀ j, j < 2 → W.cell? (a.add (i * 2 + j)) = [Value.int .i64 y.1, .int .i64 y.2][j]? := fun i hi => by
      obtain ⟨cs', h1, h2⟩ := hel i (by omega)
      obtain ⟨y, hy⟩ := kind_open h2
      refine ⟨y, fun j hj => ?_⟩
      obtain ⟨_, _, h3⟩ := World.cells?_some h1
      have := h3 j hj
      rw [add_add, hy] at this
      exact this
    obtain ⟨Y, hY⟩ := choose_lt hch
    have hlen : ((List.range len).map Y).length = len := by simp
    refine ⟨some a, cap, (List.range len).map Y, by rw [hlen], by rw [hlen]; omega, ?_⟩
    intro h00
    rw [hlen] at h00
    have h0 : 0 < len := h00
    have hc0 := hY 0 h0 0 (by omega)
    simp only [Nat.zero_mul, Nat.zero_add, add_zero'] at hc0
    have hs := spot_none hc0
    have hbl := block_lt_of_cell hc0
    obtain ⟨b, o, sp⟩ := a
    simp only at hs hbl
    subst hs
    simp only [addr_add] at hY
    refine .inr ⟨b, o, rfl, hbl, fun j u hu => ?_⟩
    have hj : j < len * 2 := by
      have := (List.getElem?_eq_some_iff.1 hu).1
      rw [K.vals_len (z := 2) (fun _ => rfl), hlen] at this; exact this
    have hv := K.vals_get (c := K.ck) (z := 2) (fun _ => rfl) ((List.range len).map Y) (j / 2) (j % 2) (Y (j / 2)) (by omega) (by rw [List.getElem?_map, List.getElem?_range (by omega)]; rfl)
    rw [show j / 2 * 2 + j % 2 = j by omega] at hv
    have h2 := hY (j / 2) (by omega) (j % 2) (by omega)
    rw [show j / 2 * 2 + j % 2 = j by omega] at h2
    rw [h2, ← hu, hv]; rfl
end
end Go.Proofs.Ytmicinenggkmlaa.mutexPlays
