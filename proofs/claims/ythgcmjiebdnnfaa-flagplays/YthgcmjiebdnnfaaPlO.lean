/-
  The calls of detentlaw12.FlagPlays, opened: a slice of structs of integers and a slice of integers.
-/
import Derived.Test.YthgcmjiebdnnfaaFgQ
import Derived.Test.YthgcmjiebdnnfaaFgL
import Derived.Deep.Slices
import Derived.Deep.Fields
import Derived.OpenShut
import Derived.ChangeSlices
import Derived.ProofKit
namespace Go.Proofs.Ythgcmjiebdnnfaa.flagPlays
open Go.ChangeShapes Go.WideShapes Go.ChangeAt Go.RowKit Go.Deep
set_option linter.unusedVariables false
set_option maxRecDepth 100000

theorem spot_none {w : World} {a : Addr} {v : Value} (h : w.cell? a = some v) : a.spot = none := by
  obtain ⟨b, o, s⟩ := a
  cases s with
  | none => rfl
  | some q => simp [World.cell?] at h; split at h <;> simp at h
theorem add_zero' (a : Addr) : a.add 0 = a := by simp [Addr.add]

/-- one call -/
structure Ac where
  op : Int
  id : Int
  pri : Int
  w : Int
  md : Int
  A : Option Addr
  n : Nat
  k : Nat
  q : Nat → Int

instance : Inhabited Ac := ⟨⟨0, 0, 0, 0, 0, none, 0, 0, fun _ => 0⟩⟩
/-- its cells -/
def Ac.cs (c : Ac) : List Value := [.int .i64 c.op, .int .i64 c.id, .int .i64 c.pri, .int .u32 c.w, .int .i64 c.md, .slice c.A c.n c.k]

/-- The calls, as they lie in memory: six cells each. -/
structure Acts (w : World) (b o n : Nat) (c : Nat → Ac) : Prop where
  c0 : ∀ i, i < n → w.cell? ⟨b, o + i * 6, none⟩ = some (.int .i64 (c i).op)
  c1 : ∀ i, i < n → w.cell? ⟨b, o + i * 6 + 1, none⟩ = some (.int .i64 (c i).id)
  c2 : ∀ i, i < n → w.cell? ⟨b, o + i * 6 + 2, none⟩ = some (.int .i64 (c i).pri)
  c3 : ∀ i, i < n → w.cell? ⟨b, o + i * 6 + 3, none⟩ = some (.int .u32 (c i).w)
  c4 : ∀ i, i < n → w.cell? ⟨b, o + i * 6 + 4, none⟩ = some (.int .i64 (c i).md)
  c5 : ∀ i, i < n → w.cell? ⟨b, o + i * 6 + 5, none⟩ = some (.slice (c i).A (c i).n (c i).k)
  src : ∀ i, i < n → Uf w (c i).A (c i).n (c i).q
  cap : ∀ i, i < n → (c i).n ≤ 9223372036854775807
  hlt : ∀ i, i < n → b < w.heap.size

theorem cells31 : Try.prog.cellsOf 31 = 6 := by kernel_rfl
theorem cells3 : Try.prog.cellsOf 3 = 1 := by kernel_rfl
theorem cells22 : Try.prog.cellsOf 22 = 1 := by kernel_rfl
theorem cells29 : Try.prog.cellsOf 29 = 1 := by kernel_rfl

section
variable {H : Type} {enc : TypeId × Value → H} {W : World} {base : Nat} {spare : Nat → Bool} {held : Bool}

theorem bits_open {fuel : Nat} {v : Value} {x : DataW H × List MemPlace} (h : DataW.trod enc Try.prog W base spare held fuel 29 [v] = some x) :
    ∃ (A : Option Addr) (n k : Nat) (q : Nat → Int), v = .slice A n k ∧ Uf W A n q ∧ n ≤ 9223372036854775807 := by
  rcases open_ints Try.underlying29 Try.underlying22 (by kernel_rfl) h with ⟨hcs, rfl⟩ | ⟨a, len, cap, zs, hcs, _, hl, hm, hz, rfl, hcell, hwf⟩
  · simp only [List.cons.injEq, and_true] at hcs
    subst hcs
    exact ⟨none, 0, 0, fun _ => 0, rfl, fun h => absurd h (by simp), by simp⟩
  · simp only [List.cons.injEq, and_true] at hcs
    subst hcs
    unfold maxLen at hm
    have hzl : len ≤ zs.length := by rw [hz]; split <;> omega
    refine ⟨some a, len, cap, fun j => zs.getD j 0, rfl, ?_, by omega⟩
    intro h0
    have hc0 := hcell 0 (by omega)
    rw [add_zero'] at hc0
    have hs := spot_none hc0
    obtain ⟨b, o, s⟩ := a
    simp only at hs
    subst hs
    have hb := block_lt_of_cell hc0
    refine ⟨b, o, rfl, hb, fun j hj => ?_⟩
    have hj' : j < zs.length := by omega
    have := hcell j hj'
    rw [addr_add] at this
    exact ⟨this, u_of (hwf (zs.getD j 0) (by rw [List.getD_eq_getElem?_getD, List.getElem?_eq_getElem hj']; exact List.getElem_mem _))⟩

/-- one call's reading -/
def Act1 (W : World) (cs : List Value) (y : Ac) : Prop := cs = y.cs ∧ Uf W y.A y.n y.q ∧ y.n ≤ 9223372036854775807

theorem act_open {fuel : Nat} {cs : List Value} {x : DataW H × List MemPlace} (h : DataW.trod enc Try.prog W base spare held fuel 31 cs = some x) : ∃ y, Act1 W cs y := by
  obtain ⟨ys, n, _, rfl, hl, hlen, hf⟩ := DataW.trod_struct Try.underlying31 h
  rw [cells31] at hl
  match cs, hl with
  | [c0, c1, c2, c3, c4, c5], _ =>
    match ys, hlen with
    | [y0, y1, y2, y3, y4, y5], _ =>
      have f0 : DataW.trod enc Try.prog W base spare held n 3 (List.take (Try.prog.cellsOf 3) (List.drop 0 [c0, c1, c2, c3, c4, c5])) = some y0 := hf 0 _ rfl
      rw [cells3] at f0
      change DataW.trod enc Try.prog W base spare held n 3 [c0] = some y0 at f0
      have f1 : DataW.trod enc Try.prog W base spare held n 3 (List.take (Try.prog.cellsOf 3) (List.drop 1 [c0, c1, c2, c3, c4, c5])) = some y1 := hf 1 _ rfl
      rw [cells3] at f1
      change DataW.trod enc Try.prog W base spare held n 3 [c1] = some y1 at f1
      have f2 : DataW.trod enc Try.prog W base spare held n 3 (List.take (Try.prog.cellsOf 3) (List.drop 2 [c0, c1, c2, c3, c4, c5])) = some y2 := hf 2 _ rfl
      rw [cells3] at f2
      change DataW.trod enc Try.prog W base spare held n 3 [c2] = some y2 at f2
      have f3 : DataW.trod enc Try.prog W base spare held n 22 (List.take (Try.prog.cellsOf 22) (List.drop 3 [c0, c1, c2, c3, c4, c5])) = some y3 := hf 3 _ rfl
      rw [cells22] at f3
      change DataW.trod enc Try.prog W base spare held n 22 [c3] = some y3 at f3
      have f4 : DataW.trod enc Try.prog W base spare held n 3 (List.take (Try.prog.cellsOf 3) (List.drop 4 [c0, c1, c2, c3, c4, c5])) = some y4 := hf 4 _ rfl
      rw [cells3] at f4
      change DataW.trod enc Try.prog W base spare held n 3 [c4] = some y4 at f4
      have f5 : DataW.trod enc Try.prog W base spare held n 29 (List.take (Try.prog.cellsOf 29) (List.drop 5 [c0, c1, c2, c3, c4, c5])) = some y5 := hf 5 _ rfl
      rw [cells29] at f5
      change DataW.trod enc Try.prog W base spare held n 29 [c5] = some y5 at f5
      obtain ⟨x0, e0, _⟩ := DataW.trod_int Try.underlying3 (x := y0) f0
      obtain ⟨x1, e1, _⟩ := DataW.trod_int Try.underlying3 (x := y1) f1
      obtain ⟨x2, e2, _⟩ := DataW.trod_int Try.underlying3 (x := y2) f2
      obtain ⟨x3, e3, _⟩ := DataW.trod_int Try.underlying22 (x := y3) f3
      obtain ⟨x4, e4, _⟩ := DataW.trod_int Try.underlying3 (x := y4) f4
      obtain ⟨A, m, k, q, e5, h1, h2⟩ := bits_open (x := y5) f5
      simp only [List.cons.injEq, and_true] at e0 e1 e2 e3 e4
      subst e0 e1 e2 e3 e4 e5
      exact ⟨⟨x0, x1, x2, x3, x4, A, m, k, q⟩, rfl, h1, h2⟩

theorem acts_open {fuel : Nat} {v : Value} {x : DataW H × List MemPlace} (h : DataW.trod enc Try.prog W base spare held fuel 23 [v] = some x) :
    ∃ (A : Option Addr) (n cap b o : Nat) (c : Nat → Ac),
      v = .slice A n cap ∧ n ≤ 9223372036854775807 ∧ (0 < n → A = some ⟨b, o, none⟩ ∧ Acts W b o n c) := by
  rcases open_slice (e := 31) Try.underlying23 h with ⟨hcs, rfl⟩ | ⟨a, len, cap, m, n, D, Pl, hcs, _, hl, hm, hmm, rfl, hel⟩
  · simp only [List.cons.injEq, and_true] at hcs
    subst hcs
    exact ⟨none, 0, 0, 0, 0, fun _ => ⟨0, 0, 0, 0, 0, none, 0, 0, fun _ => 0⟩, rfl, by omega, fun h => absurd h (by omega)⟩
  · simp only [List.cons.injEq, and_true] at hcs
    subst hcs
    unfold maxLen at hm
    have hlm : len ≤ m := by rw [hmm]; split <;> omega
    rw [cells31] at hel
    have hch : ∀ i, i < len → ∃ y, ∃ cs', W.cells? base (a.add (i * 6)) 6 = some cs' ∧ Act1 W cs' y := fun i hi => by
      obtain ⟨cs', h1, h2⟩ := hel i (by omega)
      obtain ⟨y, hy⟩ := act_open h2
      exact ⟨y, cs', h1, hy⟩
    obtain ⟨Y, hY⟩ := choose_lt hch
    have hcell : ∀ i, i < len → ∀ j, j < 6 → W.cell? (a.add (i * 6 + j)) = (Y i).cs[j]? := fun i hi j hj => by
      obtain ⟨cs', h1, h2⟩ := hY i hi
      obtain ⟨_, _, h3⟩ := World.cells?_some h1
      have := h3 j hj
      rw [add_add, h2.1] at this
      exact this
    refine ⟨some a, len, cap, a.block, a.off, Y, rfl, by omega, fun h0 => ?_⟩
    have hc0 := hcell 0 h0 0 (by omega)
    simp only [Nat.zero_mul, Nat.zero_add, add_zero'] at hc0
    have hs := spot_none (v := .int .i64 (Y 0).op) hc0
    have hbl := block_lt_of_cell (v := .int .i64 (Y 0).op) hc0
    obtain ⟨b, o, sp⟩ := a
    simp only at hs hbl
    subst hs
    simp only [addr_add] at hcell
    refine ⟨rfl, ⟨fun i hi => hcell i hi 0 (by omega), fun i hi => hcell i hi 1 (by omega), fun i hi => hcell i hi 2 (by omega), fun i hi => hcell i hi 3 (by omega), fun i hi => hcell i hi 4 (by omega), fun i hi => hcell i hi 5 (by omega), fun i hi => ?_, fun i hi => ?_, fun i hi => hbl⟩⟩
    · obtain ⟨cs', _, h2⟩ := hY i hi; exact h2.2.1
    · obtain ⟨cs', _, h2⟩ := hY i hi; exact h2.2.2
end
end Go.Proofs.Ythgcmjiebdnnfaa.flagPlays
