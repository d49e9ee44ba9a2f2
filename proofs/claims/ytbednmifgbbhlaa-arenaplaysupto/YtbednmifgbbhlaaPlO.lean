/-
  The calls of detentlaw2.ArenaPlays, opened: a slice of structs of five fields.
-/
import Derived.Test.YtbednmifgbbhlaaPlM
import Derived.Deep.Fields
namespace Go.Proofs.Ytbednmifgbbhlaa.arenaPlays
open Go.ChangeShapes Go.WideShapes Go.ChangeAt Go.RowKit Go.Deep
set_option linter.unusedVariables false

theorem cells32 : Try.prog.cellsOf 32 = 5 := by kernel_rfl
theorem cells3 : Try.prog.cellsOf 3 = 1 := by kernel_rfl
theorem cells29 : Try.prog.cellsOf 29 = 1 := by kernel_rfl
theorem cells30 : Try.prog.cellsOf 30 = 1 := by kernel_rfl

section
variable {H : Type} {enc : TypeId × Value → H} {W : World} {base : Nat} {spare : Nat → Bool} {held : Bool}

/-- one call's reading -/
def Act1 (W : World) (cs : List Value) (bulk : Nat) (y : Int × Int × Int × Option Addr × Nat × List (List Int) × Int) : Prop :=
  cs = [.int .i64 y.1, .int .i64 y.2.1, .int .i64 y.2.2.1, .slice y.2.2.2.1 y.2.2.2.2.2.1.length y.2.2.2.2.1, .int .u32 y.2.2.2.2.2.2] ∧ Parts W W.heap.size W.heap.size y.2.2.2.1 y.2.2.2.2.2.1 ∧
    y.2.2.2.2.2.1.length ≤ 9223372036854775807 ∧ (whole y.2.2.2.2.2.1).length ≤ bulk ∧ 0 ≤ y.2.2.2.2.2.2 ∧ y.2.2.2.2.2.2 ≤ 4294967295

theorem act_open {fuel : Nat} {cs : List Value} {x : DataW H × List MemPlace} (h : DataW.trod enc Try.prog W base spare held fuel 32 cs = some x) :
    ∃ y, Act1 W cs (Rows.uptoBulk x.1) y := by
  obtain ⟨ys, n, _, rfl, hl, hlen, hf⟩ := DataW.trod_struct Try.underlying32 h
  rw [cells32] at hl
  match cs, hl with
  | [c0, c1, c2, c3, c4], _ =>
    match ys, hlen with
    | [y0, y1, y2, y3, y4], _ =>
      have f0 : DataW.trod enc Try.prog W base spare held n 3 (List.take (Try.prog.cellsOf 3) (List.drop 0 [c0, c1, c2, c3, c4])) = some y0 := hf 0 _ rfl
      rw [cells3] at f0
      change DataW.trod enc Try.prog W base spare held n 3 [c0] = some y0 at f0
      have f1 : DataW.trod enc Try.prog W base spare held n 3 (List.take (Try.prog.cellsOf 3) (List.drop 1 [c0, c1, c2, c3, c4])) = some y1 := hf 1 _ rfl
      rw [cells3] at f1
      change DataW.trod enc Try.prog W base spare held n 3 [c1] = some y1 at f1
      have f2 : DataW.trod enc Try.prog W base spare held n 3 (List.take (Try.prog.cellsOf 3) (List.drop 2 [c0, c1, c2, c3, c4])) = some y2 := hf 2 _ rfl
      rw [cells3] at f2
      change DataW.trod enc Try.prog W base spare held n 3 [c2] = some y2 at f2
      have f3 : DataW.trod enc Try.prog W base spare held n 29 (List.take (Try.prog.cellsOf 29) (List.drop 3 [c0, c1, c2, c3, c4])) = some y3 := hf 3 _ rfl
      rw [cells29] at f3
      change DataW.trod enc Try.prog W base spare held n 29 [c3] = some y3 at f3
      have f4 : DataW.trod enc Try.prog W base spare held n 30 (List.take (Try.prog.cellsOf 30) (List.drop 4 [c0, c1, c2, c3, c4])) = some y4 := hf 4 _ rfl
      rw [cells30] at f4
      change DataW.trod enc Try.prog W base spare held n 30 [c4] = some y4 at f4
      obtain ⟨x0, e0, _⟩ := DataW.trod_int Try.underlying3 (x := y0) f0
      obtain ⟨x1, e1, _⟩ := DataW.trod_int Try.underlying3 (x := y1) f1
      obtain ⟨x2, e2, _⟩ := DataW.trod_int Try.underlying3 (x := y2) f2
      obtain ⟨x4, e4, _, hw4⟩ := DataW.trod_int Try.underlying30 (x := y4) f4
      obtain ⟨B, K, ps, e3, hp, hpl, hpw⟩ := parts_open (x := y3) f3
      simp only [List.cons.injEq, and_true] at e0 e1 e2 e4
      subst e0 e1 e2 e3 e4
      have hb := bounds_u32 hw4
      refine ⟨⟨x0, x1, x2, B, K, ps, x4⟩, rfl, hp, hpl, ?_, by simp only; omega, by simp only; omega⟩
      simp only [Rows.uptoBulk, Rows.uptoBulkAll, List.map_cons, List.map_nil]
      omega

theorem bulk_map {D : Nat → DataW H} {len i : Nat} (hi : i < len) : Rows.uptoBulk (D i) ≤ Rows.uptoBulkAll ((List.range len).map D) := by
  induction len with
  | zero => omega
  | succ k ih =>
    rw [List.range_succ, List.map_append, bulkAll_append]
    by_cases h : i = k
    · subst h; simp only [List.map_cons, List.map_nil, Rows.uptoBulkAll]; omega
    · have := ih (by omega); omega

theorem acts_open {fuel : Nat} {v : Value} {x : DataW H × List MemPlace} (h : DataW.trod enc Try.prog W base spare held fuel 22 [v] = some x) (hx : Rows.uptoBulk x.1 ≤ 1048576) :
    ∃ (A : Option Addr) (n cap b o : Nat) (op at_ nn : Nat → Int) (PB : Nat → Option Addr) (PK : Nat → Nat) (parts : Nat → List (List Int)) (wd : Nat → Int),
      v = .slice A n cap ∧ n ≤ 9223372036854775807 ∧ (0 < n → A = some ⟨b, o, none⟩ ∧ Acts W b o n op at_ nn PB PK parts wd) := by
  rcases open_slice (e := 32) Try.underlying22 h with ⟨hcs, rfl⟩ | ⟨a, len, cap, m, n, D, Pl, hcs, _, hl, hm, hmm, rfl, hel⟩
  · simp only [List.cons.injEq, and_true] at hcs
    subst hcs
    exact ⟨none, 0, 0, 0, 0, fun _ => 0, fun _ => 0, fun _ => 0, fun _ => none, fun _ => 0, fun _ => [], fun _ => 0, rfl, by omega, fun h => absurd h (by omega)⟩
  · simp only [List.cons.injEq, and_true] at hcs
    subst hcs
    unfold maxLen at hm
    have hlm : len ≤ m := by rw [hmm]; split <;> omega
    rw [cells32] at hel
    have hbk : Rows.uptoBulkAll ((List.range len).map D) ≤ 1048576 := by
      simp only [Rows.uptoBulk] at hx; omega
    have hch : ∀ i, i < len → ∃ y, ∃ cs', W.cells? base (a.add (i * 5)) 5 = some cs' ∧ Act1 W cs' 1048576 y := fun i hi => by
      obtain ⟨cs', h1, h2⟩ := hel i (by omega)
      obtain ⟨y, hy⟩ := act_open h2
      have hbi := bulk_map (D := D) hi
      refine ⟨y, cs', h1, hy.1, hy.2.1, hy.2.2.1, ?_, hy.2.2.2.2⟩
      have := hy.2.2.2.1
      simp only at this
      omega
    obtain ⟨Y, hY⟩ := choose_lt hch
    have hcell : ∀ i, i < len → ∀ j, j < 5 → W.cell? (a.add (i * 5 + j)) = [Value.int .i64 (Y i).1, .int .i64 (Y i).2.1, .int .i64 (Y i).2.2.1, .slice (Y i).2.2.2.1 (Y i).2.2.2.2.2.1.length (Y i).2.2.2.2.1, .int .u32 (Y i).2.2.2.2.2.2][j]? := fun i hi j hj => by
      obtain ⟨cs', h1, h2⟩ := hY i hi
      obtain ⟨_, _, h3⟩ := World.cells?_some h1
      have := h3 j hj
      rw [add_add, h2.1] at this
      exact this
    refine ⟨some a, len, cap, a.block, a.off, fun i => (Y i).1, fun i => (Y i).2.1, fun i => (Y i).2.2.1, fun i => (Y i).2.2.2.1, fun i => (Y i).2.2.2.2.1, fun i => (Y i).2.2.2.2.2.1, fun i => (Y i).2.2.2.2.2.2, rfl, by omega, fun h0 => ?_⟩
    have hc0 := hcell 0 h0 0 (by omega)
    simp only [Nat.zero_mul, Nat.zero_add, add_zero'] at hc0
    have hs := spot_none hc0
    have hbl := block_lt_of_cell hc0
    obtain ⟨b, o, sp⟩ := a
    simp only at hs hbl
    subst hs
    simp only [add_at] at hcell
    refine ⟨rfl, ⟨fun i hi => ?_, fun i hi => ?_, fun i hi => ?_, fun i hi => ?_, fun i hi => ?_, fun i hi => ?_, fun i hi => ?_, fun i hi => ?_, fun i hi => ?_, fun i hi => hbl⟩⟩
    · exact hcell i hi 0 (by omega)
    · exact hcell i hi 1 (by omega)
    · exact hcell i hi 2 (by omega)
    · exact hcell i hi 3 (by omega)
    · exact hcell i hi 4 (by omega)
    · obtain ⟨cs', _, h2⟩ := hY i hi; exact h2.2.1
    · obtain ⟨cs', _, h2⟩ := hY i hi; exact h2.2.2.1
    · obtain ⟨cs', _, h2⟩ := hY i hi; exact h2.2.2.2.1
    · obtain ⟨cs', _, h2⟩ := hY i hi; exact h2.2.2.2.2
end
end Go.Proofs.Ytbednmifgbbhlaa.arenaPlays
