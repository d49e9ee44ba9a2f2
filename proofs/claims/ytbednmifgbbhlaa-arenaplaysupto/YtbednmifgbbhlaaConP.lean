/- Arguments that are slices of slices of bytes, opened; append onto a row of the law's own. -/
import Derived.Test.YtbednmifgbbhlaaConL
import Derived.Deep.Slices
import Derived.OpenShut
import Derived.Laws.AppendOwnNone
namespace Go.Proofs.Ytbednmifgbbhlaa
open Go.RowKit Go.ChangeShapes Go.WideShapes Go.Deep

theorem spot_none {w : World} {a : Addr} {v : Value} (h : w.cell? a = some v) : a.spot = none := by
  obtain ⟨b, o, s⟩ := a
  cases s with
  | none => rfl
  | some q => simp [World.cell?] at h; split at h <;> simp at h
theorem add_zero' (a : Addr) : a.add 0 = a := by simp [Addr.add]

theorem Src.re {w : World} {p m p' m' n : Nat} {A : Option Addr} {q : Nat → Int} (h : Src w p m A n q) (hp : w.heap.size ≤ p') (hm : w.heap.size ≤ m') : Src w p' m' A n q := by
  intro h0
  obtain ⟨b, o, hA, _, _, hc⟩ := h h0
  have hb : b < w.heap.size := block_lt_of_cell (hc 0 h0).1
  exact ⟨b, o, hA, by omega, by omega, hc⟩
theorem Parts.re {w : World} {p m p' m' : Nat} {B : Option Addr} {ps : List (List Int)} (h : Parts w p m B ps) (hp : w.heap.size ≤ p') (hm : w.heap.size ≤ m') : Parts w p' m' B ps := by
  intro h0
  obtain ⟨b, o, hB, _, _, hc⟩ := h h0
  have hb : b < w.heap.size := by obtain ⟨A, k, h3, _⟩ := hc 0 h0; exact block_lt_of_cell h3
  refine ⟨b, o, hB, by omega, by omega, fun i hi => ?_⟩
  obtain ⟨A, k, h3, h4, h5⟩ := hc i hi
  exact ⟨A, k, h3, h4.re hp hm, h5⟩

theorem bulk_pos {H : Type} (d : DataW H) : 1 ≤ Rows.uptoBulk d := by
  cases d with
  | lit l => cases l <;> simp [Rows.uptoBulk]
  | _ => simp [Rows.uptoBulk]
theorem bulkAll_len {H : Type} (l : List (DataW H)) : l.length ≤ Rows.uptoBulkAll l := by
  induction l with
  | nil => simp
  | cons d r ih => have := bulk_pos d; simp [Rows.uptoBulkAll]; omega
theorem bulkAll_append {H : Type} (l r : List (DataW H)) : Rows.uptoBulkAll (l ++ r) = Rows.uptoBulkAll l + Rows.uptoBulkAll r := by
  induction l with
  | nil => simp [Rows.uptoBulkAll]
  | cons d t ih => simp [Rows.uptoBulkAll, ih]; omega

section
variable {H : Type} {enc : TypeId × Value → H} {W : World} {base : Nat} {spare : Nat → Bool} {held : Bool}

theorem bytes_open {fuel : Nat} {v : Value} {x : DataW H × List MemPlace} (h : DataW.trod enc Try.prog W base spare held fuel 28 [v] = some x) :
    ∃ (A : Option Addr) (k : Nat) (l : List Int), v = .slice A l.length k ∧ Src W W.heap.size W.heap.size A l.length (fun j => l.getD j 0) ∧ l.length ≤ 9223372036854775807 ∧ l.length ≤ Rows.uptoBulk x.1 := by
  rcases open_ints Try.underlying28 Try.underlying5 (by kernel_rfl) h with ⟨hcs, rfl⟩ | ⟨a, len, cap, zs, hcs, _, hl, hm, hz, rfl, hcell, hwf⟩
  · simp only [List.cons.injEq, and_true] at hcs
    subst hcs
    exact ⟨none, 0, [], rfl, fun h => absurd h (by simp), by simp, by simp⟩
  · simp only [List.cons.injEq, and_true] at hcs
    subst hcs
    unfold maxLen at hm
    have hzl : len ≤ zs.length := by rw [hz]; split <;> omega
    have hlen : (zs.take len).length = len := by simp; omega
    refine ⟨some a, cap, zs.take len, by rw [hlen], ?_, by omega, ?_⟩
    · intro h0
      rw [hlen] at h0 ⊢
      have hc0 := hcell 0 (by omega)
      rw [add_zero'] at hc0
      have hs := spot_none hc0
      obtain ⟨b, o, s⟩ := a
      simp only at hs
      subst hs
      have hb := block_lt_of_cell hc0
      refine ⟨b, o, rfl, by simp only at hb; omega, by simp only at hb; omega, fun j hj => ?_⟩
      have hj' : j < zs.length := by omega
      have := hcell j hj'
      rw [add_at] at this
      have e : (zs.take len).getD j 0 = zs.getD j 0 := by simp [List.getD_eq_getElem?_getD, List.getElem?_take_of_lt hj]
      have hw := hwf (zs.getD j 0) (by rw [List.getD_eq_getElem?_getD, List.getElem?_eq_getElem hj']; exact List.getElem_mem _)
      have hb8 := bounds_u8 hw
      simp only [e]
      exact ⟨this, by omega, by omega⟩
    · simp only [Rows.uptoBulk]
      have h1 := bulkAll_len (H := H) (lits .u8 (zs.take len))
      have h2 : (lits (H := H) .u8 (zs.take len)).length = (zs.take len).length := by simp [lits]
      omega

theorem whole_range (L : Nat → List Int) (n : Nat) : (whole ((List.range n).map L)).length = ((List.range n).map fun i => (L i).length).sum := by
  simp [whole, Function.comp_def]
theorem sum_bulk {H : Type} (L : Nat → List Int) (D : Nat → DataW H) (n : Nat) (h : ∀ i, i < n → (L i).length ≤ Rows.uptoBulk (D i)) : (whole ((List.range n).map L)).length ≤ Rows.uptoBulkAll ((List.range n).map D) := by
  induction n with
  | zero => simp [whole]
  | succ n ih =>
    have h1 := ih fun i hi => h i (by omega)
    have h2 := h n (by omega)
    rw [List.range_succ, List.map_append, List.map_append, bulkAll_append]
    have e : (whole ((List.range n).map L ++ [n].map L)).length = (whole ((List.range n).map L)).length + (L n).length := by simp [whole]
    rw [e]
    simp [Rows.uptoBulkAll]
    omega

theorem parts_open {fuel : Nat} {v : Value} {x : DataW H × List MemPlace} (h : DataW.trod enc Try.prog W base spare held fuel 29 [v] = some x) :
    ∃ (B : Option Addr) (k : Nat) (ps : List (List Int)), v = .slice B ps.length k ∧ Parts W W.heap.size W.heap.size B ps ∧ ps.length ≤ 9223372036854775807 ∧ (whole ps).length ≤ Rows.uptoBulk x.1 := by
  rcases open_slice1 (e := 28) Try.underlying29 (by kernel_rfl) h with ⟨hcs, rfl⟩ | ⟨a, len, cap, m, n, V, D, Pl, hcs, _, hl, hm, hmm, rfl, hel⟩
  · simp only [List.cons.injEq, and_true] at hcs
    subst hcs
    exact ⟨none, 0, [], rfl, fun h => absurd h (by simp), by simp, by simp [whole]⟩
  · simp only [List.cons.injEq, and_true] at hcs
    subst hcs
    unfold maxLen at hm
    have hlm : len ≤ m := by rw [hmm]; split <;> omega
    have hch : ∀ i, i < len → ∃ l : List Int, (∃ (A : Option Addr) (k : Nat), V i = .slice A l.length k ∧ Src W W.heap.size W.heap.size A l.length (fun j => l.getD j 0)) ∧ l.length ≤ 9223372036854775807 ∧ l.length ≤ Rows.uptoBulk (D i) := fun i hi => by
      obtain ⟨A, k, l, h1, h2, h3, h4⟩ := bytes_open (hel i (by omega)).2
      exact ⟨l, ⟨A, k, h1, h2⟩, h3, h4⟩
    obtain ⟨L, hL⟩ := choose_lt hch
    refine ⟨some a, cap, (List.range len).map L, by simp, ?_, by simp; omega, ?_⟩
    · intro h0
      have h0' : 0 < len := by simpa using h0
      have hc0 := (hel 0 (by omega)).1
      rw [add_zero'] at hc0
      have hs := spot_none hc0
      obtain ⟨b, o, s⟩ := a
      simp only at hs
      subst hs
      have hb := block_lt_of_cell hc0
      refine ⟨b, o, rfl, by simp only at hb; omega, by simp only at hb; omega, fun i hi => ?_⟩
      have hi' : i < len := by simpa using hi
      obtain ⟨⟨A, k, h1, h2⟩, h3, _⟩ := hL i hi'
      have hp : part ((List.range len).map L) i = L i := by simp [part, List.getD_eq_getElem?_getD, hi']
      rw [hp]
      have := (hel i (by omega)).1
      rw [add_at, h1] at this
      exact ⟨A, k, this, h2, h3⟩
    · simp only [Rows.uptoBulk]
      have := sum_bulk L D len fun i hi => (hL i hi).2.2
      omega
end

/-- what a value that owns its bytes is good for -/
theorem own_src {w : World} {base n : Nat} {v : Value} {l : List Int} (h : w.ownsRow base 5 1 v n (l.map (Value.int .u8))) (lo : ∀ z ∈ l, 0 ≤ z ∧ z ≤ 255) :
    ∃ (X : Option Addr) (cap : Nat), v = .slice X n cap ∧ n ≤ cap ∧ cap ≤ 9223372036854775807 ∧ (∀ p m, w.heap.size ≤ p → w.heap.size ≤ m → Src w p m X n (fun j => l.getD j 0)) := by
  have hl : l.length = n := by have := h.1; simpa using this
  rcases h.2 with ⟨rfl, hn⟩ | ⟨g, cap, cur, rfl, hb, hh, h1, h2, _, ht⟩
  · exact ⟨none, 0, by rw [hn], by omega, by omega, fun _ _ _ _ h0 => by omega⟩
  · unfold maxLen at h2
    refine ⟨some ⟨g, 0, none⟩, cap, rfl, h1, h2, fun p m hp hm h0 => ?_⟩
    have hg := lt_of_heap hh
    refine ⟨g, 0, rfl, by omega, by omega, fun j hj => ?_⟩
    rw [cell_of_row _ _ _ _ _ _ hh]
    have e : cur[0 + j]? = (l.map (Value.int .u8))[j]? := by rw [← ht, Nat.mul_one, List.getElem?_take_of_lt hj, Nat.zero_add, Array.getElem?_toList]
    rw [e]
    have hj' : j < l.length := by omega
    have hm' := lo (l.getD j 0) (by rw [List.getD_eq_getElem?_getD, List.getElem?_eq_getElem hj']; exact List.getElem_mem _)
    refine ⟨by simp [List.getD_eq_getElem?_getD, List.getElem?_eq_getElem hj'], hm'.1, hm'.2⟩

theorem run_append_none (w : World) (ty : TypeId) (i : TypeInfo) (hi : Try.prog.info? 5 = some i) (base : Nat) (v : Value) (n : Nat) (xs : List Value) (hown : w.ownsRow base 5 1 v n xs) (c : Nat) :
    (Builtin.append_ #[28, 28] ty #[v, .slice none 0 c]).run Try.prog w = .ok v w := by
  rcases hown.2 with ⟨rfl, rfl⟩ | ⟨g, cap, cur, rfl, _, _, hnc, _⟩
  · simp [Builtin.append_, run_underlying Try.underlying28, sizeOf, typeInfo, hi, Builtin.lenOf, Builtin.firstCells]
  · simp [Builtin.append_, run_underlying Try.underlying28, sizeOf, typeInfo, hi, Builtin.lenOf, Builtin.firstCells, hnc, storeCells]

/-- 'append(v, s...)' of bytes, v a row of the law's own, s nil or not -/
theorem wpList_append_bytes {w : World} {ops : Array Oper} {rest : List Oper} {o : Oper} {a : Act} {Q : Exit → Act → World → Prop} (hgd : o.guard = none) (s x : Operand)
    (ho : o.op = .call { callee := .builtin .append, args := #[s, x], argTypes := #[28, 28] })
    (base : Nat) (v : Value) (l : List Int) (hs : a.eval s = v) (hown : w.ownsRow base 5 1 v l.length (l.map (Value.int .u8)))
    (p m : Nat) (A : Option Addr) (c : Nat) (y : List Int) (hx : a.eval x = .slice A y.length c) (hsrc : Src w p m A y.length (fun j => y.getD j 0)) (hb : l.length + y.length ≤ 140737488355328) (hbase : base ≤ w.heap.size)
    (h : ∀ v' w', w'.ownsRow base 5 1 v' (l ++ y).length ((l ++ y).map (Value.int .u8)) → w.grownBy w' v.ownBlock → wpList Try.prog ops Q rest (a.put o.dst v') w') : wpList Try.prog ops Q (o :: rest) a w := by
  obtain ⟨i0, hi0, hz0, hz1, hz2⟩ := info_parts info5
  rcases A with _ | ad
  · have hk : y = [] := by
      rcases Nat.eq_zero_or_pos y.length with h0 | h0
      · exact List.eq_nil_of_length_eq_zero h0
      · obtain ⟨b, o, hA, _⟩ := hsrc h0; cases hA
    subst hk
    refine wpList_plain hgd fun K hK => ?_
    have hrun := run_append_none w o.type i0 hi0 base v l.length _ hown c
    unfold Oper.wp
    simp only [List.length_nil] at hx
    simp [execOp, ho, resolve, invoke, builtin, hs, hx, hrun, Result.andThen]
    exact hK _ _ (h v w (by simpa using hown) (World.grownBy.refl w _))
  · refine wpList_append_own w hgd s x 28 ho base 5 i0 (.int .u8 0) 1 1 Try.underlying28 hi0 hz0 hz1 hz2 rfl (by decide) v l.length _ hs hown ad y.length c (y.map (Value.int .u8)) hx (by simp) ?_ ?_ (by simp only [maxLen]; omega) (by omega) hbase ?_
    · intro j u hj
      have hjl : j < y.length := by have := (List.getElem?_eq_some_iff.1 hj).1; simpa using this
      obtain ⟨b, o, hA, _, _, hc⟩ := hsrc (by omega)
      injection hA with hA
      subst hA
      rw [add_at, (hc j hjl).1]
      simp only [List.getElem?_map, List.getElem?_eq_getElem hjl, Option.map_some, Option.some.injEq] at hj
      rw [← hj]
      simp [List.getD_eq_getElem?_getD, List.getElem?_eq_getElem hjl]
    · intro u hu; simp at hu; obtain ⟨j, _, rfl⟩ := hu; rfl
    · intro v' w' h1 h2 _
      exact h v' w' (by simpa using h1) h2
end Go.Proofs.Ytbednmifgbbhlaa
