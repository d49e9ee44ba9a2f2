/- Memory of package heap: rows of entries, timers behind a pointer, 'only two blocks have turned', and how each is kept. -/
import Derived.Test.YtpnhpgdidineaaaAbs
import Derived.Below
import Derived.Laws.Rows
import Derived.Laws.Slices
import Derived.Laws.CopyOwn
import Derived.Laws.OwnMore
import Derived.Laws.AppendOwnNone
import Derived.Deep.Draws
import Derived.Deep.RegionLaw
namespace Go.Proofs.Ytpnhpgdidineaaa
open Go.RowKit

/-- Only blocks p and m may have turned, and new ones may have come. -/
structure Only (p m : Nat) (w w' : World) : Prop where
  os : w'.os = w.os
  tape : w'.tape = w.tape
  output : w'.output = w.output
  size : w.heap.size ≤ w'.heap.size
  block : ∀ k, k < w.heap.size → k ≠ p → k ≠ m → w'.heap[k]? = w.heap[k]?

theorem Only.refl (p m : Nat) (w : World) : Only p m w w := ⟨rfl, rfl, rfl, Nat.le_refl _, fun _ _ _ _ => rfl⟩
theorem Only.trans {p m : Nat} {a b c : World} (h : Only p m a b) (k : Only p m b c) : Only p m a c :=
  ⟨k.os.trans h.os, k.tape.trans h.tape, k.output.trans h.output, Nat.le_trans h.size k.size,
   fun i hi h1 h2 => (k.block i (Nat.lt_of_lt_of_le hi h.size) h1 h2).trans (h.block i hi h1 h2)⟩
theorem Only.alloc {p m : Nat} {a w : World} (h : Only p m a w) (o : Obj) : Only p m a (w.alloc o) :=
  h.trans ⟨rfl, rfl, rfl, by simp, fun k hk _ _ => Below.heap_alloc _ _ _ hk⟩
theorem Only.drew {p m : Nat} {a w : World} (h : Only p m a w) : Only p m a w.drew := ⟨h.os, h.tape, h.output, h.size, h.block⟩
theorem Only.drewN {p m : Nat} {a w : World} (h : Only p m a w) (n : Nat) : Only p m a (w.drewN n) := ⟨h.os, h.tape, h.output, h.size, h.block⟩
theorem Only.setCell {p m : Nat} {a w : World} (h : Only p m a w) {q : Addr} (hq : q.block = p ∨ q.block = m ∨ a.heap.size ≤ q.block) (u : Value) : Only p m a (w.setCell q u) :=
  ⟨h.os, h.tape, h.output, by simpa [World.setCell] using h.size, fun k hk h1 h2 => (Below.heap_setCell _ _ _ _ (by omega)).trans (h.block k hk h1 h2)⟩
theorem Only.cell {p m : Nat} {w w' : World} (h : Only p m w w') {q : Addr} (hq : q.block < w.heap.size) (h1 : q.block ≠ p) (h2 : q.block ≠ m) : w'.cell? q = w.cell? q :=
  World.cell?_of_block (w := w) (h.block q.block hq h1 h2)
theorem Only.below {p m B : Nat} {w w' : World} (h : Only p m w w') (h0 : B ≤ w.heap.size) (h1 : B ≤ p) (h2 : B ≤ m) : Below B w w' :=
  ⟨h.os, h.tape, h.output, h.size, fun k hk => h.block k (by omega) (by omega) (by omega)⟩
theorem Only.of_below {p m : Nat} {w w' : World} (h : Below w.heap.size w w') : Only p m w w' :=
  ⟨h.os, h.tape, h.output, h.size, fun k hk _ _ => h.block k hk⟩
theorem Only.of_new {p m q r : Nat} {a w w' : World} (h : Only p m a w) (k : Only q r w w') (hq : a.heap.size ≤ q ∨ q = p ∨ q = m) (hr : a.heap.size ≤ r ∨ r = p ∨ r = m) : Only p m a w' :=
  ⟨k.os.trans h.os, k.tape.trans h.tape, k.output.trans h.output, Nat.le_trans h.size k.size,
   fun i hi h1 h2 => (k.block i (Nat.lt_of_lt_of_le hi h.size) (by omega) (by omega)).trans (h.block i hi h1 h2)⟩
theorem below_trans {a b c : World} (h : Below a.heap.size a b) (k : Below b.heap.size b c) : Below a.heap.size a c :=
  h.trans ⟨k.os, k.tape, k.output, k.size, fun i hi => k.block i (Nat.lt_of_lt_of_le hi h.size)⟩
theorem below_drewN (w : World) (n : Nat) : Below w.heap.size w (w.drewN n) := ⟨rfl, rfl, rfl, Nat.le_refl _, fun _ _ => rfl⟩

theorem lt_of_heap {w : World} {g : Nat} {o : Obj} (h : w.heap[g]? = some o) : g < w.heap.size := (Array.getElem?_eq_some_iff.1 h).1
theorem addr_add (b o j : Nat) : (⟨b, o, none⟩ : Addr).add j = ⟨b, o + j, none⟩ := by cases j <;> simp [Addr.add]

/-- rows as cells -/
def vals {α : Type} (c : α → List Value) (L : List α) : List Value := L.flatMap c
theorem vals_append {α : Type} (c : α → List Value) (L M : List α) : vals c (L ++ M) = vals c L ++ vals c M := by unfold vals; rw [List.flatMap_append]
theorem vals_len {α : Type} {c : α → List Value} {z : Nat} (hz : ∀ x, (c x).length = z) : ∀ L : List α, (vals c L).length = L.length * z
  | [] => by simp [vals]
  | x :: L => by
    have := vals_len hz L
    unfold vals at this ⊢
    rw [List.flatMap_cons, List.length_append, this, hz, List.length_cons, Nat.add_mul, Nat.one_mul, Nat.add_comm]
theorem vals_get {α : Type} {c : α → List Value} {z : Nat} (hz : ∀ x, (c x).length = z) : ∀ (L : List α) (j r : Nat) (x : α), r < z → L[j]? = some x → (vals c L)[j * z + r]? = (c x)[r]?
  | [], j, r, x, _, h => by simp at h
  | y :: L, 0, r, x, hr, h => by
    simp at h; subst h
    unfold vals
    rw [List.flatMap_cons, Nat.zero_mul, Nat.zero_add, List.getElem?_append_left (by rw [hz]; exact hr)]
  | y :: L, j + 1, r, x, hr, h => by
    have := vals_get hz L j r x hr (by simpa using h)
    unfold vals at this ⊢
    rw [List.flatMap_cons, List.getElem?_append_right (by rw [hz, Nat.add_mul, Nat.one_mul]; omega), ← this, hz]
    congr 1
    rw [Nat.add_mul, Nat.one_mul]; omega

/-- an entry of the program; one of the document; a number -/
def cp (x : En) : List Value := [.int .u64 x.1, .int .i64 x.2.1, .int .i64 x.2.2]
def cr (x : En) : List Value := [.int .i64 x.2.1, .int .u64 x.1, .int .i64 x.2.2]
def ci (x : Int) : List Value := [.int .i64 x]
theorem cp_len (x : En) : (cp x).length = 3 := rfl
theorem cr_len (x : En) : (cr x).length = 3 := rfl
theorem ci_len (x : Int) : (ci x).length = 1 := rfl

/-- a source of append: nil, or cells that are read -/
def Sr {α : Type} (c : α → List Value) (w : World) (X : Option Addr) (k : Nat) (L : List α) : Prop :=
  (X = none ∧ L = [] ∧ k = 0) ∨ ∃ b o : Nat, X = some ⟨b, o, none⟩ ∧ b < w.heap.size ∧ ∀ j u, (vals c L)[j]? = some u → w.cell? ⟨b, o + j, none⟩ = some u
theorem Sr.below {α : Type} {c : α → List Value} {w w' : World} {X : Option Addr} {k : Nat} {L : List α} (h : Sr c w X k L) (hb : Below w.heap.size w w') : Sr c w' X k L := by
  rcases h with h | ⟨b, o, h1, h2, h3⟩
  · exact .inl h
  · exact .inr ⟨b, o, h1, Nat.lt_of_lt_of_le h2 hb.size, fun j x hx => by rw [hb.cell (p := ⟨b, o + j, none⟩) h2]; exact h3 j x hx⟩
theorem grownBy_refl (w : World) (row : Option Nat) : w.grownBy w row := ⟨rfl, rfl, rfl, Nat.le_refl _, fun _ _ _ => rfl⟩
theorem own_form {w : World} {B n z : Nat} {e : TypeId} {v : Value} {xs : List Value} (h : w.ownsRow B e z v n xs) : ∃ X k, v = .slice X n k ∧ n ≤ k ∧ k ≤ 9223372036854775807 := by
  rcases h.2 with ⟨rfl, rfl⟩ | ⟨g, cap, cur, rfl, _, _, h1, h2, _⟩
  · exact ⟨none, 0, rfl, Nat.le_refl _, by omega⟩
  · exact ⟨_, cap, rfl, h1, by simp [maxLen] at h2; omega⟩

/-- what the append law is told of a type of slices -/
structure Kd (α : Type) (c : α → List Value) (ts te : TypeId) (z : Nat) : Prop where
  und : Try.prog.underlying ts = some (.slice te)
  info : ∃ (i : TypeInfo) (zr : Value) (b : Nat), Try.prog.info? te = some i ∧ i.zero = some zr ∧ i.size = z ∧ i.bytes = b ∧ zr.cells.size = z ∧ b ≤ 32
  len : ∀ x, (c x).length = z
  one : ∀ x u, u ∈ c x → u.oneCell' = true
theorem info66 : (Try.prog.info? 80).map (fun i => (i.zero, i.size, i.bytes)) = some (some (.agg #[.int .u64 0, .int .i64 0, .int .i64 0]), 3, 24) := by kernel_rfl
theorem info68 : (Try.prog.info? 89).map (fun i => (i.zero, i.size, i.bytes)) = some (some (.agg #[.int .i64 0, .int .u64 0, .int .i64 0]), 3, 24) := by kernel_rfl
theorem info3 : (Try.prog.info? 3).map (fun i => (i.zero, i.size, i.bytes)) = some (some (.int .i64 0), 1, 8) := by kernel_rfl
theorem kp : Kd En cp 75 80 3 := by
  obtain ⟨i, h1, h2, h3, h4⟩ := info_parts info66
  exact ⟨Try.underlying75, ⟨i, _, _, h1, h2, h3, h4, rfl, by omega⟩, cp_len, fun x u hu => by simp [cp] at hu; rcases hu with rfl | rfl | rfl <;> rfl⟩
theorem kr : Kd En cr 62 89 3 := by
  obtain ⟨i, h1, h2, h3, h4⟩ := info_parts info68
  exact ⟨Try.underlying62, ⟨i, _, _, h1, h2, h3, h4, rfl, by omega⟩, cr_len, fun x u hu => by simp [cr] at hu; rcases hu with rfl | rfl | rfl <;> rfl⟩
theorem ki : Kd Int ci 40 3 1 := by
  obtain ⟨i, h1, h2, h3, h4⟩ := info_parts info3
  exact ⟨Try.underlying40, ⟨i, _, _, h1, h2, h3, h4, rfl, by omega⟩, ci_len, fun x u hu => by simp [ci] at hu; subst hu; rfl⟩

theorem wp_append_row {α : Type} {cc : α → List Value} {ts te : TypeId} {z : Nat} (kd : Kd α cc ts te z) (hz0 : 0 < z) {w : World} {o : Oper} {a : Act} {K : Act → World → Prop} {Q : Exit → Act → World → Prop} (s x : Operand)
    (ho : o.op = .call { callee := .builtin .append, args := #[s, x], argTypes := #[ts, ts] })
    (base : Nat) (v : Value) (L1 L2 : List α) (n1 : Nat) (hn1 : L1.length = n1) (hs : a.eval s = v) (hown : w.ownsRow base te z v n1 (vals cc L1)) (X : Option Addr) (n k : Nat) (hx : a.eval x = .slice X n k) (hn : L2.length = n)
    (hsrc : Sr cc w X k L2) (h63 : n1 + n ≤ 100000) (hbase : base ≤ w.heap.size) (c : Nat) (hcc : n1 + n = c)
    (h : ∀ X' k' w', w'.ownsRow base te z (.slice X' c k') c (vals cc (L1 ++ L2)) → w.grownBy w' v.ownBlock → K (a.put o.dst (.slice X' c k')) w') : o.wp Try.prog a w K Q := by
  obtain ⟨i0, zr, b0, hi, hzr, hz1, hz2, hzs, hb0⟩ := kd.info
  subst hn hn1 hcc
  rcases hsrc with ⟨rfl, rfl, rfl⟩ | ⟨b, off, rfl, _, hc⟩
  · have hrun := run_append_owned_none (P := Try.prog) (w := w) base ts o.type te i0 z kd.und hi v L1.length (vals cc L1) hown
    obtain ⟨X', k', rfl, _⟩ := own_form hown
    unfold Oper.wp
    simp only [List.length_nil] at hx
    simp [execOp, ho, resolve, invoke, builtin, hs, hx, hrun, Result.andThen]
    exact h X' k' w (by simpa using hown) (grownBy_refl _ _)
  · have hb1 : (L1.length + L2.length) * b0 ≤ 140737488355328 := by
      have : (L1.length + L2.length) * b0 ≤ 100000 * 32 := Nat.mul_le_mul h63 hb0
      omega
    refine wp_append_own _ s x ts ho base te i0 zr z b0 kd.und hi hzr hz1 hz2 hzs hz0 v L1.length (vals cc L1) hs hown ⟨b, off, none⟩ L2.length k (vals cc L2) hx (vals_len kd.len L2) ?_ ?_ (by unfold maxLen; omega) hb1 hbase ?_
    · intro j u hu
      rw [addr_add]
      exact hc j u hu
    · intro u hu
      obtain ⟨y, _, hy⟩ := List.mem_flatMap.1 hu
      exact kd.one y u hy
    · intro v' w' h1 h2 _
      have h3 : w'.ownsRow base te z v' (L1.length + L2.length) (vals cc (L1 ++ L2)) := by rw [vals_append]; exact h1
      obtain ⟨X', k', rfl, _⟩ := own_form h3
      exact h X' k' w' h3 h2

theorem wpList_append_row {α : Type} {cc : α → List Value} {ts te : TypeId} {z : Nat} (kd : Kd α cc ts te z) (hz0 : 0 < z) {w : World} {ops : Array Oper} {rest : List Oper} {o : Oper} {a : Act} {Q : Exit → Act → World → Prop} (hgd : o.guard = none) (s x : Operand)
    (ho : o.op = .call { callee := .builtin .append, args := #[s, x], argTypes := #[ts, ts] })
    (base : Nat) (v : Value) (L1 L2 : List α) (n1 : Nat) (hn1 : L1.length = n1) (hs : a.eval s = v) (hown : w.ownsRow base te z v n1 (vals cc L1)) (X : Option Addr) (n k : Nat) (hx : a.eval x = .slice X n k) (hn : L2.length = n)
    (hsrc : Sr cc w X k L2) (h63 : n1 + n ≤ 100000) (hbase : base ≤ w.heap.size) (c : Nat) (hcc : n1 + n = c)
    (h : ∀ X' k' w', w'.ownsRow base te z (.slice X' c k') c (vals cc (L1 ++ L2)) → w.grownBy w' v.ownBlock → wpList Try.prog ops Q rest (a.put o.dst (.slice X' c k')) w') : wpList Try.prog ops Q (o :: rest) a w :=
  wpList_plain hgd fun _ hK => wp_append_row kd hz0 s x ho base v L1 L2 n1 hn1 hs hown X n k hx hn hsrc h63 hbase c hcc fun X' k' w' h1 h2 => hK _ _ (h X' k' w' h1 h2)

theorem step_append_row {α : Type} {cc : α → List Value} {ts te : TypeId} {z : Nat} (kd : Kd α cc ts te z) (hz0 : 0 < z) {w : World} {ops : Array Oper} {o : Oper} {a : Act} {K : Act → World → Prop} {Q : Exit → Act → World → Prop} {E : Prop} (hgd : o.guard = none) (s x : Operand)
    (ho : o.op = .call { callee := .builtin .append, args := #[s, x], argTypes := #[ts, ts] })
    (base : Nat) (v : Value) (L1 L2 : List α) (n1 : Nat) (hn1 : L1.length = n1) (hs : a.eval s = v) (hown : w.ownsRow base te z v n1 (vals cc L1)) (X : Option Addr) (n k : Nat) (hx : a.eval x = .slice X n k) (hn : L2.length = n)
    (hsrc : Sr cc w X k L2) (h63 : n1 + n ≤ 100000) (hbase : base ≤ w.heap.size) (c : Nat) (hcc : n1 + n = c)
    (h : ∀ X' k' w', w'.ownsRow base te z (.slice X' c k') c (vals cc (L1 ++ L2)) → w.grownBy w' v.ownBlock → K (a.put o.dst (.slice X' c k')) w') :
    if Region.wanted o (yielded ops a.tmps) = true then Oper.wp Try.prog o a w K Q else E := by
  have hw : Region.wanted o (yielded ops a.tmps) = true := by simp [Region.wanted, hgd]
  rw [if_pos hw]
  exact wp_append_row kd hz0 s x ho base v L1 L2 n1 hn1 hs hown X n k hx hn hsrc h63 hbase c hcc h

/-- one entry, or one number, as a source -/
theorem sr_one {α : Type} (c : α → List Value) (w : World) (e : TypeId) (x : α) : Sr c (w.alloc (.cells (c x).toArray e)) (some ⟨w.heap.size, 0, none⟩) 1 [x] := by
  refine .inr ⟨w.heap.size, 0, rfl, by simp, fun j y hy => ?_⟩
  rw [cell_of_row _ w.heap.size _ _ e (0, 0) (heap_alloc_new w _), Nat.zero_add]
  simpa [vals] using hy
/-- a row of one's own as a source -/
theorem own_src {α : Type} {c : α → List Value} {w : World} {B n k z : Nat} {e : TypeId} {X : Option Addr} {L : List α} (hn : L.length = n) (h : w.ownsRow B e z (.slice X n k) n (vals c L)) : Sr c w X k L := by
  subst hn
  rcases h.2 with ⟨h1, h2⟩ | ⟨g, cap, cur, h1, _, hh, _, _, _, ht⟩
  · injection h1 with e1 _ e2; exact .inl ⟨e1, List.eq_nil_of_length_eq_zero h2, e2⟩
  · injection h1 with e1 _ e2
    subst e1
    refine .inr ⟨g, 0, rfl, lt_of_heap hh, fun j u hu => ?_⟩
    rw [cell_of_row w g _ cur e (0, 0) hh, Nat.zero_add]
    rw [← ht, List.getElem?_take] at hu
    split at hu
    · simpa using hu
    · cases hu
theorem own_keep {w w' : World} {B n z : Nat} {e : TypeId} {v : Value} {xs : List Value} (h : w.ownsRow B e z v n xs) (hk : ∀ (g : Nat) (cs : Array Value), w.heap[g]? = some (.cells cs e (0, 0)) → v.ownBlock = some g → w'.heap[g]? = w.heap[g]?) : w'.ownsRow B e z v n xs := by
  refine ⟨h.1, ?_⟩
  rcases h.2 with h2 | ⟨g, cap, cur, rfl, h1, hh, r⟩
  · exact .inl h2
  · exact .inr ⟨g, cap, cur, rfl, h1, (hk g cur hh rfl).trans hh, r⟩
theorem own_below {w w' : World} {B n z : Nat} {e : TypeId} {v : Value} {xs : List Value} (h : w.ownsRow B e z v n xs) (k : Below w.heap.size w w') : w'.ownsRow B e z v n xs :=
  own_keep h fun g _ hg _ => k.block g (lt_of_heap hg)
theorem own_base {w : World} {B B' n z : Nat} {e : TypeId} {v : Value} {xs : List Value} (h : w.ownsRow B e z v n xs) (hb : B' ≤ B) : w.ownsRow B' e z v n xs := by
  refine ⟨h.1, ?_⟩
  rcases h.2 with h2 | ⟨g, cap, cur, rfl, h1, r⟩
  · exact .inl h2
  · exact .inr ⟨g, cap, cur, rfl, Nat.le_trans hb h1, r⟩

/-- a row of entries in block g, room for k -/
def Rw (w : World) (g k : Nat) (H : List En) : Prop :=
  ∃ cs : Array Value, w.heap[g]? = some (.cells cs 80 (0, 0)) ∧ cs.size = k * 3 ∧ H.length ≤ k ∧ k ≤ maxLen ∧ ∀ (j : Nat) (x : En), H[j]? = some x → cs[j * 3]? = some (.int .u64 x.1) ∧ cs[j * 3 + 1]? = some (.int .i64 x.2.1) ∧ cs[j * 3 + 2]? = some (.int .i64 x.2.2)
theorem Rw.lt {w : World} {g k : Nat} {H : List En} (h : Rw w g k H) : g < w.heap.size := by obtain ⟨cs, h, _⟩ := h; exact lt_of_heap h
theorem Rw.keep {w w' : World} {g k : Nat} {H : List En} (h : Rw w g k H) (e : w'.heap[g]? = w.heap[g]?) : Rw w' g k H := by obtain ⟨cs, h, r⟩ := h; exact ⟨cs, e.trans h, r⟩
theorem Rw.below {w w' : World} {g k : Nat} {H : List En} (h : Rw w g k H) (b : Below w.heap.size w w') : Rw w' g k H := h.keep (b.block g h.lt)
theorem Rw.alloc {w : World} {g k : Nat} {H : List En} (h : Rw w g k H) (o : Obj) : Rw (w.alloc o) g k H := h.keep (Below.heap_alloc w o g h.lt)
theorem Rw.drew {w : World} {g k : Nat} {H : List En} (h : Rw w g k H) : Rw w.drew g k H := h
theorem Rw.drewN {w : World} {g k : Nat} {H : List En} (h : Rw w g k H) (n : Nat) : Rw (w.drewN n) g k H := h
theorem Rw.cells {w : World} {g k : Nat} {H : List En} (h : Rw w g k H) {i : Nat} (hi : i < H.length) : w.cell? ⟨g, i * 3, none⟩ = some (.int .u64 (ix H i).1) ∧ w.cell? ⟨g, i * 3 + 1, none⟩ = some (.int .i64 (ix H i).2.1) ∧ w.cell? ⟨g, i * 3 + 2, none⟩ = some (.int .i64 (ix H i).2.2) := by
  obtain ⟨cs, h, _, _, _, hc⟩ := h
  rw [cell_of_row w g _ cs 80 (0, 0) h, cell_of_row w g _ cs 80 (0, 0) h, cell_of_row w g _ cs 80 (0, 0) h]
  exact hc i _ (get_ix hi)
theorem Rw.frozen {w : World} {g k : Nat} {H : List En} (h : Rw w g k H) (i : Nat) : w.frozen? ⟨g, i, none⟩ = false := by
  obtain ⟨cs, h, _⟩ := h; exact frozen_of_row w g i cs 80 h
theorem Rw.take {w : World} {g k : Nat} {H : List En} (h : Rw w g k H) (m : Nat) : Rw w g k (H.take m) := by
  obtain ⟨cs, h, h1, h2, h3, h4⟩ := h
  refine ⟨cs, h, h1, by rw [List.length_take]; omega, h3, fun j x hx => ?_⟩
  rw [List.getElem?_take] at hx
  split at hx
  · exact h4 j x hx
  · cases hx
/-- an entry is stored -/
def put3 (w : World) (g i : Nat) (x : En) : World := ((w.setCell ⟨g, i * 3, none⟩ (.int .u64 x.1)).setCell ⟨g, i * 3 + 1, none⟩ (.int .i64 x.2.1)).setCell ⟨g, i * 3 + 2, none⟩ (.int .i64 x.2.2)
theorem Rw.put {w : World} {g k : Nat} {H : List En} (h : Rw w g k H) {i : Nat} (hi : i < k) (x : En) : Rw (put3 w g i x) g k (H.set i x) := by
  obtain ⟨cs, h, h1, h2, h3, h4⟩ := h
  have a1 := heap_setCell_same w g (i * 3) cs 80 (.int .u64 x.1) h
  have a2 := heap_setCell_same _ g (i * 3 + 1) _ 80 (.int .i64 x.2.1) a1
  have a3 := heap_setCell_same _ g (i * 3 + 2) _ 80 (.int .i64 x.2.2) a2
  refine ⟨_, a3, by simpa using h1, by simpa using h2, h3, fun j y hy => ?_⟩
  rw [List.getElem?_set] at hy
  by_cases c : i = j
  · subst c
    rw [if_pos rfl] at hy
    split at hy
    · injection hy with hy; subst hy
      have s0 : i * 3 < cs.size := by omega
      have s1 : i * 3 + 1 < cs.size := by omega
      have s2 : i * 3 + 2 < cs.size := by omega
      refine ⟨?_, ?_, ?_⟩
      · simp [s0]
      · simp [s1]
      · simp [s2]
    · cases hy
  · rw [if_neg c] at hy
    obtain ⟨b0, b1, b2⟩ := h4 j y hy
    have n00 : ¬ i * 3 = j * 3 := by omega
    have n01 : ¬ i * 3 = j * 3 + 1 := by omega
    have n02 : ¬ i * 3 = j * 3 + 2 := by omega
    have n10 : ¬ i * 3 + 1 = j * 3 := by omega
    have m12 : ¬ i * 3 = j * 3 + 1 := by omega
    have n20 : ¬ i * 3 + 2 = j * 3 := by omega
    have n21 : ¬ i * 3 + 2 = j * 3 + 1 := by omega
    refine ⟨?_, ?_, ?_⟩
    · simp [n00, n10, n20, b0]
    · simp [n00, n01, n21, b1]
    · simp [n00, n02, m12, b2]
theorem put3_only (w : World) (g i : Nat) (x : En) : Only g g w (put3 w g i x) := by
  unfold put3
  exact (((Only.refl g g w).setCell (.inl rfl) _).setCell (.inl rfl) _).setCell (.inl rfl) _

theorem Rw.own {w : World} {g k n B : Nat} {H : List En} (h : Rw w g k H) (hn : H.length = n) (hB : B ≤ g) : w.ownsRow B 80 3 (.slice (some ⟨g, 0, none⟩) n k) n (vals cp H) := by
  subst hn
  obtain ⟨cs, h, h1, h2, h3, h4⟩ := h
  refine ⟨vals_len cp_len H, .inr ⟨g, k, cs, rfl, hB, h, h2, h3, h1, ?_⟩⟩
  apply List.ext_getElem?
  intro i
  by_cases c : i < H.length * 3
  · rw [List.getElem?_take, if_pos c, Array.getElem?_toList]
    have hj : i / 3 < H.length := by omega
    have e := get_ix hj
    obtain ⟨b0, b1, b2⟩ := h4 _ _ e
    have hv : i = i / 3 * 3 + i % 3 := by omega
    have hm : i % 3 < 3 := Nat.mod_lt _ (by omega)
    have hg := vals_get cp_len H (i / 3) (i % 3) _ hm e
    rw [← hv] at hg
    rw [hg]
    have h3' : i % 3 = 0 ∨ i % 3 = 1 ∨ i % 3 = 2 := by omega
    rcases h3' with e0 | e0 | e0
    · rw [e0]; rw [e0, Nat.add_zero] at hv; conv => lhs; rw [hv]
      exact b0
    · rw [e0]; rw [e0] at hv; conv => lhs; rw [hv]
      exact b1
    · rw [e0]; rw [e0] at hv; conv => lhs; rw [hv]
      exact b2
  · rw [List.getElem?_eq_none (by rw [List.length_take]; omega), List.getElem?_eq_none (by rw [vals_len cp_len]; omega)]
theorem own_rw {w : World} {B n k g : Nat} {H : List En} (hn : H.length = n) (h : w.ownsRow B 80 3 (.slice (some ⟨g, 0, none⟩) n k) n (vals cp H)) : Rw w g k H ∧ B ≤ g := by
  subst hn
  rcases h.2 with ⟨h1, _⟩ | ⟨g', cap, cur, h1, hB, hh, hc1, hc2, hc3, ht⟩
  · injection h1 with h1; cases h1
  · injection h1 with e1 _ e2
    injection e1 with e1; injection e1 with e1
    subst e1 e2
    refine ⟨⟨cur, hh, hc3, hc1, hc2, fun j x hx => ?_⟩, hB⟩
    have hj := (List.getElem?_eq_some_iff.1 hx).1
    have key : ∀ i, i < H.length * 3 → cur[i]? = (vals cp H)[i]? := fun i hi => by rw [← ht, List.getElem?_take, if_pos hi, Array.getElem?_toList]
    have h0 := vals_get cp_len H j 0 x (by omega) hx
    have h1 := vals_get cp_len H j 1 x (by omega) hx
    have h2 := vals_get cp_len H j 2 x (by omega) hx
    rw [Nat.add_zero] at h0
    rw [key _ (by omega), key _ (by omega), key _ (by omega), h0, h1, h2]
    exact ⟨rfl, rfl, rfl⟩

/-- timers in block p, their entries (a heap, the same as the sorted row S) in block g; both from B on -/
structure Tm (w : World) (B p g : Nat) (S : List En) (last : Int) : Prop where
  hp : B ≤ p
  hg : B ≤ g
  row : ∃ (H : List En) (v : Value), H.Perm S ∧ Hp H ∧ w.heap[p]? = some (.cells #[v, .int .i64 last] 77 (0, 0)) ∧ w.ownsRow B 80 3 v H.length (vals cp H) ∧ (v.ownBlock = some g ∨ v.ownBlock = none ∧ g = p)
  good : Good S last

theorem Tm.ltp {w : World} {B p g : Nat} {S : List En} {last : Int} (h : Tm w B p g S last) : p < w.heap.size := by obtain ⟨H, v, _, _, h1, _⟩ := h.row; exact lt_of_heap h1
theorem Tm.ltg {w : World} {B p g : Nat} {S : List En} {last : Int} (h : Tm w B p g S last) : g < w.heap.size := by
  obtain ⟨H, v, _, _, h1, h2, h3⟩ := h.row
  rcases h3 with h3 | ⟨_, rfl⟩
  · exact (h2.lt g h3).2
  · exact lt_of_heap h1
theorem Tm.keep {w w' : World} {B p g : Nat} {S : List En} {last : Int} (h : Tm w B p g S last) (k1 : w'.heap[p]? = w.heap[p]?) (k2 : w'.heap[g]? = w.heap[g]?) : Tm w' B p g S last := by
  obtain ⟨hp, hg, ⟨H, v, a1, a2, a3, a4, a5⟩, hG⟩ := h
  refine ⟨hp, hg, ⟨H, v, a1, a2, k1.trans a3, own_keep a4 fun b cs hb hv => ?_, a5⟩, hG⟩
  rcases a5 with a5 | ⟨a5, _⟩
  · rw [a5] at hv; injection hv with hv; subst hv; exact k2
  · rw [a5] at hv; cases hv
theorem Tm.below {w w' : World} {B p g : Nat} {S : List En} {last : Int} (h : Tm w B p g S last) (k : Below w.heap.size w w') : Tm w' B p g S last := h.keep (k.block p h.ltp) (k.block g h.ltg)
theorem Tm.only {w w' : World} {B p g q r : Nat} {S : List En} {last : Int} (h : Tm w B p g S last) (k : Only q r w w') (h1 : p ≠ q) (h2 : p ≠ r) (h3 : g ≠ q) (h4 : g ≠ r) : Tm w' B p g S last := h.keep (k.block p h.ltp h1 h2) (k.block g h.ltg h3 h4)
theorem Tm.drewN {w : World} {B p g : Nat} {S : List En} {last : Int} (h : Tm w B p g S last) (n : Nat) : Tm (w.drewN n) B p g S last := h.keep rfl rfl
theorem Tm.drew {w : World} {B p g : Nat} {S : List En} {last : Int} (h : Tm w B p g S last) : Tm w.drew B p g S last := h.keep rfl rfl
theorem Tm.base {w : World} {B B' p g : Nat} {S : List En} {last : Int} (h : Tm w B p g S last) (hb : B' ≤ B) : Tm w B' p g S last := by
  obtain ⟨hp, hg, ⟨H, v, a1, a2, a3, a4, a5⟩, hG⟩ := h
  exact ⟨Nat.le_trans hb hp, Nat.le_trans hb hg, ⟨H, v, a1, a2, a3, own_base a4 hb, a5⟩, hG⟩
theorem Tm.le {w : World} {B p g : Nat} {S : List En} {last : Int} (h : Tm w B p g S last) : B ≤ w.heap.size := by have := h.ltp; have := h.hp; omega
theorem Tm.bel {w w' : World} {B p g : Nat} {S : List En} {last : Int} (h : Tm w B p g S last) (k : Only p g w w') : Below B w w' := k.below h.le h.hp h.hg
end Go.Proofs.Ytpnhpgdidineaaa
