/- The document's own queues (detentref4): their memory, appending items; At, Good. -/
import Derived.Test.YtneimdjgbblaoaaConD
import Derived.Laws.AppendOwnNone
import Derived.Deep.RegionLaw
namespace Go.Proofs.Ytneimdjgbblaoaa
open Go.RowKit
set_option maxRecDepth 100000

/-- the document's queue in block q -/
def Rq (w : World) (q : Nat) (b : Bool) (L : List It) : Prop :=
  ∃ (X : Option Addr) (k : Nat), w.heap[q]? = some (.cells #[.bool b, .slice X L.length k] 93 (0, 0)) ∧ Sl w 100 (.slice X L.length k) L ∧ L.length ≤ k ∧ k ≤ 9223372036854775807

theorem Rq.lt {w : World} {q : Nat} {b : Bool} {L : List It} (h : Rq w q b L) : q < w.heap.size := by obtain ⟨X, k, h, _⟩ := h; exact lt_of_heap h
theorem Rq.below {w w' : World} {q : Nat} {b : Bool} {L : List It} (h : Rq w q b L) (k : Below w.heap.size w w') : Rq w' q b L := by
  obtain ⟨X, c, h1, h2, h3⟩ := h
  exact ⟨X, c, (k.block q (lt_of_heap h1)).trans h1, h2.below k, h3⟩
theorem Rq.type {w : World} {q : Nat} {b : Bool} {L : List It} (h : Rq w q b L) {e : TypeId} (he : e ≠ 93) : ∀ cs fr, w.heap[q]? ≠ some (.cells cs e fr) := by
  obtain ⟨X, c, h1, _⟩ := h
  intro cs2 fr h2
  rw [h1] at h2; injection h2 with h2; injection h2 with _ h3; exact he h3.symm
theorem Rq.drewN {w : World} {q : Nat} {b : Bool} {L : List It} (h : Rq w q b L) (n : Nat) : Rq (w.drewN n) q b L := h
theorem Rq.open {w : World} {q : Nat} {b : Bool} {L : List It} (h : Rq w q b L) : ∃ (X : Option Addr) (k : Nat), w.cell? ⟨q, 0, none⟩ = some (.bool b) ∧ w.cell? ⟨q, 1, none⟩ = some (.slice X L.length k) ∧ Sl w 100 (.slice X L.length k) L ∧ L.length ≤ k ∧ k ≤ 9223372036854775807 ∧ w.frozen? ⟨q, 1, none⟩ = false := by
  obtain ⟨X, c, h1, h2, h3, h4⟩ := h
  exact ⟨X, c, by rw [cell_of_row w q 0 _ 93 (0, 0) h1]; rfl, by rw [cell_of_row w q 1 _ 93 (0, 0) h1]; rfl, h2, h3, h4, frozen_of_row w q 1 _ 93 h1⟩
/-- another slice is laid into it -/
theorem Rq.set {w : World} {q : Nat} {b : Bool} {L L' : List It} (h : Rq w q b L) (X : Option Addr) (n k : Nat) (hn : L'.length = n) (hs : Sl w 100 (.slice X n k) L') (h1 : n ≤ k) (h2 : k ≤ 9223372036854775807) : Rq (w.setCell ⟨q, 1, none⟩ (.slice X n k)) q b L' := by
  subst hn
  have ht := h.type (e := 100) (by decide)
  obtain ⟨X0, c, h3, _⟩ := h
  exact ⟨X, k, heap_setCell_same w q 1 _ 93 _ h3, hs.keep fun g cs hg => Below.heap_setCell w ⟨q, 1, none⟩ _ g (by rintro rfl; exact ht _ _ hg), h1, h2⟩
theorem sl_open {w : World} {e : TypeId} {X : Option Addr} {m k : Nat} {L : List It} (h : Sl w e (.slice X m k) L) (h0 : 0 < L.length) : ∃ g o : Nat, X = some ⟨g, o, none⟩ ∧ ∀ (j : Nat) (x : It), L[j]? = some x → w.cell? ⟨g, o + j * 2, none⟩ = some (.int .i64 x.1) ∧ w.cell? ⟨g, o + j * 2 + 1, none⟩ = some (.int .i64 x.2) := by
  rcases h with ⟨_, h⟩ | ⟨g, o, k, cs, h1, h2, h3, h4, h5⟩
  · subst h; simp at h0
  · injection h1 with h1
    exact ⟨g, o, h1, fun j x hx => Sl.cell h4 h5 hx⟩

/-- items as cells -/
def vals (L : List It) : List Value := L.flatMap fun x => [.int .i64 x.1, .int .i64 x.2]
theorem vals_len : ∀ L, (vals L).length = L.length * 2
  | [] => rfl
  | x :: L => by
    have := vals_len L
    unfold vals at this ⊢
    rw [List.flatMap_cons, List.length_append, this, List.length_cons, List.length_cons, List.length_cons, List.length_nil]; omega
theorem vals_get : ∀ (L : List It) (j : Nat), (vals L)[j]? = (L[j / 2]?).map fun x => if j % 2 = 0 then .int .i64 x.1 else .int .i64 x.2
  | [], j => by simp [vals]
  | x :: L, j => by
    have ih := vals_get L
    have e : vals (x :: L) = .int .i64 x.1 :: .int .i64 x.2 :: vals L := rfl
    rw [e]
    match j with
    | 0 => rfl
    | 1 => rfl
    | j + 2 =>
      rw [List.getElem?_cons_succ, List.getElem?_cons_succ, ih j]
      have e1 : (j + 2) / 2 = j / 2 + 1 := by omega
      have e2 : (j + 2) % 2 = j % 2 := by omega
      rw [e1, e2, List.getElem?_cons_succ]
theorem vals_append (L M : List It) : vals (L ++ M) = vals L ++ vals M := by unfold vals; rw [List.flatMap_append]

theorem Sl.own {w : World} {B n : Nat} {v : Value} {L : List It} (hn : L.length = n) (h : w.ownsRow B 100 2 v n (vals L)) : Sl w 100 v L := by
  subst hn
  rcases h.2 with ⟨rfl, h0⟩ | ⟨g, cap, cur, rfl, hg, hh, hc1, hc2, hsz, htk⟩
  · exact .inl ⟨rfl, List.eq_nil_of_length_eq_zero h0⟩
  · refine .inr ⟨g, 0, cap, cur, rfl, hc1, by simp [maxLen] at hc2; omega, hh, fun j x hx => ?_⟩
    have hj := (List.getElem?_eq_some_iff.1 hx).1
    have key : ∀ i, i < L.length * 2 → cur[i]? = (vals L)[i]? := fun i hi => by
      rw [← htk, List.getElem?_take, if_pos hi, Array.getElem?_toList]
    rw [Nat.zero_add, key _ (by omega), key _ (by omega), vals_get, vals_get]
    have e1 : j * 2 / 2 = j := by omega
    have e2 : (j * 2 + 1) / 2 = j := by omega
    rw [e1, e2, hx]
    exact ⟨by simp, by simp⟩

/-- a source of append: nil, or cells that are read -/
def Sr (w : World) (X : Option Addr) (k : Nat) (L : List It) : Prop :=
  (X = none ∧ L = [] ∧ k = 0) ∨ ∃ b o : Nat, X = some ⟨b, o, none⟩ ∧ b < w.heap.size ∧ ∀ j u, (vals L)[j]? = some u → w.cell? ⟨b, o + j, none⟩ = some u

theorem Sr.below {w w' : World} {X : Option Addr} {k : Nat} {L : List It} (h : Sr w X k L) (hb : Below w.heap.size w w') : Sr w' X k L := by
  rcases h with h | ⟨b, o, h1, h2, h3⟩
  · exact .inl h
  · exact .inr ⟨b, o, h1, Nat.lt_of_lt_of_le h2 hb.size, fun j x hx => by rw [hb.cell (p := ⟨b, o + j, none⟩) h2]; exact h3 j x hx⟩
theorem grownBy_refl (w : World) (row : Option Nat) : w.grownBy w row := ⟨rfl, rfl, rfl, Nat.le_refl _, fun _ _ _ => rfl⟩
theorem own_form {w : World} {B n : Nat} {v : Value} {xs : List Value} (h : w.ownsRow B 100 2 v n xs) : ∃ X k, v = .slice X n k ∧ n ≤ k ∧ k ≤ 9223372036854775807 := by
  rcases h.2 with ⟨rfl, rfl⟩ | ⟨g, cap, cur, rfl, _, _, h1, h2, _⟩
  · exact ⟨none, 0, rfl, Nat.le_refl _, by omega⟩
  · exact ⟨_, cap, rfl, h1, by simp [maxLen] at h2; omega⟩

theorem info46' : (Try.prog.info? 100).map (fun i => (i.zero, i.size, i.bytes)) = some (some (.agg #[.int .i64 0, .int .i64 0]), 2, 16) := by kernel_rfl

theorem wp_append_row {w : World} {o : Oper} {a : Act} {K : Act → World → Prop} {Q : Exit → Act → World → Prop} (s x : Operand)
    (ho : o.op = .call { callee := .builtin .append, args := #[s, x], argTypes := #[91, 91] })
    (base : Nat) (v : Value) (L1 L2 : List It) (n1 : Nat) (hn1 : L1.length = n1) (hs : a.eval s = v) (hown : w.ownsRow base 100 2 v n1 (vals L1)) (X : Option Addr) (n k : Nat) (hx : a.eval x = .slice X n k) (hn : L2.length = n)
    (hsrc : Sr w X k L2) (h63 : n1 + n ≤ 100000) (hbase : base ≤ w.heap.size) (c : Nat) (hcc : n1 + n = c)
    (h : ∀ X' k' w', w'.ownsRow base 100 2 (.slice X' c k') c (vals (L1 ++ L2)) → w.grownBy w' v.ownBlock → K (a.put o.dst (.slice X' c k')) w') : o.wp Try.prog a w K Q := by
  obtain ⟨i0, hi, hz0, hz1, hz2⟩ := info_parts info46'
  subst hn hn1 hcc
  rcases hsrc with ⟨rfl, rfl, rfl⟩ | ⟨b, off, rfl, _, hc⟩
  · have hrun := run_append_owned_none (P := Try.prog) (w := w) base 91 o.type 100 i0 2 Try.underlying91 hi v L1.length (vals L1) hown
    obtain ⟨X', k', rfl, _⟩ := own_form hown
    unfold Oper.wp
    simp only [List.length_nil] at hx
    simp [execOp, ho, resolve, invoke, builtin, hs, hx, hrun, Result.andThen]
    exact h X' k' w (by simpa using hown) (grownBy_refl _ _)
  · refine wp_append_own _ s x 91 ho base 100 i0 (.agg #[.int .i64 0, .int .i64 0]) 2 16 Try.underlying91 hi hz0 hz1 hz2 rfl (by decide) v L1.length (vals L1) hs hown ⟨b, off, none⟩ L2.length k (vals L2) hx (vals_len L2) ?_ ?_ (by unfold maxLen; omega) (by omega) hbase ?_
    · intro j u hu
      rw [addr_add]
      exact hc j u hu
    · intro u hu
      obtain ⟨y, _, hy⟩ := List.mem_flatMap.1 hu
      simp at hy
      rcases hy with rfl | rfl <;> rfl
    · intro v' w' h1 h2 _
      have h3 : w'.ownsRow base 100 2 v' (L1.length + L2.length) (vals (L1 ++ L2)) := by rw [vals_append]; exact h1
      obtain ⟨X', k', rfl, _⟩ := own_form h3
      exact h X' k' w' h3 h2

theorem wpList_append_row {w : World} {ops : Array Oper} {rest : List Oper} {o : Oper} {a : Act} {Q : Exit → Act → World → Prop} (hgd : o.guard = none) (s x : Operand)
    (ho : o.op = .call { callee := .builtin .append, args := #[s, x], argTypes := #[91, 91] })
    (base : Nat) (v : Value) (L1 L2 : List It) (n1 : Nat) (hn1 : L1.length = n1) (hs : a.eval s = v) (hown : w.ownsRow base 100 2 v n1 (vals L1)) (X : Option Addr) (n k : Nat) (hx : a.eval x = .slice X n k) (hn : L2.length = n)
    (hsrc : Sr w X k L2) (h63 : n1 + n ≤ 100000) (hbase : base ≤ w.heap.size) (c : Nat) (hcc : n1 + n = c)
    (h : ∀ X' k' w', w'.ownsRow base 100 2 (.slice X' c k') c (vals (L1 ++ L2)) → w.grownBy w' v.ownBlock → wpList Try.prog ops Q rest (a.put o.dst (.slice X' c k')) w') : wpList Try.prog ops Q (o :: rest) a w :=
  wpList_plain hgd fun _ hK => wp_append_row s x ho base v L1 L2 n1 hn1 hs hown X n k hx hn hsrc h63 hbase c hcc fun X' k' w' h1 h2 => hK _ _ (h X' k' w' h1 h2)

theorem step_append_row {w : World} {ops : Array Oper} {o : Oper} {a : Act} {K : Act → World → Prop} {Q : Exit → Act → World → Prop} {E : Prop} (hgd : o.guard = none) (s x : Operand)
    (ho : o.op = .call { callee := .builtin .append, args := #[s, x], argTypes := #[91, 91] })
    (base : Nat) (v : Value) (L1 L2 : List It) (n1 : Nat) (hn1 : L1.length = n1) (hs : a.eval s = v) (hown : w.ownsRow base 100 2 v n1 (vals L1)) (X : Option Addr) (n k : Nat) (hx : a.eval x = .slice X n k) (hn : L2.length = n)
    (hsrc : Sr w X k L2) (h63 : n1 + n ≤ 100000) (hbase : base ≤ w.heap.size) (c : Nat) (hcc : n1 + n = c)
    (h : ∀ X' k' w', w'.ownsRow base 100 2 (.slice X' c k') c (vals (L1 ++ L2)) → w.grownBy w' v.ownBlock → K (a.put o.dst (.slice X' c k')) w') :
    if Region.wanted o (yielded ops a.tmps) = true then Oper.wp Try.prog o a w K Q else E := by
  have hw : Region.wanted o (yielded ops a.tmps) = true := by simp [Region.wanted, hgd]
  rw [if_pos hw]
  exact wp_append_row s x ho base v L1 L2 n1 hn1 hs hown X n k hx hn hsrc h63 hbase c hcc h

theorem sr_one (w : World) (x : It) : Sr (w.alloc (.cells #[.int .i64 x.1, .int .i64 x.2] 100)) (some ⟨w.heap.size, 0, none⟩) 1 [x] := by
  refine .inr ⟨w.heap.size, 0, rfl, by simp, fun j y hy => ?_⟩
  rw [cell_of_row _ w.heap.size _ _ 100 (0, 0) (heap_alloc_new w _), Nat.zero_add]
  have e : vals [x] = [.int .i64 x.1, .int .i64 x.2] := rfl
  rw [e] at hy
  simpa using hy

theorem sr_of {w : World} {b o : Nat} {e : TypeId} {cs : Array Value} (hg : w.heap[b]? = some (.cells cs e (0, 0))) {L : List It} (h : ∀ (j : Nat) (x : It), L[j]? = some x → cs[o + j * 2]? = some (.int .i64 x.1) ∧ cs[o + j * 2 + 1]? = some (.int .i64 x.2)) (k : Nat) : Sr w (some ⟨b, o, none⟩) k L := by
  refine .inr ⟨b, o, rfl, lt_of_heap hg, fun j u hu => ?_⟩
  rw [cell_of_row w b _ cs e (0, 0) hg]
  rw [vals_get] at hu
  obtain ⟨x, hx, hxu⟩ := Option.map_eq_some_iff.1 hu
  obtain ⟨h1, h2⟩ := h _ _ hx
  by_cases c : j % 2 = 0
  · rw [if_pos c] at hxu
    have ej : o + j / 2 * 2 = o + j := by omega
    rw [ej] at h1; rw [h1, hxu]
  · rw [if_neg c] at hxu
    have ej : o + j / 2 * 2 + 1 = o + j := by omega
    rw [ej] at h2; rw [h2, hxu]
theorem Sl.src {w : World} {X : Option Addr} {k : Nat} {L : List It} (h : Sl w 100 (.slice X L.length k) L) : Sr w X k L := by
  rcases h with ⟨h, rfl⟩ | ⟨b, o, c, cs, h1, _, _, h4, h5⟩
  · injection h with h1 _ h3; exact .inl ⟨h1, rfl, h3⟩
  · injection h1 with h1; subst h1; exact sr_of h4 h5 k

/-- a row's slice cut in two -/
theorem Sl.cut {w : World} {X : Option Addr} {k : Nat} {L1 L2 : List It} (h : Sl w 100 (.slice X (L1 ++ L2).length k) (L1 ++ L2)) (hk : (L1 ++ L2).length ≤ k) :
    ∃ (X1 X2 : Option Addr) (k1 k2 : Nat), (∀ (W : World) (x : Int), x = (L1.length : Int) → (Instr.slice 91 (.slice X (L1 ++ L2).length k) none (some (.int .i64 x)) none).run Try.prog W = .ok (.slice X1 L1.length k1) W) ∧
      (∀ (W : World) (x : Int), x = (L1.length : Int) → (Instr.slice 91 (.slice X (L1 ++ L2).length k) (some (.int .i64 x)) none none).run Try.prog W = .ok (.slice X2 L2.length k2) W) ∧ Sr w X1 k1 L1 ∧ Sr w X2 k2 L2 := by
  have hu : Try.prog.underlying 91 = some (.slice (Try.prog.elem 91)) := by kernel_rfl
  have hz : ∀ W, (sizeOf (Try.prog.elem 91)).run Try.prog W = .ok 2 W := fun W => by
    have e : Try.prog.elem 91 = 100 := by kernel_rfl
    obtain ⟨i0, hi, _, hz1, _⟩ := info_parts info46'
    rw [e]; simp [sizeOf, typeInfo, hi, hz1]
  rcases h with ⟨hv, e⟩ | ⟨b, o, c, cs, hv, hc1, hc2, h4, h5⟩
  · obtain ⟨rfl, rfl⟩ := List.append_eq_nil_iff.1 e
    injection hv with hX _ hk0
    subst hX hk0
    refine ⟨none, none, 0, 0, fun W x hx => ?_, fun W x hx => ?_, .inl ⟨rfl, rfl, rfl⟩, .inl ⟨rfl, rfl, rfl⟩⟩
    · subst hx; have := run_slice_h W 91 none 0 0 hu .i64 0 (by omega) (by omega); rw [hz] at this; exact this
    · subst hx; have := run_slice_l W 91 none 0 0 hu .i64 0 (by omega) (by omega); rw [hz] at this; exact this
  · injection hv with hX _ hk0
    subst hX hk0
    rw [List.length_append] at hc1
    have h1 : ∀ (W : World) (x : Int), x = (L1.length : Int) → (Instr.slice 91 (.slice (some ⟨b, o, none⟩) (L1 ++ L2).length k) none (some (.int .i64 x)) none).run Try.prog W = .ok (.slice (some ⟨b, o, none⟩) L1.length k) W := fun W x hx => by
      subst hx
      rw [run_slice_h W 91 _ _ k hu .i64 L1.length (by omega) (by omega), hz]
      simp [Result.andThen, sliced, Addr.add]
    have s1 : Sr w (some ⟨b, o, none⟩) k L1 := sr_of h4 (fun j x hx => h5 j x (by rw [List.getElem?_append_left (List.getElem?_eq_some_iff.1 hx).1]; exact hx)) k
    by_cases hc : k = L1.length
    · subst hc
      have h0 : L2 = [] := List.eq_nil_of_length_eq_zero (by omega)
      subst h0
      refine ⟨_, some ⟨b, o, none⟩, _, 0, h1, fun W x hx => ?_, s1, .inr ⟨b, o, rfl, lt_of_heap h4, fun j x hx => by simp [vals] at hx⟩⟩
      subst hx
      rw [run_slice_l W 91 _ _ L1.length hu .i64 L1.length (by omega) (by simp), hz]
      simp [Result.andThen, sliced]
    · refine ⟨_, some ⟨b, o + L1.length * 2, none⟩, _, k - L1.length, h1, fun W x hx => ?_, s1, sr_of h4 (fun j x hx => ?_) _⟩
      · subst hx
        rw [run_slice_l W 91 _ _ k hu .i64 L1.length (by omega) (by simp; omega), hz]
        simp [Result.andThen, sliced, hc, addr_add]
      · have := h5 (L1.length + j) x (by rw [List.getElem?_append_right (by omega), Nat.add_sub_cancel_left]; exact hx)
        have e1 : o + L1.length * 2 + j * 2 = o + (L1.length + j) * 2 := by omega
        rw [e1]; exact this

set_option maxHeartbeats 400000 in
theorem rgood_any (id pri : Int) (w : World) (r : Bool) (hr : decide ((1 ≤ id ∧ id ≤ 16) ∧ 1 ≤ pri ∧ pri ≤ 16) = r) :
    Calls Try.prog 36 #[.int .i64 id, .int .i64 pri] w fun e w' => e = .returned (.bool r) ∧ w = w' := by
  subst hr
  by_cases c1 : 1 ≤ id
  · by_cases c2 : id ≤ 16
    · by_cases c3 : 1 ≤ pri
      · have e : decide ((1 ≤ id ∧ id ≤ 16) ∧ 1 ≤ pri ∧ pri ≤ 16) = decide (pri ≤ 16) := by simp [c1, c2, c3]
        rw [e]
        go_enter Try.func36, Try.ntmps36
        go_wp2
        go_ret
        exact ⟨rfl, rfl⟩
      · have e : decide ((1 ≤ id ∧ id ≤ 16) ∧ 1 ≤ pri ∧ pri ≤ 16) = false := by simp [c3]
        have t1 : decide (1 ≤ pri) = false := by simpa using c3
        rw [e]
        go_enter Try.func36, Try.ntmps36
        go_wp2
        go_ret
        exact ⟨rfl, rfl⟩
    · have e : decide ((1 ≤ id ∧ id ≤ 16) ∧ 1 ≤ pri ∧ pri ≤ 16) = false := by simp [c2]
      have t1 : decide (id ≤ 16) = false := by simpa using c2
      rw [e]
      go_enter Try.func36, Try.ntmps36
      go_wp2
      go_ret
      exact ⟨rfl, rfl⟩
  · have e : decide ((1 ≤ id ∧ id ≤ 16) ∧ 1 ≤ pri ∧ pri ≤ 16) = false := by simp [c1]
    have t1 : decide (1 ≤ id) = false := by simpa using c1
    rw [e]
    go_enter Try.func36, Try.ntmps36
    go_wp2
    go_ret
    exact ⟨rfl, rfl⟩

set_option maxHeartbeats 800000 in
theorem rat_any (q : Nat) (b : Bool) (L : List It) (w : World) (hl : Rq w q b L) (hn : L.length ≤ 16) (id a : Int) (ha : (if pos L id < L.length then (pos L id : Int) else -1) = a) :
    Calls Try.prog 37 #[.pointer (some ⟨q, 0, none⟩), .int .i64 id] w fun e w' => e = .returned (.int .i64 a) ∧ w = w' := by
  obtain ⟨X, k, _, h1, hs, hk1, hk2, _⟩ := hl.open
  obtain ⟨n, hlen⟩ : ∃ n, L.length = n := ⟨_, rfl⟩
  have HA := Lib.hid ha
  have HS := Lib.hid hs
  rw [hlen] at hn h1 hk1 HA HS
  have HLN := Lib.hid hlen
  clear hlen ha hs
  go_enter Try.func37, Try.ntmps37
  go_wp2
  go_loop [5] (fun i => ∃ t : Nat, t ≤ n ∧ i = .int .i64 (t : Int) ∧ (∀ (j : Nat) (y : It), j < t → L[j]? = some y → y.1 ≠ id)) (fun i => n - (intOf i).toNat)
  case atStart => exact ⟨0, Nat.zero_le _, rfl, fun j y hj => absurd hj (by omega)⟩
  case round =>
    obtain ⟨t, ht, rfl, hno⟩ := hrel
    have HN := Lib.hid hno
    clear hno
    by_cases hlt : t < n
    · obtain ⟨x, hx⟩ : ∃ x, L[t]? = some x := ⟨_, List.getElem?_eq_getElem (by rw [HLN.out]; exact hlt)⟩
      obtain ⟨g, o, rfl, hc⟩ := sl_open HS.out (by rw [HLN.out]; omega)
      have hc0 := (hc t x hx).1
      have HX := Lib.hid hx
      have it : (t : Int) < (n : Int) := by omega
      clear hx hc
      by_cases he : x.1 = id
      · have te : (x.1 == id) = true := by simpa using he
        go_wp2
        go_ret
        have hp := pos_eq HX.out he HN.out
        refine ⟨?_, rfl⟩
        rw [← HA.out, hp, if_pos hlt]; rfl
      · have te : (x.1 == id) = false := by simpa using he
        go_wp2
        go_round
        case rel =>
          refine ⟨t + 1, by omega, by go_num, fun j y hj hy => ?_⟩
          by_cases e : j = t
          · subst e; rw [HX.out] at hy; injection hy with hy; rw [← hy]; exact he
          · exact HN.out j y (by omega) hy
        case measure => simp [intOf]; omega
    · go_wp2
      go_ret
      have hp : pos L id = n := by
        rw [← HLN.out]
        exact pos_none fun j y hy => HN.out j y (by have := (List.getElem?_eq_some_iff.1 hy).1; rw [HLN.out] at this; omega) hy
      refine ⟨?_, rfl⟩
      rw [← HA.out, hp, if_neg (by omega)]; rfl
end Go.Proofs.Ytneimdjgbblaoaa
