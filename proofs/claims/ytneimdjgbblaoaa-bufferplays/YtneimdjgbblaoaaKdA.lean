/- Rows that grow by append, for any kind of element: one law; a number, who was woken, as cells. -/
import Derived.Test.YtneimdjgbblaoaaMem
import Derived.Laws.AppendOwnNone
import Derived.Deep.RegionLaw
namespace Go.Proofs.Ytneimdjgbblaoaa.K
open Go.RowKit
set_option maxRecDepth 100000

/-- rows as cells -/
def vals {α : Type} (c : α → List Value) (L : List α) : List Value := L.flatMap c
theorem vals_append {α : Type} (c : α → List Value) (L M : List α) : vals c (L ++ M) = vals c L ++ vals c M := by unfold vals; rw [List.flatMap_append]
theorem vals_len {α : Type} {c : α → List Value} {z : Nat} (hz : ∀ x, (c x).length = z) : ∀ L : List α, (vals c L).length = L.length * z
  | [] => by simp [vals]
  | x :: L => by
    have := vals_len hz L
    unfold vals at this ⊢
    rw [List.flatMap_cons, List.length_append, this, hz, List.length_cons, Nat.add_mul, Nat.one_mul, Nat.add_comm]
theorem vals_get {α : Type} {c : α → List Value} {z : Nat} (hz : ∀ x, (c x).length = z) : ∀ (L : List α) (j r : Nat) (x : α), r < z → L[j]? = some x → (vals c L)[j * z + r]? = (c x)[r]?
  | [], j, r, x, _, h => by simp at h
  | y :: L, 0, r, x, hr, h => by
    simp at h; subst h
    unfold vals
    rw [List.flatMap_cons, Nat.zero_mul, Nat.zero_add, List.getElem?_append_left (by rw [hz]; exact hr)]
  | y :: L, j + 1, r, x, hr, h => by
    have := vals_get hz L j r x hr (by simpa using h)
    unfold vals at this ⊢
    rw [List.flatMap_cons, List.getElem?_append_right (by rw [hz, Nat.add_mul, Nat.one_mul]; omega), ← this, hz]
    congr 1
    rw [Nat.add_mul, Nat.one_mul]; omega

/-- a number -/
def ci (x : Int) : List Value := [.int .i64 x]
theorem ci_len (x : Int) : (ci x).length = 1 := rfl

/-- a source of append: nil, or cells that are read -/
def Sr {α : Type} (c : α → List Value) (w : World) (X : Option Addr) (k : Nat) (L : List α) : Prop :=
  (X = none ∧ L = [] ∧ k = 0) ∨ ∃ b o : Nat, X = some ⟨b, o, none⟩ ∧ b < w.heap.size ∧ ∀ j u, (vals c L)[j]? = some u → w.cell? ⟨b, o + j, none⟩ = some u
theorem Sr.below {α : Type} {c : α → List Value} {w w' : World} {X : Option Addr} {k : Nat} {L : List α} (h : Sr c w X k L) (hb : Below w.heap.size w w') : Sr c w' X k L := by
  rcases h with h | ⟨b, o, h1, h2, h3⟩
  · exact .inl h
  · exact .inr ⟨b, o, h1, Nat.lt_of_lt_of_le h2 hb.size, fun j x hx => by rw [hb.cell (p := ⟨b, o + j, none⟩) h2]; exact h3 j x hx⟩
theorem grownBy_refl (w : World) (row : Option Nat) : w.grownBy w row := ⟨rfl, rfl, rfl, Nat.le_refl _, fun _ _ _ => rfl⟩
theorem own_form {w : World} {B n z : Nat} {e : TypeId} {v : Value} {xs : List Value} (h : w.ownsRow B e z v n xs) : ∃ X k, v = .slice X n k ∧ n ≤ k ∧ k ≤ 9223372036854775807 := by
  rcases h.2 with ⟨rfl, rfl⟩ | ⟨g, cap, cur, rfl, _, _, h1, h2, _⟩
  · exact ⟨none, 0, rfl, Nat.le_refl _, by omega⟩
  · exact ⟨_, cap, rfl, h1, by simp [maxLen] at h2; omega⟩

/-- what the append law is told of a type of slices -/
structure Kd (α : Type) (c : α → List Value) (ts te : TypeId) (z : Nat) : Prop where
  und : Try.prog.underlying ts = some (.slice te)
  info : ∃ (i : TypeInfo) (zr : Value) (b : Nat), Try.prog.info? te = some i ∧ i.zero = some zr ∧ i.size = z ∧ i.bytes = b ∧ zr.cells.size = z ∧ b ≤ 32
  len : ∀ x, (c x).length = z
  one : ∀ x u, u ∈ c x → u.oneCell' = true
theorem info3 : (Try.prog.info? 3).map (fun i => (i.zero, i.size, i.bytes)) = some (some (.int .i64 0), 1, 8) := by kernel_rfl
theorem ki : Kd Int ci 40 3 1 := by
  obtain ⟨i, h1, h2, h3, h4⟩ := info_parts info3
  exact ⟨Try.underlying40, ⟨i, _, _, h1, h2, h3, h4, rfl, by omega⟩, ci_len, fun x u hu => by simp [ci] at hu; subst hu; rfl⟩
theorem wp_append_row {α : Type} {cc : α → List Value} {ts te : TypeId} {z : Nat} (kd : Kd α cc ts te z) (hz0 : 0 < z) {w : World} {o : Oper} {a : Act} {K : Act → World → Prop} {Q : Exit → Act → World → Prop} (s x : Operand)
    (ho : o.op = .call { callee := .builtin .append, args := #[s, x], argTypes := #[ts, ts] })
    (base : Nat) (v : Value) (L1 L2 : List α) (n1 : Nat) (hn1 : L1.length = n1) (hs : a.eval s = v) (hown : w.ownsRow base te z v n1 (vals cc L1)) (X : Option Addr) (n k : Nat) (hx : a.eval x = .slice X n k) (hn : L2.length = n)
    (hsrc : Sr cc w X k L2) (h63 : n1 + n ≤ 100000) (hbase : base ≤ w.heap.size) (c : Nat) (hcc : n1 + n = c)
    (h : ∀ X' k' w', w'.ownsRow base te z (.slice X' c k') c (vals cc (L1 ++ L2)) → w.grownBy w' v.ownBlock → K (a.put o.dst (.slice X' c k')) w') : o.wp Try.prog a w K Q := by
  obtain ⟨i0, zr, b0, hi, hzr, hz1, hz2, hzs, hb0⟩ := kd.info
  subst hn hn1 hcc
  rcases hsrc with ⟨rfl, rfl, rfl⟩ | ⟨b, off, rfl, _, hc⟩
  · have hrun := run_append_owned_none (P := Try.prog) (w := w) base ts o.type te i0 z kd.und hi v L1.length (vals cc L1) hown
    obtain ⟨X', k', rfl, _⟩ := own_form hown
    unfold Oper.wp
    simp only [List.length_nil] at hx
    simp [execOp, ho, resolve, invoke, builtin, hs, hx, hrun, Result.andThen]
    exact h X' k' w (by simpa using hown) (grownBy_refl _ _)
  · have hb1 : (L1.length + L2.length) * b0 ≤ 140737488355328 := by
      have : (L1.length + L2.length) * b0 ≤ 100000 * 32 := Nat.mul_le_mul h63 hb0
      omega
    refine wp_append_own _ s x ts ho base te i0 zr z b0 kd.und hi hzr hz1 hz2 hzs hz0 v L1.length (vals cc L1) hs hown ⟨b, off, none⟩ L2.length k (vals cc L2) hx (vals_len kd.len L2) ?_ ?_ (by unfold maxLen; omega) hb1 hbase ?_
    · intro j u hu
      rw [addr_add]
      exact hc j u hu
    · intro u hu
      obtain ⟨y, _, hy⟩ := List.mem_flatMap.1 hu
      exact kd.one y u hy
    · intro v' w' h1 h2 _
      have h3 : w'.ownsRow base te z v' (L1.length + L2.length) (vals cc (L1 ++ L2)) := by rw [vals_append]; exact h1
      obtain ⟨X', k', rfl, _⟩ := own_form h3
      exact h X' k' w' h3 h2

theorem wpList_append_row {α : Type} {cc : α → List Value} {ts te : TypeId} {z : Nat} (kd : Kd α cc ts te z) (hz0 : 0 < z) {w : World} {ops : Array Oper} {rest : List Oper} {o : Oper} {a : Act} {Q : Exit → Act → World → Prop} (hgd : o.guard = none) (s x : Operand)
    (ho : o.op = .call { callee := .builtin .append, args := #[s, x], argTypes := #[ts, ts] })
    (base : Nat) (v : Value) (L1 L2 : List α) (n1 : Nat) (hn1 : L1.length = n1) (hs : a.eval s = v) (hown : w.ownsRow base te z v n1 (vals cc L1)) (X : Option Addr) (n k : Nat) (hx : a.eval x = .slice X n k) (hn : L2.length = n)
    (hsrc : Sr cc w X k L2) (h63 : n1 + n ≤ 100000) (hbase : base ≤ w.heap.size) (c : Nat) (hcc : n1 + n = c)
    (h : ∀ X' k' w', w'.ownsRow base te z (.slice X' c k') c (vals cc (L1 ++ L2)) → w.grownBy w' v.ownBlock → wpList Try.prog ops Q rest (a.put o.dst (.slice X' c k')) w') : wpList Try.prog ops Q (o :: rest) a w :=
  wpList_plain hgd fun _ hK => wp_append_row kd hz0 s x ho base v L1 L2 n1 hn1 hs hown X n k hx hn hsrc h63 hbase c hcc fun X' k' w' h1 h2 => hK _ _ (h X' k' w' h1 h2)

theorem step_append_row {α : Type} {cc : α → List Value} {ts te : TypeId} {z : Nat} (kd : Kd α cc ts te z) (hz0 : 0 < z) {w : World} {ops : Array Oper} {o : Oper} {a : Act} {K : Act → World → Prop} {Q : Exit → Act → World → Prop} {E : Prop} (hgd : o.guard = none) (s x : Operand)
    (ho : o.op = .call { callee := .builtin .append, args := #[s, x], argTypes := #[ts, ts] })
    (base : Nat) (v : Value) (L1 L2 : List α) (n1 : Nat) (hn1 : L1.length = n1) (hs : a.eval s = v) (hown : w.ownsRow base te z v n1 (vals cc L1)) (X : Option Addr) (n k : Nat) (hx : a.eval x = .slice X n k) (hn : L2.length = n)
    (hsrc : Sr cc w X k L2) (h63 : n1 + n ≤ 100000) (hbase : base ≤ w.heap.size) (c : Nat) (hcc : n1 + n = c)
    (h : ∀ X' k' w', w'.ownsRow base te z (.slice X' c k') c (vals cc (L1 ++ L2)) → w.grownBy w' v.ownBlock → K (a.put o.dst (.slice X' c k')) w') :
    if Region.wanted o (yielded ops a.tmps) = true then Oper.wp Try.prog o a w K Q else E := by
  have hw : Region.wanted o (yielded ops a.tmps) = true := by simp [Region.wanted, hgd]
  rw [if_pos hw]
  exact wp_append_row kd hz0 s x ho base v L1 L2 n1 hn1 hs hown X n k hx hn hsrc h63 hbase c hcc h

/-- one entry, or one number, as a source -/
theorem sr_one {α : Type} (c : α → List Value) (w : World) (e : TypeId) (x : α) : Sr c (w.alloc (.cells (c x).toArray e)) (some ⟨w.heap.size, 0, none⟩) 1 [x] := by
  refine .inr ⟨w.heap.size, 0, rfl, by simp, fun j y hy => ?_⟩
  rw [cell_of_row _ w.heap.size _ _ e (0, 0) (heap_alloc_new w _), Nat.zero_add]
  simpa [vals] using hy
/-- a row of one's own as a source -/
theorem own_src {α : Type} {c : α → List Value} {w : World} {B n k z : Nat} {e : TypeId} {X : Option Addr} {L : List α} (hn : L.length = n) (h : w.ownsRow B e z (.slice X n k) n (vals c L)) : Sr c w X k L := by
  subst hn
  rcases h.2 with ⟨h1, h2⟩ | ⟨g, cap, cur, h1, _, hh, _, _, _, ht⟩
  · injection h1 with e1 _ e2; exact .inl ⟨e1, List.eq_nil_of_length_eq_zero h2, e2⟩
  · injection h1 with e1 _ e2
    subst e1
    refine .inr ⟨g, 0, rfl, lt_of_heap hh, fun j u hu => ?_⟩
    rw [cell_of_row w g _ cur e (0, 0) hh, Nat.zero_add]
    rw [← ht, List.getElem?_take] at hu
    split at hu
    · simpa using hu
    · cases hu
theorem own_keep {w w' : World} {B n z : Nat} {e : TypeId} {v : Value} {xs : List Value} (h : w.ownsRow B e z v n xs) (hk : ∀ (g : Nat) (cs : Array Value), w.heap[g]? = some (.cells cs e (0, 0)) → v.ownBlock = some g → w'.heap[g]? = w.heap[g]?) : w'.ownsRow B e z v n xs := by
  refine ⟨h.1, ?_⟩
  rcases h.2 with h2 | ⟨g, cap, cur, rfl, h1, hh, r⟩
  · exact .inl h2
  · exact .inr ⟨g, cap, cur, rfl, h1, (hk g cur hh rfl).trans hh, r⟩
theorem own_below {w w' : World} {B n z : Nat} {e : TypeId} {v : Value} {xs : List Value} (h : w.ownsRow B e z v n xs) (k : Below w.heap.size w w') : w'.ownsRow B e z v n xs :=
  own_keep h fun g _ hg _ => k.block g (lt_of_heap hg)
theorem own_base {w : World} {B B' n z : Nat} {e : TypeId} {v : Value} {xs : List Value} (h : w.ownsRow B e z v n xs) (hb : B' ≤ B) : w.ownsRow B' e z v n xs := by
  refine ⟨h.1, ?_⟩
  rcases h.2 with h2 | ⟨g, cap, cur, rfl, h1, r⟩
  · exact .inl h2
  · exact .inr ⟨g, cap, cur, rfl, Nat.le_trans hb h1, r⟩

/-- where an append leaves its row: where it was, or in a new block -/
theorem append_where {P : Program} {w : World} {base : Nat} {t ty e : TypeId} {i : TypeInfo} {z : Value} {size bytes : Nat} (ht : P.underlying t = some (.slice e)) (hi : P.info? e = some i) (hz : i.zero = some z)
    (hsize : i.size = size) (hby : i.bytes = bytes)
    {v : Value} {n : Nat} {xs : List Value} (hown : w.ownsRow base e size v n xs)
    {a : Addr} {m c : Nat} {news : List Value} (hl : news.length = m * size) (hnews : ∀ j u, news[j]? = some u → w.cell? (a.add j) = some u) (h1 : ∀ u ∈ news, u.oneCell' = true)
    (h63 : n + m ≤ maxLen) (hbytes : (n + m) * bytes ≤ 140737488355328) (hm : 0 < m) {v' : Value} {w' : World} (hrun : (Builtin.append_ #[t, t] ty #[v, .slice (some a) m c]).run P w = .ok v' w') :
    v'.ownBlock = v.ownBlock ∨ v'.ownBlock = some w.heap.size := by
  subst hsize
  subst hby
  have hsmall : n + m ≤ 9223372036854775807 := by simp only [maxLen] at h63; omega
  rcases hown.2 with ⟨rfl, rfl⟩ | ⟨g, cap, cur, rfl, hbg, hg, hnc, hcm, hcs, htake⟩
  · have hr := run_append_nil (P := P) w t ty e i z ht hi hz a m c news hl hnews (by omega) (by omega) (by have hb := hbytes; simp only [Nat.zero_add] at hb; omega)
    rw [hr] at hrun; injection hrun with e1 e2; subst e1; exact .inr rfl
  · by_cases hroom : n + m ≤ cap
    · have hfit : n * i.size + news.length ≤ cur.size := by rw [hl, hcs, ← Nat.add_mul]; exact Nat.mul_le_mul_right _ hroom
      have hr := run_append_room (P := P) w t ty e i ht hi g n cap cur hg a m c news hl hnews h1 hroom hfit
      rw [hr] at hrun; injection hrun with e1 e2; subst e1; exact .inl rfl
    · have holds : ∀ j u, xs[j]? = some u → w.cell? ((⟨g, 0, none⟩ : Addr).add j) = some u := hown.cells (g := g) rfl
      have hr := run_append_grow (P := P) w t ty e i z ht hi hz ⟨g, 0, none⟩ n cap xs hown.1 holds a m c news hl hnews (by omega) (by omega) (growslice_fits (by omega) hbytes)
      rw [hr] at hrun; injection hrun with e1 e2; subst e1; exact .inr rfl

theorem wpList_append_one {α : Type} {cc : α → List Value} {ts te : TypeId} {z : Nat} (kd : Kd α cc ts te z) (hz0 : 0 < z) {w : World} {ops : Array Oper} {rest : List Oper} {o : Oper} {a : Act} {Q : Exit → Act → World → Prop} (hgd : o.guard = none) (s x : Operand)
    (ho : o.op = .call { callee := .builtin .append, args := #[s, x], argTypes := #[ts, ts] })
    (base : Nat) (v : Value) (L1 : List α) (y : α) (n1 : Nat) (hn1 : L1.length = n1) (hs : a.eval s = v) (hown : w.ownsRow base te z v n1 (vals cc L1)) (X : Option Addr) (k : Nat) (hx : a.eval x = .slice X 1 k)
    (hsrc : Sr cc w X k [y]) (h63 : n1 + 1 ≤ 100000) (hbase : base ≤ w.heap.size)
    (h : ∀ X' k' w', w'.ownsRow base te z (.slice X' (n1 + 1) k') (n1 + 1) (vals cc (L1 ++ [y])) → w.grownBy w' v.ownBlock → ((Value.slice X' (n1 + 1) k').ownBlock = v.ownBlock ∨ (Value.slice X' (n1 + 1) k').ownBlock = some w.heap.size) → wpList Try.prog ops Q rest (a.put o.dst (.slice X' (n1 + 1) k')) w') : wpList Try.prog ops Q (o :: rest) a w := by
  refine wpList_plain hgd fun _ hK => ?_
  obtain ⟨i0, zr, b0, hi, hzr, hz1, hz2, hzs, hb0⟩ := kd.info
  subst hn1
  rcases hsrc with ⟨_, h0, _⟩ | ⟨b, off, rfl, _, hc⟩
  · cases h0
  · have hb1 : (L1.length + 1) * b0 ≤ 140737488355328 := by
      have : (L1.length + 1) * b0 ≤ 100000 * 32 := Nat.mul_le_mul h63 hb0
      omega
    have hc' : ∀ j u, (vals cc [y])[j]? = some u → w.cell? ((⟨b, off, none⟩ : Addr).add j) = some u := fun j u hu => by rw [addr_add]; exact hc j u hu
    have h1' : ∀ u ∈ vals cc [y], u.oneCell' = true := fun u hu => by
      obtain ⟨y', _, hy⟩ := List.mem_flatMap.1 hu
      exact kd.one y' u hy
    have hl' := vals_len kd.len [y]
    have hm' : L1.length + 1 ≤ maxLen := by unfold maxLen; omega
    obtain ⟨v', w', hr, h2, h3, h4⟩ := run_append_own (P := Try.prog) w base ts o.type te i0 zr z b0 kd.und hi hzr hz1 hz2 hzs hz0 v L1.length (vals cc L1) hown ⟨b, off, none⟩ 1 k (vals cc [y]) hl' hc' h1' hm' hb1 hbase
    have hwh := append_where kd.und hi hzr hz1 hz2 hown hl' hc' h1' hm' hb1 (Nat.one_pos) hr
    have h3' : w'.ownsRow base te z v' (L1.length + 1) (vals cc (L1 ++ [y])) := by rw [vals_append]; exact h2
    obtain ⟨X', k', rfl, _⟩ := own_form h3'
    unfold Oper.wp execOp
    simp only [ho, resolve, invoke, builtin, Sem.run_bind, Sem.run_pure, Result.andThen_ok, List.map_toArray, List.map_cons, List.map_nil, hs, hx, hr]
    exact hK _ _ (h X' k' w' h3' h3 hwh)

end Go.Proofs.Ytneimdjgbblaoaa.K
