/- The document's own rows (detentref3): put. -/
import Derived.Test.YtmfjhckacmdijaaRefA
import Derived.Laws.AppendOwnNone
import Derived.Deep.RegionLaw
namespace Go.Proofs.Ytmfjhckacmdijaa
open Go.RowKit

/-- a source of append: nil, or cells that are read -/
def Sr (w : World) (X : Option Addr) (k : Nat) (L : List Nat) : Prop :=
  (X = none ∧ L = [] ∧ k = 0) ∨ ∃ b o : Nat, X = some ⟨b, o, none⟩ ∧ b < w.heap.size ∧ ∀ j x : Nat, L[j]? = some x → w.cell? ⟨b, o + j, none⟩ = some (.int .i64 (x : Int))

theorem addr_add (b o j : Nat) : (⟨b, o, none⟩ : Addr).add j = ⟨b, o + j, none⟩ := by cases j <;> simp [Addr.add]

theorem Sr.below {w w' : World} {X : Option Addr} {k : Nat} {L : List Nat} (h : Sr w X k L) (hb : Below w.heap.size w w') : Sr w' X k L := by
  rcases h with h | ⟨b, o, h1, h2, h3⟩
  · exact .inl h
  · exact .inr ⟨b, o, h1, Nat.lt_of_lt_of_le h2 hb.size, fun j x hx => by rw [hb.cell (p := ⟨b, o + j, none⟩) h2]; exact h3 j x hx⟩

theorem grownBy_refl (w : World) (row : Option Nat) : w.grownBy w row := ⟨rfl, rfl, rfl, Nat.le_refl _, fun _ _ _ => rfl⟩

theorem own_form {w : World} {B n : Nat} {v : Value} {xs : List Value} (h : w.ownsRow B 3 1 v n xs) : ∃ X k, v = .slice X n k := by
  rcases h.2 with ⟨rfl, rfl⟩ | ⟨g, cap, cur, rfl, _⟩
  · exact ⟨none, 0, rfl⟩
  · exact ⟨_, cap, rfl⟩

theorem wp_append_row {w : World} {o : Oper} {a : Act} {K : Act → World → Prop} {Q : Exit → Act → World → Prop} (s x : Operand)
    (ho : o.op = .call { callee := .builtin .append, args := #[s, x], argTypes := #[31, 31] })
    (base : Nat) (v : Value) (L1 L2 : List Nat) (n1 : Nat) (hn1 : L1.length = n1) (hs : a.eval s = v) (hown : w.ownsRow base 3 1 v n1 (vals L1)) (X : Option Addr) (n k : Nat) (hx : a.eval x = .slice X n k) (hn : L2.length = n)
    (hsrc : Sr w X k L2) (h63 : n1 + n ≤ 100000) (hbase : base ≤ w.heap.size) (c : Nat) (hcc : n1 + n = c)
    (h : ∀ X' k' w', w'.ownsRow base 3 1 (.slice X' c k') c (vals (L1 ++ L2)) → w.grownBy w' v.ownBlock → K (a.put o.dst (.slice X' c k')) w') : o.wp Try.prog a w K Q := by
  obtain ⟨i0, hi, hz0, hz1, hz2⟩ := info_parts info3
  subst hn hn1 hcc
  rcases hsrc with ⟨rfl, rfl, rfl⟩ | ⟨b, off, rfl, _, hc⟩
  · have hrun := run_append_owned_none (P := Try.prog) (w := w) base 31 o.type 3 i0 1 Try.underlying31 hi v L1.length (vals L1) hown
    obtain ⟨X', k', rfl⟩ := own_form hown
    unfold Oper.wp
    simp only [List.length_nil] at hx
    simp [execOp, ho, resolve, invoke, builtin, hs, hx, hrun, Result.andThen]
    exact h X' k' w (by simpa using hown) (grownBy_refl _ _)
  · refine wp_append_own _ s x 31 ho base 3 i0 (.int .i64 0) 1 8 Try.underlying31 hi hz0 hz1 hz2 rfl (by decide) v L1.length (vals L1) hs hown ⟨b, off, none⟩ L2.length k (vals L2) hx (by simp [vals]) ?_ ?_ (by unfold maxLen; omega) (by omega) hbase ?_
    · intro j u hu
      rw [addr_add]
      unfold vals at hu
      rw [List.getElem?_map] at hu
      obtain ⟨y, hy, rfl⟩ := Option.map_eq_some_iff.1 hu
      exact hc j y hy
    · intro u hu
      obtain ⟨y, _, rfl⟩ := List.mem_map.1 hu
      rfl
    · intro v' w' h1 h2 _
      have h3 : w'.ownsRow base 3 1 v' (L1.length + L2.length) (vals (L1 ++ L2)) := by simpa [vals] using h1
      obtain ⟨X', k', rfl⟩ := own_form h3
      exact h X' k' w' h3 h2

theorem wpList_append_row {w : World} {ops : Array Oper} {rest : List Oper} {o : Oper} {a : Act} {Q : Exit → Act → World → Prop} (hgd : o.guard = none) (s x : Operand)
    (ho : o.op = .call { callee := .builtin .append, args := #[s, x], argTypes := #[31, 31] })
    (base : Nat) (v : Value) (L1 L2 : List Nat) (n1 : Nat) (hn1 : L1.length = n1) (hs : a.eval s = v) (hown : w.ownsRow base 3 1 v n1 (vals L1)) (X : Option Addr) (n k : Nat) (hx : a.eval x = .slice X n k) (hn : L2.length = n)
    (hsrc : Sr w X k L2) (h63 : n1 + n ≤ 100000) (hbase : base ≤ w.heap.size) (c : Nat) (hcc : n1 + n = c)
    (h : ∀ X' k' w', w'.ownsRow base 3 1 (.slice X' c k') c (vals (L1 ++ L2)) → w.grownBy w' v.ownBlock → wpList Try.prog ops Q rest (a.put o.dst (.slice X' c k')) w') : wpList Try.prog ops Q (o :: rest) a w :=
  wpList_plain hgd fun _ hK => wp_append_row s x ho base v L1 L2 n1 hn1 hs hown X n k hx hn hsrc h63 hbase c hcc fun X' k' w' h1 h2 => hK _ _ (h X' k' w' h1 h2)

theorem step_append_row {w : World} {ops : Array Oper} {o : Oper} {a : Act} {K : Act → World → Prop} {Q : Exit → Act → World → Prop} {E : Prop} (hgd : o.guard = none) (s x : Operand)
    (ho : o.op = .call { callee := .builtin .append, args := #[s, x], argTypes := #[31, 31] })
    (base : Nat) (v : Value) (L1 L2 : List Nat) (n1 : Nat) (hn1 : L1.length = n1) (hs : a.eval s = v) (hown : w.ownsRow base 3 1 v n1 (vals L1)) (X : Option Addr) (n k : Nat) (hx : a.eval x = .slice X n k) (hn : L2.length = n)
    (hsrc : Sr w X k L2) (h63 : n1 + n ≤ 100000) (hbase : base ≤ w.heap.size) (c : Nat) (hcc : n1 + n = c)
    (h : ∀ X' k' w', w'.ownsRow base 3 1 (.slice X' c k') c (vals (L1 ++ L2)) → w.grownBy w' v.ownBlock → K (a.put o.dst (.slice X' c k')) w') :
    if Region.wanted o (yielded ops a.tmps) = true then Oper.wp Try.prog o a w K Q else E := by
  have hw : Region.wanted o (yielded ops a.tmps) = true := by simp [Region.wanted, hgd]
  rw [if_pos hw]
  exact wp_append_row s x ho base v L1 L2 n1 hn1 hs hown X n k hx hn hsrc h63 hbase c hcc h

theorem sr_one (w : World) (x : Nat) : Sr (w.alloc (.cells #[.int .i64 (x : Int)] 3)) (some ⟨w.heap.size, 0, none⟩) 1 [x] := by
  refine .inr ⟨w.heap.size, 0, rfl, by simp, fun j y hy => ?_⟩
  have hj : j = 0 := by have := (List.getElem?_eq_some_iff.1 hy).1; simp at this; omega
  subst hj
  rw [cell_of_row _ w.heap.size _ _ 3 (0, 0) (heap_alloc_new w _)]
  simp at hy; subst hy; rfl

/-- a row's slice cut in two -/
theorem Sl.cut {w : World} {m r : Nat} {v : Value} {L1 L2 : List Nat} (h : Sl w m r v (L1 ++ L2)) :
    ∃ (X1 X2 : Option Addr) (k1 k2 : Nat), (∀ W, (Instr.slice 31 v none (some (.int .i64 (L1.length : Int))) none).run Try.prog W = .ok (.slice X1 L1.length k1) W) ∧
      (∀ W, (Instr.slice 31 v (some (.int .i64 (L1.length : Int))) none none).run Try.prog W = .ok (.slice X2 L2.length k2) W) ∧ Sr w X1 k1 L1 ∧ Sr w X2 k2 L2 := by
  have hu : Try.prog.underlying 31 = some (.slice (Try.prog.elem 31)) := by kernel_rfl
  have hz : ∀ W, (sizeOf (Try.prog.elem 31)).run Try.prog W = .ok 1 W := fun W => by
    have e : Try.prog.elem 31 = 3 := by kernel_rfl
    obtain ⟨i0, hi, _, hz1, _⟩ := info_parts info3
    rw [e]; simp [sizeOf, typeInfo, hi, hz1]
  rcases h with ⟨rfl, e⟩ | ⟨b, o, c, rfl, hc1, hc2, hbm, hbr, hbl, hcl⟩
  · obtain ⟨rfl, rfl⟩ := List.append_eq_nil_iff.1 e
    refine ⟨none, none, 0, 0, fun W => ?_, fun W => ?_, .inl ⟨rfl, rfl, rfl⟩, .inl ⟨rfl, rfl, rfl⟩⟩
    · have := run_slice_h W 31 none 0 0 hu .i64 0 (by omega) (by omega); rw [hz] at this; exact this
    · have := run_slice_l W 31 none 0 0 hu .i64 0 (by omega) (by omega); rw [hz] at this; exact this
  · rw [List.length_append] at hc1
    have h1 : ∀ W, (Instr.slice 31 (.slice (some ⟨b, o, none⟩) (L1 ++ L2).length c) none (some (.int .i64 (L1.length : Int))) none).run Try.prog W = .ok (.slice (some ⟨b, o, none⟩) L1.length c) W := fun W => by
      rw [run_slice_h W 31 _ _ c hu .i64 L1.length (by omega) (by omega), hz]
      simp [Result.andThen, sliced, Addr.add]
    have s1 : Sr w (some ⟨b, o, none⟩) c L1 := .inr ⟨b, o, rfl, hbl, fun j x hx => hcl j x (by rw [List.getElem?_append_left (List.getElem?_eq_some_iff.1 hx).1]; exact hx)⟩
    by_cases hc : c = L1.length
    · subst hc
      have h0 : L2 = [] := List.eq_nil_of_length_eq_zero (by omega)
      subst h0
      refine ⟨_, some ⟨b, o, none⟩, _, 0, h1, fun W => ?_, s1, .inr ⟨b, o, rfl, hbl, fun j x hx => by simp at hx⟩⟩
      rw [run_slice_l W 31 _ _ L1.length hu .i64 L1.length (by omega) (by simp), hz]
      simp [Result.andThen, sliced]
    · refine ⟨_, some ⟨b, o + L1.length, none⟩, _, c - L1.length, h1, fun W => ?_, s1, .inr ⟨b, o + L1.length, rfl, hbl, fun j x hx => ?_⟩⟩
      · rw [run_slice_l W 31 _ _ c hu .i64 L1.length (by omega) (by simp; omega), hz]
        simp [Result.andThen, sliced, hc, addr_add]
      · have := hcl (L1.length + j) x (by rw [List.getElem?_append_right (by omega), Nat.add_sub_cancel_left]; exact hx)
        rw [Nat.add_assoc]; exact this

set_option maxHeartbeats 1600000 in
theorem put_ok (q r m N H h x : Nat) (R : Nat → List Nat) (w : World) (hl : Rf w q r m N H R) (hm : m < w.heap.size) (hh : h < H) (_hH : H ≤ 64) (L1 L2 : List Nat) (hR : R h = L1 ++ L2) (hlen : (R h).length ≤ 50000) (i : Int) (hi : (L1.length : Int) = i) :
    Calls Try.prog 33 #[.pointer (some ⟨q, 0, none⟩), .int .i64 (h : Int), .int .i64 i, .int .i64 (x : Int)] w fun e w' => e = .returned (.tuple #[]) ∧ Rf w' q r m N H (setR R h (L1 ++ x :: L2)) ∧ Only r r w w' := by
  subst hi
  have hll : L1.length + L2.length ≤ 50000 := by rw [hR, List.length_append] at hlen; exact hlen
  have hlr := hl.ltr
  have hb0 : Below w.heap.size w (w.alloc (.cells #[] 3)) := (Below.refl _ _).alloc (Nat.le_refl _) _
  obtain ⟨k, h0, h1, hk1, hk2⟩ := (hl.below hb0).cells
  obtain ⟨v, hv0, hs⟩ := hl.row hh
  have hv := (hb0.cell (p := ⟨r, h, none⟩) hlr).trans hv0
  rw [hR] at hs
  obtain ⟨X1, X2, k1, k2, hA, hB, hs1, hs2⟩ := hs.cut
  have hs1' := hs1.below hb0
  have ih : (h : Int) < (H : Int) := by omega
  have HR := Lib.hid hR
  have hown0 : (w.alloc (.cells #[] 3)).ownsRow w.heap.size 3 1 (.slice (some ⟨w.heap.size, 0, none⟩) 0 0) 0 (vals []) := World.ownsRow_lit w #[] 0 (Nat.le_refl _) (by unfold maxLen; omega) rfl
  clear hR hlen hs
  generalize hL1 : L1.length = n1 at *
  generalize hL2 : L2.length = n2 at *
  have b1 : 0 + n1 ≤ 100000 := by omega
  have b2 : n1 + 1 ≤ 100000 := by omega
  have b3 : n1 + 1 + n2 ≤ 100000 := by omega
  have b4 : (L1 ++ [x]).length = n1 + 1 := by simp [hL1]
  have HL1 := Lib.hid hL1
  have HL2 := Lib.hid hL2
  have HL3 := Lib.hid b4
  clear hL1 hL2 b4
  go_enter Try.func33, Try.ntmps33
  go_wp2_with (first
    | (at_builtin; refine wpList_append_row rfl _ _ rfl w.heap.size (.slice (some ⟨w.heap.size, 0, none⟩) 0 0) [] L1 0 rfl rfl hown0 X1 n1 k1 rfl HL1.out hs1' b1 hb0.size n1 (Nat.zero_add _) ?_; intro Y1 j1 w1 hown1 hgrow1)
    | (at_builtin; refine wpList_append_row rfl _ _ rfl w.heap.size (.slice Y1 n1 j1) L1 [x] n1 HL1.out rfl (hown1.alloc _) (some ⟨w1.heap.size, 0, none⟩) 1 1 rfl rfl (sr_one _ _) b2 ?d3 (n1 + 1) rfl ?_; (case d3 => (have := hgrow1.size; simp at this ⊢; omega)); intro Y2 j2 w2 hown2 hgrow2))
  have hb1 : Below w.heap.size w w1 := hb0.grown hgrow1 (by simp) (fun k hk => (hown0.lt k hk).1)
  have hb2 : Below w.heap.size w w2 := (hb1.alloc hb1.size _).grown hgrow2 (by have := hb1.size; simp; omega) (fun k hk => (hown1.lt k hk).1)
  clear hgrow1 hgrow2 hown0 hown1 hb0 hb1 h0 h1 hv hk1 hk2
  have hl2 := hl.below hb2
  obtain ⟨k', h0, h1, hk1, hk2⟩ := hl2.cells
  have hv := (hb2.cell (p := ⟨r, h, none⟩) hlr).trans hv0
  have hs3 := hs2.below hb2
  have hz0 : w.frozen? ⟨r, h, none⟩ = false := by obtain ⟨_, V, hV, _⟩ := hl; exact hV.frozen h
  have hq0 := (hb2.cell (p := ⟨q, 1, none⟩) hl.ltq).symm.trans h1
  have lq := hl.ltq
  go_region_law (refine step_append_row rfl _ _ rfl w.heap.size (.slice Y2 (n1 + 1) j2) (L1 ++ [x]) L2 (n1 + 1) HL3.out rfl hown2 X2 n2 k2 rfl HL2.out hs3 b3 hb2.size (n1 + 1 + n2) rfl ?_; intro Y4 j4 w4 hown4 hgrow4; have hb4 : Below w.heap.size w w4 := hb2.drew.grown hgrow4 hb2.size (fun k hk => (hown2.lt k hk).1); have hv4 := (hb4.cell (p := ⟨r, h, none⟩) hlr).trans hv0; have hz4 := (hb4.frozen (p := ⟨r, h, none⟩) hlr).trans hz0; have hq4 := (hb4.cell (p := ⟨q, 1, none⟩) lq).trans hq0)
  all_goals
    go_wp2
    go_end0
    have hl4 := (hl.below hb4).set h _ (L1 ++ [x] ++ L2) (Sl.own (by rw [show (L1 ++ [x] ++ L2).length = n1 + 1 + n2 by rw [List.length_append, HL3.out, HL2.out]]; exact hown4) hm hlr)
    rw [List.append_assoc] at hl4
    exact ⟨rfl, hl4, (Only.of_below hb4).setCell (q := ⟨r, h, none⟩) (.inl rfl) _⟩
end Go.Proofs.Ytmfjhckacmdijaa
