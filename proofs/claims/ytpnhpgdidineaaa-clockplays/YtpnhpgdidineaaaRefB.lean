/- The document's own timers: Insert. -/
import Derived.Test.YtpnhpgdidineaaaRefA
namespace Go.Proofs.Ytpnhpgdidineaaa
open Go.RowKit

theorem size_alloc (w0 : World) (o : Obj) : (w0.alloc o).heap.size = w0.heap.size + 1 := by show (w0.heap.push o).size = _; simp
theorem rown0 {B : Nat} (W : World) (hB : B ≤ W.heap.size) : (W.alloc (.cells #[] 89)).ownsRow B 89 3 (.slice (some ⟨W.heap.size, 0, none⟩) 0 0) 0 (vals cr []) :=
  World.ownsRow_lit W #[] 0 hB (by unfold maxLen; omega) rfl
theorem rown0d {B : Nat} (W : World) (hB : B ≤ W.heap.size) : (W.alloc (.cells #[] 89)).drew.ownsRow B 89 3 (.slice (some ⟨W.heap.size, 0, none⟩) 0 0) 0 (vals cr []) := rown0 W hB
theorem rown2 (w0 : World) (o : Obj) : ((w0.alloc (.cells #[] 89)).alloc o).drew.ownsRow w0.heap.size 89 3 (.slice (some ⟨w0.heap.size, 0, none⟩) 0 0) 0 (vals cr []) := (rown0 w0 (Nat.le_refl _)).alloc _
theorem rown3 (w0 : World) (o : Obj) : ((w0.alloc o).alloc (.cells #[] 89)).drew.ownsRow w0.heap.size 89 3 (.slice (some ⟨w0.heap.size + 1, 0, none⟩) 0 0) 0 (vals cr []) := by
  have := rown0 (B := w0.heap.size) (w0.alloc o) (by rw [size_alloc]; omega)
  rw [size_alloc] at this; exact this
theorem src1 (w0 : World) (a l g : Int) : Sr cr (w0.alloc (.cells #[.int .i64 l, .int .u64 a, .int .i64 g] 89)) (some ⟨w0.heap.size, 0, none⟩) 1 [(a, l, g)] := sr_one cr w0 89 (a, l, g)
theorem src2 (w0 : World) (a l g : Int) : Sr cr ((w0.alloc (.cells #[] 89)).alloc (.cells #[.int .i64 l, .int .u64 a, .int .i64 g] 89)).drew (some ⟨w0.heap.size + 1, 0, none⟩) 1 [(a, l, g)] := by
  have := src1 (w0.alloc (.cells #[] 89)) a l g
  rw [size_alloc] at this; exact this
theorem src3 (w0 : World) (a l g : Int) : Sr cr ((w0.alloc (.cells #[.int .i64 l, .int .u64 a, .int .i64 g] 89)).alloc (.cells #[] 89)).drew (some ⟨w0.heap.size, 0, none⟩) 1 [(a, l, g)] :=
  (src1 w0 a l g).below ((Below.refl (w0.alloc (.cells #[.int .i64 l, .int .u64 a, .int .i64 g] 89)).heap.size (w0.alloc (.cells #[.int .i64 l, .int .u64 a, .int .i64 g] 89))).alloc (Nat.le_refl _) (.cells #[] 89)).drew
theorem sr_keep {w w' : World} {b : Nat} {L : List En} (h : Sr cr w (some ⟨b, 0, none⟩) 1 L) (hs : w.heap.size ≤ w'.heap.size) (hk : w'.heap[b]? = w.heap[b]?) : Sr cr w' (some ⟨b, 0, none⟩) 1 L := by
  rcases h with ⟨h, _⟩ | ⟨b', o, h1, h2, h3⟩
  · cases h
  · injection h1 with h1; injection h1 with h1 h4; subst h1 h4
    exact .inr ⟨b, 0, rfl, Nat.lt_of_lt_of_le h2 hs, fun j u hu => by rw [World.cell?_of_block (w := w) (a := ⟨b, 0 + j, none⟩) hk]; exact h3 j u hu⟩

/-- the document's timers shut again -/
theorem rf_shut {w : World} {q n : Nat} {v : Value} {L S : List En} {last : Int} (hp : L.Perm S) (hL : L.Pairwise fun x y => x.2.1 < y.2.1) (hh : w.heap[q]? = some (.cells #[v, .int .i64 last] 64 (0, 0))) (hr : w.ownsRow 0 89 3 v n (vals cr L)) (hn : L.length = n) (hG : Good S last) : Rf w q S last := by
  subst hn
  exact ⟨⟨L, v, hp, hL, hh, hr⟩, hG⟩

set_option maxHeartbeats 400000 in
theorem rinsert_full (w : World) (q : Nat) (S : List En) (last : Int) (h : Rf w q S last) (hl : S.length = 256) (a g : Int) :
    Calls Try.prog 32 #[.pointer (some ⟨q, 0, none⟩), .int .u64 a, .int .i64 g] w fun e w' => e = .returned (.tuple #[.int .i64 0, .int .i64 (-33)]) ∧ w = w' := by
  obtain ⟨L, X, k, _, _, _, hh, _⟩ := h.open
  rw [hl] at hh
  have c0 : w.cell? ⟨q, 0, none⟩ = some (.slice X 256 k) := by rw [cell_of_row w q 0 _ 64 (0, 0) hh]; rfl
  clear h hh hl
  go_enter Try.func32, Try.ntmps32
  go_wp2
  go_ret2
  exact ⟨rfl, rfl⟩

set_option maxHeartbeats 3200000 in
theorem rinsert_ok (w : World) (q : Nat) (S : List En) (last : Int) (h : Rf w q S last) (hl : S.length < 256) (hla : last < 4611686018427387904) (a g l : Int) (hl1 : last + 1 = l) :
    Calls Try.prog 32 #[.pointer (some ⟨q, 0, none⟩), .int .u64 a, .int .i64 g] w fun e w' => e = .returned (.tuple #[.int .i64 l, .int .i64 0]) ∧ Rf w' q (ins (a, l, g) S) l ∧ Only q q w w' := by
  obtain ⟨L, X, k, hp, hL, hn, hh, hE, hk1, hk2⟩ := h.open
  obtain ⟨n, hSn⟩ : ∃ n, S.length = n := ⟨_, rfl⟩
  rw [hSn] at hh hl hn hE hk1
  have h0 := h.good.pos
  have c0 : w.cell? ⟨q, 0, none⟩ = some (.slice X n k) := by rw [cell_of_row w q 0 _ 64 (0, 0) hh]; rfl
  have c1 : w.cell? ⟨q, 1, none⟩ = some (.int .i64 last) := by rw [cell_of_row w q 1 _ 64 (0, 0) hh]; rfl
  have z1 : w.frozen? ⟨q, 1, none⟩ = false := frozen_of_row w q 1 _ 64 hh
  have hh2 := heap_setCell_same w q 1 _ 64 (.int .i64 l) hh
  have hE2 : (w.setCell ⟨q, 1, none⟩ (.int .i64 l)).ownsRow 0 89 3 (.slice X n k) n (vals cr L) := own_keep hE fun g1 cs hg1 _ => Below.heap_setCell w ⟨q, 1, none⟩ _ g1 (by rintro rfl; rw [hh] at hg1; injection hg1 with hg1; injection hg1 with _ hg2; cases hg2)
  have ho2 : Only q q w (w.setCell ⟨q, 1, none⟩ (.int .i64 l)) := (Only.refl q q w).setCell (.inl rfl) _
  obtain ⟨w2, hW2⟩ : ∃ w2, w.setCell ⟨q, 1, none⟩ (.int .i64 l) = w2 := ⟨_, rfl⟩
  rw [hW2] at hh2 hE2 ho2
  have i1 : decide ((256 : Int) ≤ (n : Int)) = false := by simp; omega
  have hsr := own_src hn hE2
  have b1 : 0 + n ≤ 100000 := by omega
  have b2 : n + 1 ≤ 100000 := by omega
  have HT := Lib.hid h
  have HN := Lib.hid hn
  have HSN := Lib.hid hSn
  have HP := Lib.hid hp
  have HLL := Lib.hid hL
  have HO2 := Lib.hid ho2
  have HB : Hid (∀ W : World, Below w2.heap.size w2 W → W.heap[q]? = some (.cells #[.slice X n k, .int .i64 l] 64 (0, 0)) ∧ W.cell? ⟨q, 0, none⟩ = some (.slice X n k) ∧ W.cell? ⟨q, 1, none⟩ = some (.int .i64 l) ∧ W.frozen? ⟨q, 0, none⟩ = false) := fun W hb => by
    have e := (hb.block q (lt_of_heap hh2)).trans hh2
    exact ⟨e, by rw [cell_of_row W q 0 _ 64 (0, 0) e]; rfl, by rw [cell_of_row W q 1 _ 64 (0, 0) e]; rfl, frozen_of_row W q 0 _ 64 e⟩
  clear h hh hE hp hL hn hSn hE2 ho2 hh2
  go_enter Try.func32, Try.ntmps32
  go_wp2
  have B0 := (Below.refl w2.heap.size w2).drew
  have B1 := ((Below.refl w2.heap.size w2).alloc (Nat.le_refl _) (.cells #[] 89)).drew
  have B2 := ((Below.refl w2.heap.size w2).alloc (Nat.le_refl _) (.cells #[.int .i64 l, .int .u64 a, .int .i64 g] 89)).drew
  have B12 := (((Below.refl w2.heap.size w2).alloc (Nat.le_refl _) (.cells #[] 89)).alloc (by rw [size_alloc]; omega) (.cells #[.int .i64 l, .int .u64 a, .int .i64 g] 89)).drew
  have B21 := (((Below.refl w2.heap.size w2).alloc (Nat.le_refl _) (.cells #[.int .i64 l, .int .u64 a, .int .i64 g] 89)).alloc (by rw [size_alloc]; omega) (.cells #[] 89)).drew
  have l0 := (HB.out _ B0).2.1
  have l1 := (HB.out _ B1).2.1
  have l2 := (HB.out _ B2).2.1
  have l12 := (HB.out _ B12).2.1
  have l21 := (HB.out _ B21).2.1
  have v0 := (HB.out _ B0).2.2.1
  have v1 := (HB.out _ B1).2.2.1
  have v2 := (HB.out _ B2).2.2.1
  have v12 := (HB.out _ B12).2.2.1
  have v21 := (HB.out _ B21).2.2.1
  go_region_law (first
      | (refine step_append_row kr (by omega) rfl _ _ rfl w2.heap.size (.slice (some ⟨w2.heap.size, 0, none⟩) 0 0) [] L 0 rfl rfl (rown0d _ (Nat.le_refl _)) X n k rfl HN.out (hsr.below B1) b1 B1.size n (Nat.zero_add _) ?_; intro Y1 j1 w3 hown1 hg1; have hb1 := B1.grown hg1 B1.size (fun k hk => by simp [Value.ownBlock] at hk; omega); have lw1 := (HB.out _ hb1).2.1; have vw1 := (HB.out _ hb1).2.2.1)
      | (refine step_append_row kr (by omega) rfl _ _ rfl w2.heap.size (.slice (some ⟨w2.heap.size, 0, none⟩) 0 0) [] L 0 rfl rfl (rown2 _ _) X n k rfl HN.out (hsr.below B12) b1 B12.size n (Nat.zero_add _) ?_; intro Y1 j1 w3 hown1 hg1; have hb1 := B12.grown hg1 B12.size (fun k hk => by simp [Value.ownBlock] at hk; omega); have hone := sr_keep (src2 w2 a l g) hg1.size (hg1.block _ (by show _ < (((w2.alloc _).alloc _).heap.size); rw [size_alloc, size_alloc]; omega) (by simp [Value.ownBlock])))
      | (refine step_append_row kr (by omega) rfl _ _ rfl w2.heap.size (.slice (some ⟨w2.heap.size + 1, 0, none⟩) 0 0) [] L 0 rfl rfl (rown3 _ _) X n k rfl HN.out (hsr.below B21) b1 B21.size n (Nat.zero_add _) ?_; intro Y1 j1 w3 hown1 hg1; have hb1 := B21.grown hg1 B21.size (fun k hk => by simp [Value.ownBlock] at hk; omega); have hone := sr_keep (src3 w2 a l g) hg1.size (hg1.block _ (by show _ < (((w2.alloc _).alloc _).heap.size); rw [size_alloc, size_alloc]; omega) (by simp [Value.ownBlock])))
      | (refine step_append_row kr (by omega) rfl _ _ rfl w2.heap.size (.slice Y1 n j1) ([] ++ L) [(a, l, g)] n HN.out rfl (hown1.alloc _) _ 1 1 rfl rfl (src1 _ a l g) b2 (hb1.alloc hb1.size _).size (n + 1) rfl ?_; intro Y2 j2 w4 hown2 hg2; have hb2 := (hb1.alloc hb1.size _).grown hg2 (hb1.alloc hb1.size _).size (fun k hk => (hown1.lt k hk).1); obtain ⟨hq5, hc5, _, hz5⟩ := HB.out _ hb2)
      | (refine step_append_row kr (by omega) rfl _ _ rfl w2.heap.size (.slice Y1 n j1) ([] ++ L) [(a, l, g)] n HN.out rfl hown1 _ 1 1 rfl rfl hone b2 hb1.size (n + 1) rfl ?_; intro Y2 j2 w4 hown2 hg2; have hb2 := hb1.grown hg2 hb1.size (fun k hk => (hown1.lt k hk).1); obtain ⟨hq5, hc5, _, hz5⟩ := HB.out _ hb2))
  all_goals
    have hq6 := heap_setCell_same w4 q 0 _ 64 (.slice Y2 (n + 1) j2) hq5
    have hown6 : (w4.setCell ⟨q, 0, none⟩ (.slice Y2 (n + 1) j2)).ownsRow w2.heap.size 89 3 (.slice Y2 (n + 1) j2) (n + 1) (vals cr ([] ++ L ++ [(a, l, g)])) := own_keep hown2 fun g1 cs hg1 _ => Below.heap_setCell w4 ⟨q, 0, none⟩ _ g1 (by rintro rfl; rw [hq5] at hg1; injection hg1 with hg1; injection hg1 with _ hg2; cases hg2)
    have HO6 := Lib.hid (((HO2.out.of_new (Only.of_below (p := q) (m := q) hb2) (.inr (.inl rfl)) (.inr (.inl rfl))).setCell (q := ⟨q, 0, none⟩) (.inl rfl) (.slice Y2 (n + 1) j2)))
    have HOWN := Lib.hid hown6
    have HQ6 := Lib.hid hq6
    have c6 : (w4.setCell ⟨q, 0, none⟩ (.slice Y2 (n + 1) j2)).cell? ⟨q, 1, none⟩ = some (.int .i64 l) := by rw [cell_of_row _ q 1 _ 64 (0, 0) hq6]; rfl
    clear hown1 hown2 hg1 hg2 hb1 hb2 B0 B1 B2 B12 B21 l0 l1 l2 l12 l21 v0 v1 v2 v12 v21 hown6 hq6
    go_wp2
    go_ret2
    refine ⟨rfl, rf_shut (L := L ++ [(a, l, g)]) ?_ ?_ HQ6.out (own_base (B := w2.heap.size) (by simpa using HOWN.out) (Nat.zero_le _)) (by rw [List.length_append, HN.out]; rfl) ?_, HO6.out⟩
    · exact ((List.perm_append_comm (l₁ := L) (l₂ := [(a, l, g)])).trans (HP.out.cons _)).trans (ins_perm _ _).symm
    · rw [List.pairwise_append]
      refine ⟨HLL.out, by simp, fun x hx y hy => ?_⟩
      simp at hy; subst hy
      have := HT.out.good.bnd x (HP.out.mem_iff.1 hx)
      show x.2.1 < l
      omega
    · rw [← hl1]; exact good_ins HT.out.good (by rw [HSN.out]; exact hl) a g
end Go.Proofs.Ytpnhpgdidineaaa
