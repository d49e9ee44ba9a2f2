/- The document's own queues (detentref4): Add, Remove, Take, Change. -/
import Derived.Test.YtneimdjgbblaoaaRefB
namespace Go.Proofs.Ytneimdjgbblaoaa
open Go.RowKit
set_option maxRecDepth 100000

set_option maxHeartbeats 800000 in
theorem radd_any (q : Nat) (b : Bool) (L : List It) (w : World) (hl : Rq w q b L) (hg : Good b L) (id pri : Int) :
    Calls Try.prog 38 #[.pointer (some ⟨q, 0, none⟩), .int .i64 id, .int .i64 pri] w fun e w' => e = .returned (.int .i64 (addC L id pri)) ∧ Rq w' q b (addL b L id pri) ∧ Only q w w' := by
  have hn := hg.len
  unfold addC addL
  by_cases c3 : (1 ≤ id ∧ id ≤ 16) ∧ 1 ≤ pri ∧ pri ≤ 16
  · have HP := Lib.hid (rgood_any id pri w true (by simpa using c3))
    rw [if_pos c3]
    by_cases c4 : pos L id < L.length
    · have HH := Lib.hid (rat_any q b L w hl hn id (pos L id : Int) (by rw [if_pos c4]))
      rw [if_pos c4, if_neg (fun h => h.2.2 c4)]
      obtain ⟨k, hk⟩ : ∃ k, pos L id = k := ⟨_, rfl⟩
      rw [hk] at HH
      clear c3 c4 hk
      go_enter Try.func38, Try.ntmps38
      go_wp2_with fail
      refine HP.out.mono ?_
      rintro e w1 ⟨rfl, rfl⟩
      go_wp2_with fail
      refine HH.out.mono ?_
      rintro e w1 ⟨rfl, rfl⟩
      go_wp2
      go_ret
      exact ⟨rfl, hl, Only.refl _ _⟩
    · have HH := Lib.hid (rat_any q b L w hl hn id (-1) (by rw [if_neg c4]))
      rw [if_neg c4, if_pos ⟨c3.1, c3.2, c4⟩]
      have HU := Lib.hid (put_any q b L (id, pri) w hl hn hg.ord id pri rfl rfl)
      clear c3 c4
      go_enter Try.func38, Try.ntmps38
      go_wp2_with fail
      refine HP.out.mono ?_
      rintro e w1 ⟨rfl, rfl⟩
      go_wp2_with fail
      refine HH.out.mono ?_
      rintro e w1 ⟨rfl, rfl⟩
      go_wp2_with fail
      refine HU.out.mono ?_
      rintro e w1 ⟨rfl, hl1, ho1⟩
      go_wp2
      go_ret
      exact ⟨rfl, hl1, ho1⟩
  · have HP := Lib.hid (rgood_any id pri w false (by simpa using c3))
    rw [if_neg c3, if_neg (fun h => c3 ⟨h.1, h.2.1⟩)]
    clear c3
    go_enter Try.func38, Try.ntmps38
    go_wp2_with fail
    refine HP.out.mono ?_
    rintro e w1 ⟨rfl, rfl⟩
    go_wp2
    go_ret
    exact ⟨rfl, hl, Only.refl _ _⟩

theorem erase_parts {L : List It} {a : Nat} (ha : a < L.length) : ∃ y, L = L.take a ++ y :: L.drop (a + 1) ∧ L.eraseIdx a = L.take a ++ L.drop (a + 1) := by
  refine ⟨L[a], ?_, List.eraseIdx_eq_take_drop_succ L a⟩
  rw [← List.drop_eq_getElem_cons ha, List.take_append_drop]

set_option maxHeartbeats 1600000 in
theorem rremove_any (q : Nat) (b : Bool) (L : List It) (w : World) (hl : Rq w q b L) (hn : L.length ≤ 16) (id : Int) :
    Calls Try.prog 54 #[.pointer (some ⟨q, 0, none⟩), .int .i64 id] w fun e w' => e = .returned (.bool (decide (pos L id < L.length))) ∧ Rq w' q b (L.eraseIdx (pos L id)) ∧ Only q w w' := by
  by_cases c4 : pos L id < L.length
  · have HH := Lib.hid (rat_any q b L w hl hn id (pos L id : Int) (by rw [if_pos c4]))
    obtain ⟨y, hL, hE⟩ := erase_parts c4
    rw [decide_eq_true c4, hE]
    obtain ⟨a, ha⟩ : ∃ a, pos L id = a := ⟨_, rfl⟩
    rw [ha] at HH hL c4 ⊢
    have hL1 : (L.take a).length = a := by rw [List.length_take]; omega
    have hL2 : (L.drop (a + 1)).length + (a + 1) = L.length := by rw [List.length_drop]; omega
    generalize L.take a = L1 at *
    generalize L.drop (a + 1) = L2 at *
    have HL1 := Lib.hid hL1
    obtain ⟨X, k, c0, c1, hs0, hk1, hk2, hz⟩ := hl.open
    have hw1 : Below w.heap.size w (w.alloc (.cells #[] 100)) := (Below.refl _ _).alloc (Nat.le_refl _) _
    subst hL
    obtain ⟨X1, _, k1, _, hA, _, hs1, _⟩ := hs0.cut hk1
    have hs0' : Sl w 100 (.slice X ((L1 ++ [y]) ++ L2).length k) ((L1 ++ [y]) ++ L2) := by simpa using hs0
    obtain ⟨_, X2, _, k2, _, hB, _, hs2⟩ := hs0'.cut (by simpa using hk1)
    have hl12 : ((L1 ++ [y]) ++ L2).length = (L1 ++ y :: L2).length := by simp
    rw [hl12] at hB
    obtain ⟨n, hnn⟩ : ∃ n, (L1 ++ y :: L2).length = n := ⟨_, rfl⟩
    rw [hnn] at hn c1 hk1 hA hB hL2 c4
    have cA := fun W => hA W (a : Int) (by rw [hL1])
    have cB := fun W => hB W ((a : Int) + 1) (by rw [List.length_append, hL1]; rfl)
    obtain ⟨n2, hn2⟩ : ∃ n2, L2.length = n2 := ⟨_, rfl⟩
    rw [hL1] at cA
    rw [hn2] at cB hL2
    have HL2 := Lib.hid hn2
    have b1 : 0 + a ≤ 100000 := by omega
    have b2 : a + n2 ≤ 100000 := by omega
    have hq1 := (hw1.cell (p := ⟨q, 1, none⟩) hl.lt).trans c1
    have HT := Lib.hid hl
    have hs1' := hs1.below hw1
    have hqlt := hl.lt
    clear hA hB hs0 hs0' hL1 hn2 hl hnn hl12 ha hE
    go_enter Try.func54, Try.ntmps54
    go_wp2_with fail
    refine HH.out.mono ?_
    rintro e w1 ⟨rfl, rfl⟩
    go_wp2_with (first
      | (at_builtin; refine wpList_append_row rfl _ _ rfl w.heap.size (.slice (some ⟨w.heap.size, 0, none⟩) 0 0) [] L1 0 rfl rfl (own0 w (Nat.le_refl _)) X1 a k1 rfl HL1.out hs1' b1 hw1.size a (Nat.zero_add _) ?_; intro Y1 j1 w1 hown1 hgrow1; have hb1 : Below w.heap.size w w1 := hw1.grown hgrow1 hw1.size (fun k hk => ((own0 w (Nat.le_refl _)).lt k hk).1); have hq2 := (hb1.cell (p := ⟨q, 1, none⟩) hqlt).trans c1; have hs3 := hs2.below hb1)
      | (at_builtin; refine wpList_append_row rfl _ _ rfl w.heap.size (.slice Y1 a j1) ([] ++ L1) L2 a HL1.out rfl hown1 X2 n2 k2 rfl HL2.out hs3 b2 hb1.size (a + n2) rfl ?_; intro Y4 j4 w4 hown4 hgrow4; have hb4 : Below w.heap.size w w4 := hb1.grown hgrow4 hb1.size (fun k hk => (hown1.lt k hk).1); have HT4 := HT.out.below hb4; obtain ⟨X5, k5, _, hc5, _, _, _, hz5⟩ := HT4.open))
    go_ret
    have hlen : (L1 ++ L2).length = a + n2 := by rw [List.length_append, HL1.out, HL2.out]
    obtain ⟨X6, k6, e6, h61, h62⟩ := own_form hown4
    injection e6 with e6 _ e7
    subst e6 e7
    exact ⟨rfl, HT4.set (L' := L1 ++ L2) Y4 (a + n2) j4 hlen (Sl.own hlen (by simpa using hown4)) h61 h62, (Only.of_below hb4).setCell (q := ⟨q, 1, none⟩) (.inl rfl) _⟩
  · have HH := Lib.hid (rat_any q b L w hl hn id (-1) (by rw [if_neg c4]))
    rw [decide_eq_false c4, List.eraseIdx_of_length_le (by omega)]
    clear c4
    go_enter Try.func54, Try.ntmps54
    go_wp2_with fail
    refine HH.out.mono ?_
    rintro e w1 ⟨rfl, rfl⟩
    go_wp2
    go_ret
    exact ⟨rfl, hl, Only.refl _ _⟩

theorem own_keep {w w' : World} {B n : Nat} {v : Value} {xs : List Value} (h : w.ownsRow B 100 2 v n xs) (k : ∀ g, B ≤ g → w'.heap[g]? = w.heap[g]?) : w'.ownsRow B 100 2 v n xs := by
  refine ⟨h.1, ?_⟩
  rcases h.2 with h2 | ⟨g, cap, cur, h1, h2, h3, h4⟩
  · exact .inl h2
  · exact .inr ⟨g, cap, cur, h1, h2, (k g h2).trans h3, h4⟩

/-- the row that a call owns, with its block -/
theorem own_block {w : World} {B n : Nat} {X : Option Addr} {k : Nat} {L : List It} (hn : L.length = n) (h0 : 0 < n) (h : w.ownsRow B 100 2 (.slice X n k) n (vals L)) :
    ∃ g cur, X = some ⟨g, 0, none⟩ ∧ B ≤ g ∧ w.heap[g]? = some (.cells cur 100 (0, 0)) ∧ n ≤ k ∧ k ≤ 9223372036854775807 ∧ ∀ (j : Nat) (x : It), L[j]? = some x → cur[j * 2]? = some (.int .i64 x.1) ∧ cur[j * 2 + 1]? = some (.int .i64 x.2) := by
  have hs := Sl.own hn h
  rcases h.2 with ⟨_, h1⟩ | ⟨g, cap, cur, h1, h2, h3, h4, h5, _⟩
  · omega
  · injection h1 with h1 _ h6
    subst h1 h6
    rcases hs with ⟨hv, _⟩ | ⟨g', o', k', cs', hv, _, hk', hh, hc⟩
    · cases hv
    · injection hv with hv
      injection hv with hv
      injection hv with e1 e2
      subst e1 e2
      rw [h3] at hh
      injection hh with hh
      injection hh with hh
      subst hh
      exact ⟨g, cur, rfl, h2, h3, h4, by simp [maxLen] at h5; omega, fun j x hx => by simpa using hc j x hx⟩

set_option maxHeartbeats 1600000 in
theorem rchange_any (q : Nat) (b : Bool) (L : List It) (w : World) (hl : Rq w q b L) (hg : Good b L) (id pri : Int) :
    Calls Try.prog 56 #[.pointer (some ⟨q, 0, none⟩), .int .i64 id, .int .i64 pri] w fun e w' => e = .returned (.bool (chgOk L id pri)) ∧ Rq w' q b (chgL b L id pri) ∧ Only q w w' := by
  have hn := hg.len
  unfold chgOk chgL
  by_cases hp : pos L id < L.length
  · have HF := Lib.hid (rat_any q b L w hl hn id (pos L id : Int) (by rw [if_pos hp]))
    by_cases c3 : 1 ≤ pri ∧ pri ≤ 16
    · have i1 : pos L id < L.length ∧ 1 ≤ pri ∧ pri ≤ 16 := ⟨hp, c3⟩
      rw [if_pos i1, decide_eq_true i1]
      have t1 : decide (pri < 1) = false := by simp; omega
      have t2 : decide (16 < pri) = false := by simp; omega
      cases b with
      | true =>
        rw [if_pos rfl]
        have HR := Lib.hid (rremove_any q true L w hl hn id)
        have HG := Lib.hid (hg.erase (pos L id))
        obtain ⟨X, k, c0, c1, hs0, hk1, hk2, hz⟩ := hl.open
        obtain ⟨a, ha⟩ : ∃ a, pos L id = a := ⟨_, rfl⟩
        rw [ha] at HF HR HG ⊢
        clear hp c3 i1 hl hg hs0 hk1 c1 hz ha
        go_enter Try.func56, Try.ntmps56
        go_wp2_with fail
        refine HF.out.mono ?_
        rintro e w1 ⟨rfl, rfl⟩
        go_wp2_with fail
        refine HR.out.mono ?_
        rintro e w1 ⟨rfl, hl1, ho1⟩
        clear c0
        go_wp2_with fail
        refine (put_any q true (L.eraseIdx a) (id, pri) w1 hl1 HG.out.len HG.out.ord id pri rfl rfl).mono ?_
        rintro e w2 ⟨rfl, hl2, ho2⟩
        go_wp2
        go_ret
        exact ⟨rfl, hl2, ho1.trans ho2⟩
      | false =>
        rw [if_neg (by simp)]
        obtain ⟨p0, hp0⟩ := pos_at hp
        obtain ⟨X, k, c0, c1, hs0, hk1, hk2, hz⟩ := hl.open
        have hs1 := hs0.src
        obtain ⟨a, ha⟩ : ∃ a, pos L id = a := ⟨_, rfl⟩
        obtain ⟨n, hnn⟩ : ∃ n, L.length = n := ⟨_, rfl⟩
        rw [ha] at HF hp0 hp ⊢
        rw [hnn] at c1 hk1 hn hp
        have HNN := Lib.hid hnn
        have HP0 := Lib.hid hp0
        have hw1 : Below w.heap.size w (w.alloc (.cells #[] 100)) := (Below.refl _ _).alloc (Nat.le_refl _) _
        have hs2 := hs1.below hw1
        have c1' := (hw1.cell (p := ⟨q, 1, none⟩) hl.lt).trans c1
        have b1 : 0 + n ≤ 100000 := by omega
        have ia : (a : Int) < (n : Int) := by omega
        have HT := Lib.hid hl
        have hqw := hl.lt
        clear c3 i1 hg hs0 hs1 hnn hp0 ha hl
        go_enter Try.func56, Try.ntmps56
        go_wp2_with fail
        refine HF.out.mono ?_
        rintro e w1 ⟨rfl, rfl⟩
        go_wp2_with (at_builtin; refine wpList_append_row rfl _ _ rfl w.heap.size (.slice (some ⟨w.heap.size, 0, none⟩) 0 0) [] L 0 rfl rfl (own0 w (Nat.le_refl _)) X n k rfl HNN.out hs2 b1 hw1.size n (Nat.zero_add _) ?_; intro Y4 j4 w4 hown4 hgrow4; have hb4 : Below w.heap.size w w4 := hw1.grown hgrow4 hw1.size (fun k hk => ((own0 w (Nat.le_refl _)).lt k hk).1); have HT4 := HT.out.below hb4; obtain ⟨X5, k5, h5, hs5, _, _⟩ := HT4; have hc5 : w4.cell? ⟨q, 1, none⟩ = some (.slice X5 L.length k5) := (by rw [cell_of_row w4 q 1 _ 93 (0, 0) h5]; rfl); have hz5 : w4.frozen? ⟨q, 1, none⟩ = false := frozen_of_row w4 q 1 _ 93 h5; obtain ⟨g, cur, rfl, hgB, hgc, hgk, hgk2, hcur⟩ := own_block HNN.out (by omega) hown4; have hgq : g ≠ q := (by omega); have hg5 := (Below.heap_setCell w4 ⟨q, 1, none⟩ (.slice (some ⟨g, 0, none⟩) n j4) g hgq).trans hgc; have hq5 := heap_setCell_same w4 q 1 _ 93 (.slice (some ⟨g, 0, none⟩) n j4) h5; have e1 : (w4.setCell ⟨q, 1, none⟩ (.slice (some ⟨g, 0, none⟩) n j4)).cell? ⟨q, 1, none⟩ = some (.slice (some ⟨g, 0, none⟩) n j4) := (by rw [cell_of_row _ q 1 _ 93 (0, 0) hq5]; rfl); have e2 := (cell_of_row _ g (a * 2 + 1) _ 100 (0, 0) hg5).trans (hcur a (id, p0) HP0.out).2; have e3 := frozen_of_row _ g (a * 2 + 1) _ 100 hg5)
        go_ret
        have hcz : a * 2 + 1 < cur.size := (Array.getElem?_eq_some_iff.1 (hcur a (id, p0) HP0.out).2).1
        refine ⟨rfl, ?_, ((Only.of_below hb4).setCell (q := ⟨q, 1, none⟩) (.inl rfl) _).setCell (q := ⟨g, a * 2 + 1, none⟩) (.inr hgB) _⟩
        have hn' := HNN.out
        subst hn'
        refine ⟨some ⟨g, 0, none⟩, j4, ?_, .inr ⟨g, 0, j4, _, by rw [List.length_set], by rw [List.length_set]; exact hgk, hgk2, heap_setCell_same _ g (a * 2 + 1) cur 100 _ hg5, fun j y hy => ?_⟩, by rw [List.length_set]; exact hgk, hgk2⟩
        · rw [List.length_set]
          exact (Below.heap_setCell _ ⟨g, a * 2 + 1, none⟩ _ q (Ne.symm hgq)).trans hq5
        · rw [List.getElem?_set] at hy
          rw [Nat.zero_add]
          by_cases e : a = j
          · subst e
            rw [if_pos rfl, if_pos hp] at hy
            injection hy with hy
            subst hy
            have := (hcur a (id, p0) HP0.out).1
            constructor
            · rw [Array.getElem?_setIfInBounds, if_neg (by omega)]; exact this
            · rw [Array.getElem?_setIfInBounds, if_pos rfl, if_pos hcz]
          · rw [if_neg e] at hy
            have := hcur j y hy
            rw [Array.getElem?_setIfInBounds, if_neg (by omega), Array.getElem?_setIfInBounds, if_neg (by omega)]
            exact this
    · rw [if_neg (fun h => c3 h.2), decide_eq_false (fun h => c3 h.2)]
      obtain ⟨a, ha⟩ : ∃ a, pos L id = a := ⟨_, rfl⟩
      rw [ha] at HF
      by_cases c5 : pri < 1
      · clear hp c3 ha
        go_enter Try.func56, Try.ntmps56
        go_wp2_with fail
        refine HF.out.mono ?_
        rintro e w1 ⟨rfl, rfl⟩
        go_wp2
        go_ret
        exact ⟨rfl, hl, Only.refl _ _⟩
      · have t1 : decide (pri < 1) = false := by simpa using c5
        have t2 : 16 < pri := by omega
        clear hp c3 ha c5
        go_enter Try.func56, Try.ntmps56
        go_wp2_with fail
        refine HF.out.mono ?_
        rintro e w1 ⟨rfl, rfl⟩
        go_wp2
        go_ret
        exact ⟨rfl, hl, Only.refl _ _⟩
  · have HF := Lib.hid (rat_any q b L w hl hn id (-1) (by rw [if_neg hp]))
    rw [if_neg (fun h => hp h.1), decide_eq_false (fun h => hp h.1)]
    clear hp
    go_enter Try.func56, Try.ntmps56
    go_wp2_with fail
    refine HF.out.mono ?_
    rintro e w1 ⟨rfl, rfl⟩
    go_wp2
    go_ret
    exact ⟨rfl, hl, Only.refl _ _⟩

set_option maxHeartbeats 800000 in
theorem rtake_none (q : Nat) (b : Bool) (w : World) (hl : Rq w q b []) :
    Calls Try.prog 42 #[.pointer (some ⟨q, 0, none⟩)] w fun e w' => e = .returned (.tuple #[.agg #[.int .i64 0, .int .i64 0], .bool false]) ∧ Below w.heap.size w w' := by
  have hw1 : Below w.heap.size w (w.alloc (.cells #[.int .i64 0, .int .i64 0] 100)) := (Below.refl _ _).alloc (Nat.le_refl _) _
  obtain ⟨X, k, c0, c1, hs0, hk1, hk2, hz⟩ := (hl.below hw1).open
  clear hl hs0
  go_enter Try.func42, Try.ntmps42
  go_wp2
  (try simp only [Exit.inBlock, Exit.then]); refine bodyPost_ret (ret_ritem rfl _ _ _ _ _ _ rfl (heap_alloc_new w _)) rfl ?_
  exact ⟨rfl, (Below.refl _ _).alloc (Nat.le_refl _) _⟩

set_option maxHeartbeats 1600000 in
theorem rtake_some (q : Nat) (b : Bool) (x : It) (L : List It) (w : World) (hl : Rq w q b (x :: L)) (hn : (x :: L).length ≤ 16) :
    Calls Try.prog 42 #[.pointer (some ⟨q, 0, none⟩)] w fun e w' => e = .returned (.tuple #[.agg #[.int .i64 x.1, .int .i64 x.2], .bool true]) ∧ Rq w' q b L ∧ Only q w w' := by
  have hw1 : Below w.heap.size w (w.alloc (.cells #[.int .i64 0, .int .i64 0] 100)) := (Below.refl _ _).alloc (Nat.le_refl _) _
  have hl1 := hl.below hw1
  have hx1 := box_new w 100 (.int .i64 0) (.int .i64 0)
  obtain ⟨X, k, c0, c1, hs0, hk1, hk2, hz⟩ := hl1.open
  obtain ⟨g, o, rfl, hcl⟩ := sl_open hs0 (by simp)
  have e0 := (hcl 0 x rfl).1
  have e1 := (hcl 0 x rfl).2
  simp only [Nat.zero_mul, Nat.add_zero] at e0 e1
  have hcut : Sl (w.alloc (.cells #[.int .i64 0, .int .i64 0] 100)) 100 (.slice (some ⟨g, o, none⟩) ([x] ++ L).length k) ([x] ++ L) := hs0
  obtain ⟨_, X2, _, k2, _, hB, _, hs2⟩ := hcut.cut hk1
  have cB := fun W => hB W 1 rfl
  have hlen : (x :: L).length = L.length + 1 := rfl
  have hlen2 : ([x] ++ L).length = L.length + 1 := rfl
  rw [hlen] at c1 hk1 hn
  rw [hlen2] at cB
  obtain ⟨n, hnn⟩ : ∃ n, L.length = n := ⟨_, rfl⟩
  rw [hnn] at c1 hk1 hn cB
  have HNN := Lib.hid hnn
  have b1 : 0 + n ≤ 100000 := by omega
  obtain ⟨N, hN⟩ : ∃ N, n + 1 = N := ⟨_, rfl⟩
  rw [hN] at c1 hk1 hn cB
  have i0 : (0 : Int) < (N : Int) := by omega
  have i1 : ((N : Int) == 0) = false := by simp; omega
  have i2 : ¬ N = 0 := by omega
  have hqlt := hl1.lt
  have hqw := hl.lt
  clear hs0 hcut hB hcl hnn hlen hlen2
  have hwb := (Below.refl (w.alloc (.cells #[.int .i64 0, .int .i64 0] 100)).heap.size _).alloc (Nat.le_refl _) (.cells #[.int .i64 x.1, .int .i64 x.2] 100)
  have hrb := box_new (w.alloc (.cells #[.int .i64 0, .int .i64 0] 100)) 100 (.int .i64 x.1) (.int .i64 x.2)
  have hxb := hx1.below hwb
  have hlb := hl1.below hwb
  have hob := (hw1.alloc (by rw [size_alloc]; omega) (.cells #[.int .i64 x.1, .int .i64 x.2] 100))
  have hrg : (w.alloc (.cells #[.int .i64 0, .int .i64 0] 100)).heap.size ≠ w.heap.size := by rw [size_alloc]; omega
  have hgq : w.heap.size ≠ q := by omega
  have hrq : (w.alloc (.cells #[.int .i64 0, .int .i64 0] 100)).heap.size ≠ q := by rw [size_alloc]; omega
  have hs3 := (hs2.below hwb).below ((Below.refl _ _).alloc (Nat.le_refl _) (.cells #[] 100))
  have c1b := (hwb.cell (p := ⟨q, 1, none⟩) hqlt).trans c1
  have c1c : ((w.alloc (.cells #[.int .i64 0, .int .i64 0] 100)).alloc (.cells #[.int .i64 x.1, .int .i64 x.2] 100) |>.alloc (.cells #[] 100)).cell? ⟨q, 1, none⟩ = _ := (Below.cell ((Below.refl _ _).alloc (Nat.le_refl _) (.cells #[] 100)) (p := ⟨q, 1, none⟩) hlb.lt).trans c1b
  have how := own0 ((w.alloc (.cells #[.int .i64 0, .int .i64 0] 100)).alloc (.cells #[.int .i64 x.1, .int .i64 x.2] 100)) (Nat.le_refl _)
  have hbc := (Below.refl ((w.alloc (.cells #[.int .i64 0, .int .i64 0] 100)).alloc (.cells #[.int .i64 x.1, .int .i64 x.2] 100)).heap.size _).alloc (Nat.le_refl _) (.cells #[] 100)
  clear hl hl1 hx1 hs2 hw1
  generalize hWA : w.alloc (.cells #[.int .i64 0, .int .i64 0] 100) = wa at *
  generalize hWB : wa.alloc (.cells #[.int .i64 x.1, .int .i64 x.2] 100) = wb at *
  generalize hWC : wb.alloc (.cells #[] 100) = wc at *
  generalize hGR : w.heap.size = gr at *
  generalize hR : wa.heap.size = r at *
  generalize hBB : wb.heap.size = B at *
  have hBc : B ≤ wc.heap.size := by rw [← hBB]; exact hbc.size
  go_enter Try.func42, Try.ntmps42
  go_wp2_with (at_builtin; refine wpList_append_row rfl _ _ rfl B (.slice (some ⟨B, 0, none⟩) 0 0) [] L 0 rfl rfl how X2 n k2 rfl HNN.out hs3 b1 hBc n (Nat.zero_add _) ?_; intro Y4 j4 w4 hown4 hgrow4; have hb4 : Below B wb w4 := hbc.grown hgrow4 hBc (fun k hk => (how.lt k hk).1); have hb4' : Below wb.heap.size wb w4 := (by rw [hBB]; exact hb4); have HT4 := hlb.below hb4'; obtain ⟨X5, k5, _, hc5, _, _, _, hz5⟩ := HT4.open; have hr5 := (hrb.below hb4').other ⟨q, 1, none⟩ (.slice Y4 n j4) hrq; have hx5 := (hxb.below hb4').other ⟨q, 1, none⟩ (.slice Y4 n j4) hgq; have r0 := hr5.c0; have r1 := hr5.c1; have x0 := hx5.c0; have y0 := hx5.fz 0; have hx6 := hx5.set0 (.int .i64 x.1); have x1 := hx6.c1; have y1 := hx6.fz 1)
  have hq7 := hx6.set1 (.int .i64 x.2)
  (try simp only [Exit.inBlock, Exit.then]); refine bodyPost_ret (ret_ritem rfl _ _ _ _ _ _ rfl hq7) rfl ?_
  obtain ⟨X6, k6, e6, h61, h62⟩ := own_form hown4
  injection e6 with e6 _ e7
  subst e6 e7
  have hgB : gr < B := by rw [← hBB]; exact hxb.lt
  have hqB : q < B := by rw [← hBB]; exact hlb.lt
  have hbw : Below gr w w4 := hob.trans (hb4.mono (by rw [← hBB, ← hGR]; exact hob.size))
  refine ⟨rfl, ?_, ?_⟩
  · obtain ⟨X9, c9, h9, _⟩ := HT4
    have hL : ([] ++ L : List It).length = n := HNN.out
    have hn' := HNN.out
    subst hn'
    refine ⟨Y4, j4, ?_, Sl.own rfl (own_keep (by simpa using hown4) fun u hu => ?_), h61, h62⟩
    · exact (Below.heap_setCell _ ⟨gr, 1, none⟩ _ q (Ne.symm hgq)).trans ((Below.heap_setCell _ ⟨gr, 0, none⟩ _ q (Ne.symm hgq)).trans (heap_setCell_same w4 q 1 _ 93 _ h9))
    · exact (Below.heap_setCell _ ⟨gr, 1, none⟩ _ u (by simp only; omega)).trans ((Below.heap_setCell _ ⟨gr, 0, none⟩ _ u (by simp only; omega)).trans (Below.heap_setCell _ ⟨q, 1, none⟩ _ u (by simp only; omega)))
  · exact (((Only.of_below (p := q) (by rw [hGR]; exact hbw)).setCell (q := ⟨q, 1, none⟩) (.inl rfl) _).setCell (q := ⟨gr, 0, none⟩) (.inr (by rw [hGR]; exact Nat.le_refl _)) _).setCell (q := ⟨gr, 1, none⟩) (.inr (by rw [hGR]; exact Nat.le_refl _)) _
end Go.Proofs.Ytneimdjgbblaoaa
