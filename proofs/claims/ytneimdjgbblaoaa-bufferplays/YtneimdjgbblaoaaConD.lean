/- Contracts of package order: Remove, Add, Change, Take. -/
import Derived.Test.YtneimdjgbblaoaaConC
import Derived.Deep.RegionWith
namespace Go.Proofs.Ytneimdjgbblaoaa
open Go.RowKit
set_option maxRecDepth 100000
variable {O : Nat} {X : Nat → Option Value}

set_option maxHeartbeats 400000 in
theorem remove_any (p T : Nat) (b : Bool) (L : List It) (w : World) (hl : Ln O X w p T b L) (hn : L.length ≤ 16) (id : Int) :
    Calls Try.prog 53 #[.pointer (some ⟨p, O, none⟩), .int .i64 id] w fun e w' => e = .returned (.bool (decide (pos L id < L.length))) ∧ Ln O X w' p T b (L.eraseIdx (pos L id)) ∧ Only p w w' := by
  by_cases hp : pos L id < L.length
  · have HF := Lib.hid (find_any p T b L w hl hn id (pos L id : Int) true (by unfold fnd; rw [if_pos hp]) (by simpa using hp))
    rw [decide_eq_true hp]
    have HP := Lib.hid hp
    clear hp
    go_enter Try.func53, Try.ntmps53
    go_wp2_with fail
    refine HF.out.mono ?_
    rintro e w1 ⟨rfl, hb⟩
    have hl1 := hl.below hb
    go_wp2_with fail
    refine (removeAt_ok p T (pos L id) b L w1 hl1 HP.out hn _ rfl).mono ?_
    rintro e w2 ⟨rfl, hl2, ho2⟩
    go_wp2
    go_ret
    exact ⟨rfl, hl2, (Only.of_below hb).trans ho2⟩
  · have HF := Lib.hid (find_any p T b L w hl hn id 0 false (by unfold fnd; rw [if_neg hp]) (by simpa using hp))
    rw [decide_eq_false hp, List.eraseIdx_of_length_le (by omega)]
    clear hp
    go_enter Try.func53, Try.ntmps53
    go_wp2_with fail
    refine HF.out.mono ?_
    rintro e w1 ⟨rfl, hb⟩
    have hl1 := hl.below hb
    go_wp2
    go_ret
    exact ⟨rfl, hl1, Only.of_below hb⟩

set_option maxHeartbeats 800000 in
theorem add_any (p T : Nat) (b : Bool) (L : List It) (w : World) (hl : Ln O X w p T b L) (hg : Good b L) (id pri : Int) :
    Calls Try.prog 44 #[.pointer (some ⟨p, O, none⟩), .int .i64 id, .int .i64 pri] w fun e w' => e = .returned (.int .i64 (addC L id pri)) ∧ Ln O X w' p T b (addL b L id pri) ∧ Only p w w' := by
  have hn := hg.len
  unfold addC addL
  by_cases c1 : id < 1
  · rw [if_neg (by omega), if_neg (by omega)]
    go_enter Try.func44, Try.ntmps44
    go_wp2
    go_ret
    exact ⟨rfl, hl, Only.refl _ _⟩
  have t1 : decide (id < 1) = false := by simpa using c1
  by_cases c2 : 16 < id
  · rw [if_neg (by omega), if_neg (by omega)]
    go_enter Try.func44, Try.ntmps44
    go_wp2
    go_ret
    exact ⟨rfl, hl, Only.refl _ _⟩
  have t2 : decide (16 < id) = false := by simpa using c2
  by_cases c3 : 1 ≤ pri ∧ pri ≤ 16
  · have HP := Lib.hid (permitted_any pri w true (by simpa using c3))
    have i1 : (1 ≤ id ∧ id ≤ 16) ∧ 1 ≤ pri ∧ pri ≤ 16 := by omega
    rw [if_pos i1]
    by_cases c4 : pos L id < L.length
    · have HH := Lib.hid (has_any p T b L w hl hn id true (by simpa using c4))
      rw [if_pos c4, if_neg (fun h => h.2.2 c4)]
      clear c1 c2 c3 c4 i1
      go_enter Try.func44, Try.ntmps44
      go_wp2_with fail
      refine HP.out.mono ?_
      rintro e w1 ⟨rfl, rfl⟩
      go_wp2_with fail
      refine HH.out.mono ?_
      rintro e w1 ⟨rfl, hb⟩
      go_wp2
      go_ret
      exact ⟨rfl, hl.below hb, Only.of_below hb⟩
    · have HH := Lib.hid (has_any p T b L w hl hn id false (by simpa using c4))
      rw [if_neg c4, if_pos ⟨i1.1, i1.2, c4⟩]
      have HR := Lib.hid (hg.room i1.1 (not_pos c4))
      clear c1 c2 c3 c4 i1
      go_enter Try.func44, Try.ntmps44
      go_wp2_with fail
      refine HP.out.mono ?_
      rintro e w1 ⟨rfl, rfl⟩
      go_wp2_with fail
      refine HH.out.mono ?_
      rintro e w1 ⟨rfl, hb⟩
      have hl1 := hl.below hb
      clear hl HP HH t1 t2
      go_wp2_with fail
      have hlw : Ln O X w1.drew p T b L := hl1
      go_region_with (first
        | (go_at_call 75; refine (place_any p T b L _ hlw hn pri _ rfl).mono ?_; rintro e w2 ⟨rfl, hb2⟩; have hl2 := hlw.below hb2)
        | (go_at_call 74; refine (insertAt_ok p T (plc b L pri) b L (id, pri) _ hl2 (plc_le _ _ _) HR.out _ _ rfl rfl).mono ?_; rintro e w3 ⟨rfl, hl3, ho3⟩))
      go_wp2
      go_ret
      exact ⟨rfl, hl3, ((Only.of_below hb).drew.trans (Only.of_below hb2)).trans ho3⟩
  · have HP := Lib.hid (permitted_any pri w false (by simpa using c3))
    rw [if_neg (by omega), if_neg (by omega)]
    clear c1 c2 c3
    go_enter Try.func44, Try.ntmps44
    go_wp2_with fail
    refine HP.out.mono ?_
    rintro e w1 ⟨rfl, rfl⟩
    go_wp2
    go_ret
    exact ⟨rfl, hl, Only.refl _ _⟩

set_option maxHeartbeats 800000 in
theorem change_any (p T : Nat) (b : Bool) (L : List It) (w : World) (hl : Ln O X w p T b L) (hg : Good b L) (id pri : Int) :
    Calls Try.prog 55 #[.pointer (some ⟨p, O, none⟩), .int .i64 id, .int .i64 pri] w fun e w' => e = .returned (.bool (chgOk L id pri)) ∧ Ln O X w' p T b (chgL b L id pri) ∧ Only p w w' := by
  have hn := hg.len
  unfold chgOk chgL
  by_cases hp : pos L id < L.length
  · have HF := Lib.hid (find_any p T b L w hl hn id (pos L id : Int) true (by unfold fnd; rw [if_pos hp]) (by simpa using hp))
    by_cases c3 : 1 ≤ pri ∧ pri ≤ 16
    · have i1 : pos L id < L.length ∧ 1 ≤ pri ∧ pri ≤ 16 := ⟨hp, c3⟩
      have HP := Lib.hid (fun W => permitted_any pri W true (by simpa using c3))
      rw [if_pos i1, decide_eq_true i1]
      obtain ⟨q, hq⟩ := pos_at hp
      have HQ := Lib.hid hq
      have HH := Lib.hid hp
      clear hp hq c3 i1
      obtain ⟨k, hk⟩ : ∃ k, pos L id = k := ⟨_, rfl⟩
      rw [hk] at HF HQ HH ⊢
      have k16 : k < 16 := by have := HH.out; omega
      clear hk
      cases b with
      | false =>
        rw [if_neg (by simp)]
        go_enter Try.func55, Try.ntmps55
        go_wp2_with fail
        refine HF.out.mono ?_
        rintro e w1 ⟨rfl, hb⟩
        obtain ⟨f, hl1, r⟩ := hl.below hb
        have HR := Lib.hid r
        clear hl HF r
        go_wp2_with fail
        refine (HP.out w1).mono ?_
        rintro e w2 ⟨rfl, rfl⟩
        have h1 := hl1.flag
        have hy := hl1.at_ (a := O + k * 2 + 1) (i := k * 2 + 1) (by omega) (by omega)
        have hyz := hl1.frozen (O + k * 2 + 1)
        have HL := Lib.hid (hl1.set (O + k * 2 + 1) (k * 2 + 1) pri (by omega) (by omega))
        have HO := Lib.hid ((Only.of_below (p := p) hb).setCell (q := ⟨p, O + k * 2 + 1, none⟩) (.inl rfl) (.int .i64 pri))
        have ik : (k : Int) < 16 := by omega
        clear hl1 hb HP
        go_wp2
        go_ret
        refine ⟨rfl, ⟨_, by rw [List.length_set]; exact HL.out, fun j x hx => ?_⟩, HO.out⟩
        rw [List.getElem?_set] at hx
        by_cases e : k = j
        · subst e
          rw [if_pos rfl, if_pos HH.out] at hx
          injection hx with hx
          subst hx
          have := HR.out _ _ HQ.out
          exact ⟨by rw [if_neg (by omega)]; exact this.1, by rw [if_pos rfl]⟩
        · rw [if_neg e] at hx
          have := HR.out j x hx
          rw [if_neg (by omega), if_neg (by omega)]; exact this
      | true =>
        rw [if_pos rfl]
        have HE := Lib.hid (show (L.eraseIdx k).length < 16 by rw [List.length_eraseIdx_of_lt HH.out]; have := HH.out; omega)
        go_enter Try.func55, Try.ntmps55
        go_wp2_with fail
        refine HF.out.mono ?_
        rintro e w1 ⟨rfl, hb⟩
        have hl1 := hl.below hb
        have h1 : w1.cell? ⟨p, O + 33, none⟩ = some (.bool true) := by obtain ⟨f, hl1, _⟩ := hl1; exact hl1.flag
        clear hl HF
        go_wp2_with fail
        refine (HP.out w1).mono ?_
        rintro e w2 ⟨rfl, rfl⟩
        clear HP
        go_wp2_with fail
        refine (removeAt_ok p T k true L w1 hl1 HH.out hn _ rfl).mono ?_
        rintro e w2 ⟨rfl, hl2, ho2⟩
        clear h1 hl1
        go_wp2_with fail
        have hlw : Ln O X w2.drew p T true (L.eraseIdx k) := hl2
        go_region_with (first
          | (go_at_call 75; refine (place_any p T true (L.eraseIdx k) _ hlw (Nat.le_of_lt HE.out) pri _ rfl).mono ?_; rintro e w3 ⟨rfl, hb3⟩; have hl3 := hlw.below hb3)
          | (go_at_call 74; refine (insertAt_ok p T (plc true (L.eraseIdx k) pri) true (L.eraseIdx k) (id, pri) _ hl3 (plc_le _ _ _) HE.out _ _ rfl rfl).mono ?_; rintro e w4 ⟨rfl, hl4, ho4⟩))
        go_wp2
        go_ret
        exact ⟨rfl, hl4, ((((Only.of_below hb).trans ho2).drew).trans (Only.of_below hb3)).trans ho4⟩
    · have HP := Lib.hid (fun W => permitted_any pri W false (by simpa using c3))
      rw [if_neg (fun h => c3 h.2), decide_eq_false (fun h => c3 h.2)]
      clear hp c3
      go_enter Try.func55, Try.ntmps55
      go_wp2_with fail
      refine HF.out.mono ?_
      rintro e w1 ⟨rfl, hb⟩
      go_wp2_with fail
      refine (HP.out w1).mono ?_
      rintro e w2 ⟨rfl, rfl⟩
      go_wp2
      go_ret
      exact ⟨rfl, hl.below hb, Only.of_below hb⟩
  · have HF := Lib.hid (find_any p T b L w hl hn id 0 false (by unfold fnd; rw [if_neg hp]) (by simpa using hp))
    rw [if_neg (fun h => hp h.1), decide_eq_false (fun h => hp h.1)]
    clear hp
    go_enter Try.func55, Try.ntmps55
    go_wp2_with fail
    refine HF.out.mono ?_
    rintro e w1 ⟨rfl, hb⟩
    go_wp2
    go_ret
    exact ⟨rfl, hl.below hb, Only.of_below hb⟩

/-- a variable of two cells -/
def Box (w : World) (g : Nat) (t : TypeId) (a b : Value) : Prop := w.heap[g]? = some (.cells #[a, b] t (0, 0))
theorem Box.c0 {w : World} {g : Nat} {t : TypeId} {a b : Value} (h : Box w g t a b) : w.cell? ⟨g, 0, none⟩ = some a := by rw [cell_of_row w g 0 _ t (0, 0) h]; rfl
theorem Box.c1 {w : World} {g : Nat} {t : TypeId} {a b : Value} (h : Box w g t a b) : w.cell? ⟨g, 1, none⟩ = some b := by rw [cell_of_row w g 1 _ t (0, 0) h]; rfl
theorem Box.fz {w : World} {g : Nat} {t : TypeId} {a b : Value} (h : Box w g t a b) (i : Nat) : w.frozen? ⟨g, i, none⟩ = false := frozen_of_row w g i _ t h
theorem Box.lt {w : World} {g : Nat} {t : TypeId} {a b : Value} (h : Box w g t a b) : g < w.heap.size := lt_of_heap h
theorem Box.below {w w' : World} {g : Nat} {t : TypeId} {a b : Value} (h : Box w g t a b) (k : Below w.heap.size w w') : Box w' g t a b := (k.block g h.lt).trans h
theorem Box.only {w w' : World} {g p : Nat} {t : TypeId} {a b : Value} (h : Box w g t a b) (k : Only p w w') (hp : g ≠ p) : Box w' g t a b := (k.block g h.lt hp).trans h
theorem Box.alloc {w : World} {g : Nat} {t : TypeId} {a b : Value} (h : Box w g t a b) (o : Obj) : Box (w.alloc o) g t a b := (Below.heap_alloc w o g h.lt).trans h
theorem Box.other {w : World} {g : Nat} {t : TypeId} {a b : Value} (h : Box w g t a b) (q : Addr) (u : Value) (hq : g ≠ q.block) : Box (w.setCell q u) g t a b := (Below.heap_setCell w q u g hq).trans h
theorem Box.set0 {w : World} {g : Nat} {t : TypeId} {a b : Value} (h : Box w g t a b) (u : Value) : Box (w.setCell ⟨g, 0, none⟩ u) g t u b := heap_setCell_same w g 0 #[a, b] t u h
theorem Box.set1 {w : World} {g : Nat} {t : TypeId} {a b : Value} (h : Box w g t a b) (u : Value) : Box (w.setCell ⟨g, 1, none⟩ u) g t a u := heap_setCell_same w g 1 #[a, b] t u h
theorem box_new (w : World) (t : TypeId) (a b : Value) : Box (w.alloc (.cells #[a, b] t)) w.heap.size t a b := heap_alloc_new w _

set_option maxHeartbeats 800000 in
theorem take_none (p T : Nat) (b : Bool) (w : World) (hl : Ln O X w p T b []) :
    Calls Try.prog 39 #[.pointer (some ⟨p, O, none⟩)] w fun e w' => e = .returned (.tuple #[.agg #[.int .i64 0, .int .i64 0], .bool false]) ∧ Below w.heap.size w w' := by
  go_enter Try.func39, Try.ntmps39
  go_wp2_with fail
  have hl0 := hl.alloc (.cells #[.int .i64 0, .int .i64 0] 60)
  have hb0 := (Below.refl w.heap.size w).alloc (Nat.le_refl _) (.cells #[.int .i64 0, .int .i64 0] 60)
  have hq0 := box_new w 60 (.int .i64 0) (.int .i64 0)
  generalize w.alloc (.cells #[.int .i64 0, .int .i64 0] 60) = w0 at *
  refine (first_none p T b w0 hl0).mono ?_
  rintro e w1 ⟨rfl, hb1⟩
  have hq1 := hq0.below hb1
  have hB := hb0.trans (Below.mono hb1 hb0.size)
  clear hl hl0 hb0 hq0 hb1
  obtain ⟨g, hgs⟩ : ∃ g, w.heap.size = g := ⟨_, rfl⟩
  rw [hgs] at hq1 hB ⊢
  have hq2 := hq1.alloc (.cells #[.int .i64 0, .int .i64 0] 60)
  have hB2 := hB.alloc (Nat.le_of_lt hq1.lt) (.cells #[.int .i64 0, .int .i64 0] 60)
  have d0 := hq2.c0
  have z0 := hq2.fz 0
  have hq3 := hq2.set0 (.int .i64 0)
  have hB3 := hB2.setCell (p := ⟨g, 0, none⟩) (Nat.le_refl _) (.int .i64 0)
  have d1 := hq3.c1
  have z1 := hq3.fz 1
  have HQ := Lib.hid (hq3.set1 (.int .i64 0))
  have HB := Lib.hid (hB3.setCell (p := ⟨g, 1, none⟩) (Nat.le_refl _) (.int .i64 0))
  clear hq1 hq2 hq3 hB hB2 hB3
  go_wp2
  (try simp only [Exit.inBlock, Exit.then]); refine bodyPost_ret (ret_item rfl _ _ _ _ _ _ rfl HQ.out) rfl ?_
  exact ⟨rfl, hgs ▸ HB.out⟩

set_option maxHeartbeats 800000 in
theorem take_some (p T : Nat) (b : Bool) (x : It) (L : List It) (w : World) (hl : Ln O X w p T b (x :: L)) (hn : (x :: L).length ≤ 16) :
    Calls Try.prog 39 #[.pointer (some ⟨p, O, none⟩)] w fun e w' => e = .returned (.tuple #[.agg #[.int .i64 x.1, .int .i64 x.2], .bool true]) ∧ Ln O X w' p T b L ∧ Only p w w' := by
  have hpw := hl.lt
  go_enter Try.func39, Try.ntmps39
  go_wp2_with fail
  have hl0 := hl.alloc (.cells #[.int .i64 0, .int .i64 0] 60)
  have hb0 := (Only.refl p w).alloc (.cells #[.int .i64 0, .int .i64 0] 60)
  have hq0 := box_new w 60 (.int .i64 0) (.int .i64 0)
  generalize w.alloc (.cells #[.int .i64 0, .int .i64 0] 60) = w0 at *
  refine (first_some p T b x L w0 hl0).mono ?_
  rintro e w1 ⟨rfl, hb1⟩
  have hq1 := hq0.below hb1
  have hB := hb0.trans (Only.of_below hb1)
  have hl1 := hl0.below hb1
  clear hl hl0 hb0 hq0 hb1
  obtain ⟨g, hgs⟩ : ∃ g, w.heap.size = g := ⟨_, rfl⟩
  have hgp : g ≠ p := by omega
  rw [hgs] at hq1 ⊢
  have hq2 := hq1.alloc (.cells #[.int .i64 x.1, .int .i64 x.2] 60)
  have hr2 := box_new w1 60 (.int .i64 x.1) (.int .i64 x.2)
  have hl2 := hl1.alloc (.cells #[.int .i64 x.1, .int .i64 x.2] 60)
  have hB2 := hB.alloc (.cells #[.int .i64 x.1, .int .i64 x.2] 60)
  have hrp : w1.heap.size ≠ p := by have := hl1.lt; omega
  have hrg : w1.heap.size ≠ g := by have := hq1.lt; omega
  go_wp2_with fail
  generalize w1.alloc (.cells #[.int .i64 x.1, .int .i64 x.2] 60) = w2 at *
  generalize w1.heap.size = r at *
  clear hl1 hq1 hB
  refine (removeAt_ok p T 0 b (x :: L) w2 hl2 (by simp) hn 0 rfl).mono ?_
  rintro e w3 ⟨rfl, hl3, ho3⟩
  have hq3 := hq2.only ho3 hgp
  have hr3 := hr2.only ho3 hrp
  have hB3 := hB2.trans ho3
  clear hl2 hq2 hr2 hB2 ho3
  rw [List.eraseIdx_cons_zero] at hl3
  have r0 := hr3.c0
  have r1 := hr3.c1
  have d0 := hq3.c0
  have z0 := hq3.fz 0
  have hq4 := hq3.set0 (.int .i64 x.1)
  have hB4 := hB3.setCell (q := ⟨g, 0, none⟩) (.inr (by simp only; omega)) (.int .i64 x.1)
  have d1 := hq4.c1
  have z1 := hq4.fz 1
  have HQ := Lib.hid (hq4.set1 (.int .i64 x.2))
  have HB := Lib.hid (hB4.setCell (q := ⟨g, 1, none⟩) (.inr (by simp only; omega)) (.int .i64 x.2))
  have HL := Lib.hid (hl3.keep (w' := (w3.setCell ⟨g, 0, none⟩ (.int .i64 x.1)).setCell ⟨g, 1, none⟩ (.int .i64 x.2)) ((Below.heap_setCell _ _ _ _ (Ne.symm hgp)).trans (Below.heap_setCell _ _ _ _ (Ne.symm hgp))))
  clear hq3 hq4 hB3 hB4 hl3 hr3
  go_wp2
  (try simp only [Exit.inBlock, Exit.then]); refine bodyPost_ret (ret_item rfl _ _ _ _ _ _ rfl HQ.out) rfl ?_
  exact ⟨rfl, HL.out, HB.out⟩
end Go.Proofs.Ytneimdjgbblaoaa
