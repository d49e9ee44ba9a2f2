/-
  detentlaw4.OrderPlays: the walk.
-/
import Derived.Test.YtklchhbkeoaloaaPlO
namespace Go.Proofs.Ytklchhbkeoaloaa.orderPlays
open Go.RowKit
set_option linter.unusedVariables false

def Post (w : World) (e : Ending) (w' : World) : Prop := e = .returned (.bool true) ∧ Below w.heap.size w w'

def PlRel (q n : Nat) (b : Bool) (w : World) (qv i : Value) (wr : World) : Prop :=
  ∃ (p t : Nat) (L : List It), t ≤ n ∧ qv = .pointer (some ⟨p, 0, none⟩) ∧ i = .int .i64 (t : Int) ∧ w.heap.size ≤ p ∧ Ln wr p 42 b L ∧ Good b L ∧ Rq wr q b L ∧ Below w.heap.size w wr

/-- the call's struct, as the law holds it -/
def Cl (w : World) (s : Nat) (x0 x1 x2 : Int) : Prop := w.heap[s]? = some (.cells #[.int .i64 x0, .int .i64 x1, .int .i64 x2] 31 (0, 0))
theorem Cl.lt {w : World} {s : Nat} {x0 x1 x2 : Int} (h : Cl w s x0 x1 x2) : s < w.heap.size := lt_of_heap h
theorem Cl.cells {w : World} {s : Nat} {x0 x1 x2 : Int} (h : Cl w s x0 x1 x2) :
    w.cell? ⟨s, 0, none⟩ = some (.int .i64 x0) ∧ w.cell? ⟨s, 1, none⟩ = some (.int .i64 x1) ∧ w.cell? ⟨s, 2, none⟩ = some (.int .i64 x2) := by
  refine ⟨?_, ?_, ?_⟩ <;> rw [cell_of_row _ _ _ _ _ _ h] <;> rfl
theorem ck_only {W W' : World} {s p : Nat} {x1 x2 : Int} (ho : Only p W W') (hs : s ≠ p) (h : W.cell? ⟨s, 1, none⟩ = some (.int .i64 x1) ∧ W.cell? ⟨s, 2, none⟩ = some (.int .i64 x2)) :
    W'.cell? ⟨s, 1, none⟩ = some (.int .i64 x1) ∧ W'.cell? ⟨s, 2, none⟩ = some (.int .i64 x2) :=
  ⟨(ho.cell (q := ⟨s, 1, none⟩) (block_lt_of_cell h.1) hs).trans h.1, (ho.cell (q := ⟨s, 2, none⟩) (block_lt_of_cell h.2) hs).trans h.2⟩

set_option maxHeartbeats 800000 in
theorem walkOut (bp : Bool) (A : Option Addr) (n cap : Nat) (w : World) (hn : n ≤ 9223372036854775807) (h : ¬ n ≤ 100) : Calls Try.prog 3 #[.bool bp, .slice A n cap] w (Post w) := by
  have t1 : (100 : Int) < (n : Int) := by omega
  have t2 : 100 < n := by omega
  go_enter Try.func3, Try.ntmps3
  go_wp2_with fail
  refine (known_ok _).mono ?_
  rintro e w0 ⟨rfl, hb0⟩
  go_wp2
  go_ret
  exact ⟨rfl, hb0⟩

set_option maxHeartbeats 6400000 in
set_option maxRecDepth 100000 in
theorem walkIn (bp : Bool) (n cap b o : Nat) (A : Option Addr) (op id pri : Nat → Int) (w : World)
    (hA : 0 < n → A = some ⟨b, o, none⟩ ∧ Acts w b o n op id pri) (hn : n ≤ 100) :
    Calls Try.prog 3 #[.bool bp, .slice A n cap] w (Post w) := by
  have t1 : decide ((100 : Int) < (n : Int)) = false := by simp; omega
  have t2 : decide (100 < n) = false := by simp; omega
  have HA := Lib.hid hA
  clear hA
  go_enter Try.func3, Try.ntmps3
  go_wp2_with fail
  refine (known_ok _).mono ?_
  rintro e w0 ⟨rfl, hb0⟩
  go_wp2_with fail
  refine (new_ok bp w0).mono ?_
  rintro e w1 ⟨p, hp, rfl, hl1, hk1⟩
  have hpw : w.heap.size ≤ p := Nat.le_trans hb0.size hp
  have hb1 := hb0.trans (hk1.mono hb0.size)
  clear hb0 hk1 hp t1 t2
  have hl2 := hl1.alloc (.cells #[.bool bp, .slice none 0 0] 29)
  have HB2 := Lib.hid (hb1.alloc hb1.size (.cells #[.bool bp, .slice none 0 0] 29))
  have hr2 : Rq (w1.alloc (.cells #[.bool bp, .slice none 0 0] 29)) w1.heap.size bp [] := ⟨none, 0, heap_alloc_new _ _, .inl ⟨rfl, rfl⟩, Nat.le_refl _, by omega⟩
  have hqw : w.heap.size ≤ w1.heap.size := hb1.size
  go_wp2
  generalize w1.alloc (.cells #[.bool bp, .slice none 0 0] 29) = w2 at *
  generalize w1.heap.size = q at *
  clear hl1 hb1
  go_loopw [5, 7] (fun qv i wr => PlRel q n bp w qv i wr) (fun _ i _ => n - (intOf i).toNat)
  case atStart => exact ⟨p, 0, [], Nat.zero_le _, rfl, rfl, hpw, hl2, good_nil _, hr2, HB2.out⟩
  case round =>
    clear hl2 hr2 HB2 hpw
    obtain ⟨p, t, L, ht, rfl, rfl, hpw, hl3, hG3, hr3, hb3⟩ := hrel
    have HB3 := Lib.hid hb3
    have HG := Lib.hid hG3
    clear hG3
    by_cases hlt : t < n
    · obtain ⟨rfl, hac⟩ := HA.out (by omega)
      have hlb := hac.hlt t hlt
      have k0 := (hb3.cell (p := ⟨b, o + t * 3, none⟩) hlb).trans (hac.c0 t hlt)
      have k1 := (hb3.cell (p := ⟨b, o + t * 3 + 1, none⟩) hlb).trans (hac.c1 t hlt)
      have k2 := (hb3.cell (p := ⟨b, o + t * 3 + 2, none⟩) hlb).trans (hac.c2 t hlt)
      clear hac hb3 hlb
      generalize op t = x0 at *
      generalize id t = x1 at *
      generalize pri t = x2 at *
      have hl4 := hl3.alloc (.cells #[.int .i64 x0, .int .i64 x1, .int .i64 x2] 31)
      have hr4 := hr3.below ((Below.refl wr.heap.size wr).alloc (Nat.le_refl _) (.cells #[.int .i64 x0, .int .i64 x1, .int .i64 x2] 31))
      have HB4 := Lib.hid (HB3.out.alloc HB3.out.size (.cells #[.int .i64 x0, .int .i64 x1, .int .i64 x2] 31))
      have cl4 : Cl (wr.alloc (.cells #[.int .i64 x0, .int .i64 x1, .int .i64 x2] 31)) wr.heap.size x0 x1 x2 := heap_alloc_new _ _
      have sp : wr.heap.size ≠ p := by have := hl3.lt; omega
      have sq : wr.heap.size ≠ q := by have := hr3.lt; omega
      clear HB3 hl3 hr3
      by_cases hop1 : x0 = 1
      · have hop := hop1
        clear hop1
        subst hop
        go_wp2
        generalize wr.alloc (.cells #[.int .i64 1, .int .i64 x1, .int .i64 x2] 31) = w4 at *
        generalize wr.heap.size = s at *
        obtain ⟨_, j1, j2⟩ := cl4.cells
        clear k0 k1 k2 cl4
        go_region_held3 (fun W => W.cell? ⟨s, 1, none⟩ = some (.int .i64 x1) ∧ W.cell? ⟨s, 2, none⟩ = some (.int .i64 x2))
          (first | exact ⟨j1, j2⟩ | exact ck_only ho6 sq (by assumption) | exact ck_only ho5 sp (by assumption) | assumption)
          (first
            | (go_at_call 12; refine (add_any p bp L _ (by exact hl4) HG.out x1 x2).mono ?_; rintro e w5 ⟨rfl, hl5, ho5⟩)
            | (go_at_call 13; refine (radd_any q bp L _ (by exact Rq.only (by exact hr4) (by exact hl4) ho5) HG.out x1 x2).mono ?_; rintro e w6 ⟨rfl, hr6, ho6⟩))
        have hl4' : Ln w4.drew p 42 bp L := hl4
        have hr4' : Rq w4.drew q bp L := hr4
        have hr5 := hr4'.only hl4' ho5
        have hl6 := ln_ronly hl5 hr5 ho6
        have HB6 := Lib.hid ((HB4.out.drew.trans (ho5.below HB4.out.size hpw)).trans (ho6.below (Nat.le_trans HB4.out.size ho5.size) hqw))
        have HG6 := Lib.hid (HG.out.addL x1 x2)
        clear hl4 hr4 hl4' hr4' hr5 hl5 ho5 ho6 HB4 j1 j2
        generalize addL bp L x1 x2 = M at *
        generalize addC L x1 x2 = c at *
        go_wp2_with fail
        refine (same_all p q bp M w6 hl6 hr6 HG6.out.len).mono ?_
        rintro e w7 ⟨rfl, hb7⟩
        have hl7 := hl6.below hb7
        have hr7 := hr6.below hb7
        have HB7 := Lib.hid (HB6.out.trans (hb7.mono HB6.out.size))
        clear hl6 hr6 HB6 hb7
        go_wp2
        go_roundw
        case rel => exact ⟨p, t + 1, M, by omega, rfl, by go_num, hpw, hl7, HG6.out, hr7, HB7.out⟩
        case measure => simp [intOf]; omega
      by_cases hop2 : x0 = 2
      · have hop := hop2
        clear hop2
        clear hop1
        subst hop
        go_wp2
        generalize wr.alloc (.cells #[.int .i64 2, .int .i64 x1, .int .i64 x2] 31) = w4 at *
        generalize wr.heap.size = s at *
        obtain ⟨_, j1, j2⟩ := cl4.cells
        clear k0 k1 k2 cl4
        go_region_held3 (fun W => W.cell? ⟨s, 1, none⟩ = some (.int .i64 x1) ∧ W.cell? ⟨s, 2, none⟩ = some (.int .i64 x2))
          (first | exact ⟨j1, j2⟩ | exact ck_only ho6 sq (by assumption) | exact ck_only ho5 sp (by assumption) | assumption)
          (first
            | (go_at_call 14; refine (remove_any p 42 bp L _ (by exact hl4) HG.out.len x1).mono ?_; rintro e w5 ⟨rfl, hl5, ho5⟩)
            | (go_at_call 15; refine (rremove_any q bp L _ (by exact Rq.only (by exact hr4) (by exact hl4) ho5) HG.out.len x1).mono ?_; rintro e w6 ⟨rfl, hr6, ho6⟩))
        have hl4' : Ln w4.drew p 42 bp L := hl4
        have hr4' : Rq w4.drew q bp L := hr4
        have hr5 := hr4'.only hl4' ho5
        have hl6 := ln_ronly hl5 hr5 ho6
        have HB6 := Lib.hid ((HB4.out.drew.trans (ho5.below HB4.out.size hpw)).trans (ho6.below (Nat.le_trans HB4.out.size ho5.size) hqw))
        have HG6 := Lib.hid (HG.out.erase (pos L x1))
        clear hl4 hr4 hl4' hr4' hr5 hl5 ho5 ho6 HB4 j1 j2
        generalize L.eraseIdx (pos L x1) = M at *
        generalize decide (pos L x1 < L.length) = c at *
        go_wp2_with fail
        refine (same_all p q bp M w6 hl6 hr6 HG6.out.len).mono ?_
        rintro e w7 ⟨rfl, hb7⟩
        have hl7 := hl6.below hb7
        have hr7 := hr6.below hb7
        have HB7 := Lib.hid (HB6.out.trans (hb7.mono HB6.out.size))
        clear hl6 hr6 HB6 hb7
        go_wp2
        go_roundw
        case rel => exact ⟨p, t + 1, M, by omega, rfl, by go_num, hpw, hl7, HG6.out, hr7, HB7.out⟩
        case measure => simp [intOf]; omega
      by_cases hop3 : x0 = 3
      · have hop := hop3
        clear hop3
        clear hop1 hop2
        subst hop
        go_wp2
        generalize wr.alloc (.cells #[.int .i64 3, .int .i64 x1, .int .i64 x2] 31) = w4 at *
        generalize wr.heap.size = s at *
        obtain ⟨_, j1, j2⟩ := cl4.cells
        clear k0 k1 k2 cl4
        go_region_held3 (fun W => W.cell? ⟨s, 1, none⟩ = some (.int .i64 x1) ∧ W.cell? ⟨s, 2, none⟩ = some (.int .i64 x2))
          (first | exact ⟨j1, j2⟩ | exact ck_only ho6 sq (by assumption) | exact ck_only ho5 sp (by assumption) | assumption)
          (first
            | (go_at_call 16; refine (change_any p bp L _ (by exact hl4) HG.out x1 x2).mono ?_; rintro e w5 ⟨rfl, hl5, ho5⟩)
            | (go_at_call 17; refine (rchange_any q bp L _ (by exact Rq.only (by exact hr4) (by exact hl4) ho5) HG.out x1 x2).mono ?_; rintro e w6 ⟨rfl, hr6, ho6⟩))
        have hl4' : Ln w4.drew p 42 bp L := hl4
        have hr4' : Rq w4.drew q bp L := hr4
        have hr5 := hr4'.only hl4' ho5
        have hl6 := ln_ronly hl5 hr5 ho6
        have HB6 := Lib.hid ((HB4.out.drew.trans (ho5.below HB4.out.size hpw)).trans (ho6.below (Nat.le_trans HB4.out.size ho5.size) hqw))
        have HG6 := Lib.hid (HG.out.chgL x1 x2)
        clear hl4 hr4 hl4' hr4' hr5 hl5 ho5 ho6 HB4 j1 j2
        generalize chgL bp L x1 x2 = M at *
        generalize chgOk L x1 x2 = c at *
        go_wp2_with fail
        refine (same_all p q bp M w6 hl6 hr6 HG6.out.len).mono ?_
        rintro e w7 ⟨rfl, hb7⟩
        have hl7 := hl6.below hb7
        have hr7 := hr6.below hb7
        have HB7 := Lib.hid (HB6.out.trans (hb7.mono HB6.out.size))
        clear hl6 hr6 HB6 hb7
        go_wp2
        go_roundw
        case rel => exact ⟨p, t + 1, M, by omega, rfl, by go_num, hpw, hl7, HG6.out, hr7, HB7.out⟩
        case measure => simp [intOf]; omega
      by_cases hop4 : x0 = 4
      · have hop := hop4
        clear hop4
        clear hop1 hop2 hop3
        cases L with
        | nil =>
          subst hop
          go_wp2_with fail
          generalize wr.alloc (.cells #[.int .i64 4, .int .i64 x1, .int .i64 x2] 31) = w4 at *
          generalize wr.heap.size = s at *
          clear k0 k1 k2 cl4
          refine (take_none p bp w4 hl4).mono ?_
          rintro e w5 ⟨rfl, hk5⟩
          have hkk := below_trans hk5 ((Below.refl _ _).alloc (Nat.le_refl _) (.cells #[.int .i64 0, .int .i64 0] 37))
          have hl5 := hl4.below hkk
          have hr5 := hr4.below hkk
          have HB5 := Lib.hid (HB4.out.trans (hkk.mono HB4.out.size))
          have hx5 := box_new w5 37 (.int .i64 0) (.int .i64 0)
          clear hl4 hr4 HB4 hk5 hkk
          go_wp2_with fail
          generalize w5.alloc (.cells #[.int .i64 0, .int .i64 0] 37) = w5a at *
          generalize w5.heap.size = g5 at *
          refine (rtake_none q bp w5a hr5).mono ?_
          rintro e w6 ⟨rfl, hk6⟩
          have hkk := below_trans hk6 ((Below.refl _ _).alloc (Nat.le_refl _) (.cells #[.int .i64 0, .int .i64 0] 46))
          have hl6 := hl5.below hkk
          have hr6 := hr5.below hkk
          have HB6 := Lib.hid (HB5.out.trans (hkk.mono HB5.out.size))
          have hx6 := hx5.below hkk
          have hy6 := box_new w6 46 (.int .i64 0) (.int .i64 0)
          have z0 := hx6.c0
          have z1 := hx6.c1
          have z2 := hy6.c0
          have z3 := hy6.c1
          have HG6 := HG
          clear hl5 hr5 HB5 hk6 hkk hx5 hx6 hy6
          go_wp2_with fail
          generalize w6.alloc (.cells #[.int .i64 0, .int .i64 0] 46) = w6 at *
          refine (same_all p q bp [] w6 hl6 hr6 HG6.out.len).mono ?_
          rintro e w7 ⟨rfl, hb7⟩
          have hl7 := hl6.below hb7
          have hr7 := hr6.below hb7
          have HB7 := Lib.hid (HB6.out.trans (hb7.mono HB6.out.size))
          clear hl6 hr6 HB6 hb7
          go_wp2
          go_roundw
          case rel => exact ⟨p, t + 1, [], by omega, rfl, by go_num, hpw, hl7, HG6.out, hr7, HB7.out⟩
          case measure => simp [intOf]; omega
        | cons x L =>
          subst hop
          go_wp2_with fail
          generalize wr.alloc (.cells #[.int .i64 4, .int .i64 x1, .int .i64 x2] 31) = w4 at *
          generalize wr.heap.size = s at *
          clear k0 k1 k2 cl4
          refine (take_some p bp x L w4 hl4 HG.out.len).mono ?_
          rintro e w5 ⟨rfl, hl5, ho5⟩
          have hr5 := hr4.only hl4 ho5
          have hb5 := HB4.out.trans (ho5.below HB4.out.size hpw)
          have hkk := (Below.refl w5.heap.size w5).alloc (Nat.le_refl _) (.cells #[.int .i64 x.1, .int .i64 x.2] 37)
          have hl6 := hl5.below hkk
          have hr6 := hr5.below hkk
          have HB6 := Lib.hid (hb5.trans (hkk.mono hb5.size))
          have hx5 := box_new w5 37 (.int .i64 x.1) (.int .i64 x.2)
          have gq : w5.heap.size ≠ q := by have := hr5.lt; omega
          clear hl4 hr4 HB4 ho5 hl5 hr5 hb5 hkk
          go_wp2_with fail
          generalize w5.alloc (.cells #[.int .i64 x.1, .int .i64 x.2] 37) = w5a at *
          generalize w5.heap.size = g5 at *
          refine (rtake_some q bp x L w5a hr6 HG.out.len).mono ?_
          rintro e w7 ⟨rfl, hr7, ho7⟩
          have hl7 := ln_ronly hl6 hr6 ho7
          have hx7 := hx5.only ho7 gq
          have hb7 := HB6.out.trans (ho7.below HB6.out.size hqw)
          have hkk := (Below.refl w7.heap.size w7).alloc (Nat.le_refl _) (.cells #[.int .i64 x.1, .int .i64 x.2] 46)
          clear hl6 hr6 HB6
          have hl6 := hl7.below hkk
          have hr6 := hr7.below hkk
          have HB6 := Lib.hid (hb7.trans (hkk.mono hb7.size))
          have hx6 := hx7.below hkk
          have hy6 := box_new w7 46 (.int .i64 x.1) (.int .i64 x.2)
          have z0 := hx6.c0
          have z1 := hx6.c1
          have z2 := hy6.c0
          have z3 := hy6.c1
          have HG6 := Lib.hid (show Good bp L from HG.out.tail 1)
          clear hl7 hr7 hb7 ho7 hkk hx5 hx6 hy6 hx7
          go_wp2_with fail
          generalize w7.alloc (.cells #[.int .i64 x.1, .int .i64 x.2] 46) = w6 at *
          refine (same_all p q bp L w6 hl6 hr6 HG6.out.len).mono ?_
          rintro e w7 ⟨rfl, hb7⟩
          have hl7 := hl6.below hb7
          have hr7 := hr6.below hb7
          have HB7 := Lib.hid (HB6.out.trans (hb7.mono HB6.out.size))
          clear hl6 hr6 HB6 hb7
          go_wp2
          go_roundw
          case rel => exact ⟨p, t + 1, L, by omega, rfl, by go_num, hpw, hl7, HG6.out, hr7, HB7.out⟩
          case measure => simp [intOf]; omega
      by_cases hop5 : x0 = 5
      · have hop := hop5
        clear hop5
        clear hop1 hop2 hop3 hop4
        subst hop
        go_wp2_with fail
        generalize wr.alloc (.cells #[.int .i64 5, .int .i64 x1, .int .i64 x2] 31) = w4 at *
        generalize wr.heap.size = s at *
        clear k0 k1 k2 cl4
        refine (twin_ok p bp L w4 hl4).mono ?_
        rintro e w5 ⟨r, hr, rfl, hn5, hk5⟩
        have hrw : w.heap.size ≤ r := Nat.le_trans HB4.out.size hr
        have hrp : r ≠ p := by have := hl4.lt; omega
        have hl5 := hl4.below hk5
        have hr5 := hr4.below hk5
        have HB5 := Lib.hid (HB4.out.trans (hk5.mono HB4.out.size))
        clear hl4 hr4 HB4 hk5 hr
        go_wp2
        go_loopw [14] (fun _ wr => ∃ M : List It, Ln wr p 42 bp M ∧ M.length ≤ 16 ∧ Ln wr r 42 bp L ∧ Rq wr q bp L ∧ Below w.heap.size w wr) (fun _ wr => (intOf ((wr.cell? ⟨p, 32, none⟩).getD undef)).toNat)
        case atStart => exact ⟨L, hl5, HG.out.len, hn5, hr5, HB5.out⟩
        case round =>
          obtain ⟨M, hm9, hml, hn9, hr9, hb9⟩ := hrel
          have HB9 := Lib.hid hb9
          clear hl5 hr5 hn5 HB5 hb9
          cases M with
          | nil =>
            go_wp2_with fail
            refine (len_ok p 42 bp [] wr hm9).mono ?_
            rintro e wx ⟨rfl, rfl⟩
            have hl6 := hn9
            have hr6 := hr9
            have HB6 := HB9
            have HG6 := HG
            clear hm9 hn9 hr9 HB9
            go_wp2_with fail
            refine (same_all r q bp L wr hl6 hr6 HG6.out.len).mono ?_
            rintro e w7 ⟨rfl, hb7⟩
            have hl7 := hl6.below hb7
            have hr7 := hr6.below hb7
            have HB7 := Lib.hid (HB6.out.trans (hb7.mono HB6.out.size))
            clear hl6 hr6 HB6 hb7
            go_wp2
            go_roundw
            case rel => exact ⟨r, t + 1, L, by omega, rfl, by go_num, hrw, hl7, HG6.out, hr7, HB7.out⟩
            case measure => simp [intOf]; omega
          | cons x M =>
            have hcnt : wr.cell? ⟨p, 32, none⟩ = some (.int .i64 ((x :: M).length : Int)) := by obtain ⟨f, hm, _⟩ := hm9; exact hm.count
            have HCN := Lib.hid hcnt
            have HLN := Lib.hid (len_ok p 42 bp (x :: M) wr hm9)
            have HTK := Lib.hid (take_some p bp x M wr hm9 hml)
            have HML := Lib.hid (show M.length ≤ 16 by rw [List.length_cons] at hml; omega)
            have hpos : (0 : Int) < ((x :: M).length : Int) := by rw [List.length_cons]; omega
            have HTY := Lib.hid hm9
            generalize hle : (x :: M).length = k at *
            have HLE := Lib.hid hle
            clear hcnt hm9 hml hle
            go_wp2_with fail
            refine HLN.out.mono ?_
            rintro e wx ⟨rfl, rfl⟩
            go_wp2_with fail
            refine HTK.out.mono ?_
            rintro e wy ⟨rfl, hm10, ho10⟩
            have hn10 := hn9.only ho10 hrp
            have hr10 := hr9.only HTY.out ho10
            have hb10 := HB9.out.trans (ho10.below HB9.out.size hpw)
            have hkk := (Below.refl wy.heap.size wy).alloc (Nat.le_refl _) (.cells #[.int .i64 x.1, .int .i64 x.2] 37)
            have hm11 := Lib.hid (hm10.below hkk)
            have hn11 := Lib.hid (hn10.below hkk)
            have hr11 := Lib.hid (hr10.below hkk)
            have hb11 := Lib.hid (hb10.trans (hkk.mono hb10.size))
            clear hn9 hr9 HB9 hm10 ho10 hn10 hr10 hb10 hkk HTY HLN HTK
            go_wp2
            go_roundw
            case rel => exact ⟨M, hm11.out, HML.out, hn11.out, hr11.out, hb11.out⟩
            case measure =>
              obtain ⟨f, hm, _⟩ := hm11.out
              rw [hm.count, HCN.out]
              have := HLE.out
              rw [List.length_cons] at this
              simp [intOf]
              omega
      have f1 : (x0 == 1) = false := by simpa using hop1
      have f2 : (x0 == 2) = false := by simpa using hop2
      have f3 : (x0 == 3) = false := by simpa using hop3
      have f4 : (x0 == 4) = false := by simpa using hop4
      have f5 : (x0 == 5) = false := by simpa using hop5
      have HG6 := HG
      clear hop1 hop2 hop3 hop4 hop5
      go_wp2_with fail
      generalize wr.alloc (.cells #[.int .i64 x0, .int .i64 x1, .int .i64 x2] 31) = w6 at *
      generalize wr.heap.size = s at *
      clear k0 k1 k2 cl4
      have hl6 := hl4
      have hr6 := hr4
      have HB6 := HB4
      clear hl4 hr4 HB4
      refine (same_all p q bp L w6 hl6 hr6 HG6.out.len).mono ?_
      rintro e w7 ⟨rfl, hb7⟩
      have hl7 := hl6.below hb7
      have hr7 := hr6.below hb7
      have HB7 := Lib.hid (HB6.out.trans (hb7.mono HB6.out.size))
      clear hl6 hr6 HB6 hb7
      go_wp2
      go_roundw
      case rel => exact ⟨p, t + 1, L, by omega, rfl, by go_num, hpw, hl7, HG6.out, hr7, HB7.out⟩
      case measure => simp [intOf]; omega
    · clear hl3 hr3
      go_wp2
      go_ret
      exact ⟨rfl, HB3.out⟩
end Go.Proofs.Ytklchhbkeoaloaa.orderPlays
