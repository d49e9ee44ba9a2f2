/-
  detentlaw3.ListPlays: the walk.
-/
import Derived.Test.YtmfjhckacmdijaaPlA
namespace Go.Proofs.Ytmfjhckacmdijaa.listPlays
open Go.RowKit
set_option linter.unusedVariables false

def Post (w : World) (e : Ending) (w' : World) : Prop := e = .returned (.bool true) ∧ Below w.heap.size w w'

def PlRel (p m q r N H n : Nat) (w : World) (i : Value) (wr : World) : Prop :=
  ∃ (t : Nat) (R : Nat → List Nat), t ≤ n ∧ i = .int .i64 (t : Int) ∧ Lst wr p m N H R ∧ Rf wr q r m N H R ∧ Below w.heap.size w wr

/-- the call's struct, as the law holds it -/
def Cl (w : World) (s : Nat) (x0 x1 x2 x3 : Int) (B : Option Addr) (ln K : Nat) : Prop :=
  w.heap[s]? = some (.cells #[.int .i64 x0, .int .i64 x1, .int .i64 x2, .int .i64 x3, .slice B ln K] 33 (0, 0))
theorem Cl.lt {w : World} {s ln K : Nat} {x0 x1 x2 x3 : Int} {B : Option Addr} (h : Cl w s x0 x1 x2 x3 B ln K) : s < w.heap.size := lt_of_heap h
theorem Cl.only {w w' : World} {s ln K p m : Nat} {x0 x1 x2 x3 : Int} {B : Option Addr} (h : Cl w s x0 x1 x2 x3 B ln K) (k : Only p m w w') (h1 : s ≠ p) (h2 : s ≠ m) : Cl w' s x0 x1 x2 x3 B ln K := (k.block s h.lt h1 h2).trans h
theorem Cl.cells {w : World} {s ln K : Nat} {x0 x1 x2 x3 : Int} {B : Option Addr} (h : Cl w s x0 x1 x2 x3 B ln K) :
    w.cell? ⟨s, 0, none⟩ = some (.int .i64 x0) ∧ w.cell? ⟨s, 1, none⟩ = some (.int .i64 x1) ∧ w.cell? ⟨s, 2, none⟩ = some (.int .i64 x2) ∧ w.cell? ⟨s, 3, none⟩ = some (.int .i64 x3) ∧ w.cell? ⟨s, 4, none⟩ = some (.slice B ln K) := by
  refine ⟨?_, ?_, ?_, ?_, ?_⟩ <;> rw [cell_of_row _ _ _ _ _ _ h] <;> rfl

/-- what came in is read also behind a call that turned block m -/
theorem nd_other {w w' : World} {m r : Nat} {A : Option Addr} {l : List Int} (h1 : Nd w m A l) (h2 : Nd w r A l) (ho : Only m m w w') : Nd w' r A l := by
  intro h0
  obtain ⟨b, o, hA, hbm, _⟩ := h1 h0
  obtain ⟨b', o', hA', hbr, hc⟩ := h2 h0
  rw [hA] at hA'; injection hA' with hA'; injection hA' with e1 e2
  subst e1 e2
  refine ⟨b, o, hA, hbr, fun j hj => ?_⟩
  have := hc j hj
  rw [ho.cell (q := ⟨b, o + j, none⟩) (block_lt_of_cell this) hbm hbm]; exact this

set_option maxHeartbeats 6400000 in
set_option maxRecDepth 100000 in
theorem walkIn (N H n cap b o : Nat) (A : Option Addr) (op hd nd at_ : Nat → Int) (PB : Nat → Option Addr) (PK : Nat → Nat) (ns : Nat → List Int) (w : World)
    (hA : 0 < n → A = some ⟨b, o, none⟩ ∧ Acts w b o n op hd nd at_ PB PK ns) (hN0 : 1 ≤ N) (hN : N ≤ 40) (hH0 : 1 ≤ H) (hH : H ≤ 8) (hn : n ≤ 60) :
    Calls Try.prog 3 #[.int .i64 (N : Int), .int .i64 (H : Int), .slice A n cap] w (Post w) := by
  have t1 : decide ((60 : Int) < (n : Int)) = false := by simp; omega
  have t2 : decide ((40 : Int) < (N : Int)) = false := by simp; omega
  have t3 : decide ((8 : Int) < (H : Int)) = false := by simp; omega
  have HA := Lib.hid hA
  clear hA
  go_enter Try.func3, Try.ntmps3
  go_wp2_with fail
  refine (known_any _).mono ?_
  rintro e w0 ⟨rfl, hb0⟩
  go_wp2_with fail
  refine (new_ok N H hN0 (by omega) hH0 (by omega) w0).mono ?_
  rintro e w1 ⟨p, m, hp, hm, rfl, hl1, hb1⟩
  go_wp2_with fail
  refine (rnew_ok m N H hN0 (by omega) hH0 (by omega) w1).mono ?_
  rintro e w2 ⟨q, r, hq, hr, rfl, hr2, hb2⟩
  have hl2 := hl1.below hb2 hl1.ltp hl1.ltm
  have HB2 : Hid (Below w.heap.size w w2) := (hb0.trans (hb1.mono hb0.size)).trans (hb2.mono (Nat.le_trans hb0.size hb1.size))
  have d1 : q ≠ m := by have := hl1.ltm; omega
  have d2 : r ≠ m := by have := hl1.ltm; omega
  have d3 : p ≠ r := by have := hl1.ltp; omega
  have hm' : w.heap.size ≤ m := Nat.le_trans hb0.size hm
  have hr' : w.heap.size ≤ r := Nat.le_trans hb0.size (Nat.le_trans hb1.size hr)
  clear hb0 hb1 hb2 hl1 hp hm hq hr
  go_wp2
  go_loopw [11] (fun i wr => PlRel p m q r N H n w i wr) (fun i _ => n - (intOf i).toNat)
  case atStart => exact ⟨0, _, Nat.zero_le _, rfl, hl2, hr2, HB2.out⟩
  case round =>
    obtain ⟨t, R, ht, rfl, hl3, hr3, hb3⟩ := hrel
    clear hl2 hr2 HB2
    by_cases hlt : t < n
    · obtain ⟨rfl, hac⟩ := HA.out (by omega)
      have HB3 := Lib.hid hb3
      have hlb := hac.hlt t hlt
      have k0 := (hb3.cell (p := ⟨b, o + t * 5, none⟩) hlb).trans (hac.c0 t hlt)
      have k1 := (hb3.cell (p := ⟨b, o + t * 5 + 1, none⟩) hlb).trans (hac.c1 t hlt)
      have k2 := (hb3.cell (p := ⟨b, o + t * 5 + 2, none⟩) hlb).trans (hac.c2 t hlt)
      have k3 := (hb3.cell (p := ⟨b, o + t * 5 + 3, none⟩) hlb).trans (hac.c3 t hlt)
      have k4 := (hb3.cell (p := ⟨b, o + t * 5 + 4, none⟩) hlb).trans (hac.c4 t hlt)
      have HN1 := Lib.hid ((hac.hp t hlt m hm').below hb3)
      have HN2 := Lib.hid ((hac.hp t hlt r hr').below hb3)
      have hnl := hac.hl t hlt
      have hwf := Lib.hid hl3.wf
      clear hac hb3 hlb
      generalize op t = x0 at *
      generalize hd t = x1 at *
      generalize nd t = x2 at *
      generalize at_ t = x3 at *
      generalize PB t = B at *
      generalize PK t = K at *
      generalize ns t = l at *
      have hl4 := hl3.alloc (.cells #[.int .i64 x0, .int .i64 x1, .int .i64 x2, .int .i64 x3, .slice B l.length K] 33)
      have hr4 := hr3.alloc (.cells #[.int .i64 x0, .int .i64 x1, .int .i64 x2, .int .i64 x3, .slice B l.length K] 33)
      have HB4 := Lib.hid (HB3.out.alloc HB3.out.size (.cells #[.int .i64 x0, .int .i64 x1, .int .i64 x2, .int .i64 x3, .slice B l.length K] 33))
      have cl4 : Cl (wr.alloc (.cells #[.int .i64 x0, .int .i64 x1, .int .i64 x2, .int .i64 x3, .slice B l.length K] 33)) wr.heap.size x0 x1 x2 x3 B l.length K := heap_alloc_new _ _
      have sm : wr.heap.size ≠ m := by have := hl3.ltm; omega
      have sr : wr.heap.size ≠ r := by have := hr3.ltr; omega
      have HN3 : Hid (Nd (wr.alloc (.cells #[.int .i64 x0, .int .i64 x1, .int .i64 x2, .int .i64 x3, .slice B l.length K] 33)) m B l) := HN1.out.below ((Below.refl _ _).alloc (Nat.le_refl _) _)
      have HN4 : Hid (Nd (wr.alloc (.cells #[.int .i64 x0, .int .i64 x1, .int .i64 x2, .int .i64 x3, .slice B l.length K] 33)) r B l) := HN2.out.below ((Below.refl _ _).alloc (Nat.le_refl _) _)
      clear HN1 HN2 HB3 hl3 hr3
      by_cases hop : x0 = 1
      · by_cases hl50 : (50 : Int) < (l.length : Int)
        · subst hop
          go_wp2
          go_ret
          exact ⟨rfl, HB4.out⟩
        have t5 : decide ((50 : Int) < (l.length : Int)) = false := by simpa using hl50
        subst hop
        have hl51 : l.length ≤ 50 := by omega
        clear hl50
        obtain ⟨c, R', hc1, hc2⟩ := op_back p m q r N H x1 B K l R hwf.out (by omega) (by omega) (by omega)
        have HC1 := Lib.hid hc1
        have HC2 := Lib.hid hc2
        clear hc1 hc2
        go_wp2_with fail
        generalize wr.alloc (.cells #[.int .i64 1, .int .i64 x1, .int .i64 x2, .int .i64 x3, .slice B l.length K] 33) = w4 at *
        generalize wr.heap.size = s at *
        clear k0 k1 k2 k3 k4
        refine (HC1.out _ hl4 HN3.out).mono ?_
        rintro e w5 ⟨rfl, hl5, ho5⟩
        have hr5 := hr4.only ho5 d1 d2
        have cl5 := cl4.only ho5 sm sm
        have HB5 := Lib.hid (HB4.out.trans (ho5.below HB4.out.size hm' hm'))
        have hm5 := hl5.ltm
        obtain ⟨j0, j1, j2, j3, j4⟩ := cl5.cells
        have HN5 : Hid (Nd w5 r B l) := nd_other HN3.out HN4.out ho5
        clear hl4 hr4 cl4 HB4 ho5
        go_wp2_with fail
        refine (HC2.out _ hr5 hm5 HN5.out).mono ?_
        rintro e w6 ⟨rfl, hr6, ho6⟩
        clear HC1 HC2 j0 j1 j2 j3 j4
        have hl6 := hl5.only ho6 d3 d3 (Ne.symm d2) (Ne.symm d2)
        have HB6 := Lib.hid (HB5.out.trans (ho6.below HB5.out.size hr' hr'))
        clear hl5 ho6 HB5 hr5 cl5
        go_wp2_with fail
        refine (same_all p m q r N H R' w6 hl6 hr6 (by omega) (by omega)).mono ?_
        rintro e w7 ⟨rfl, hb7⟩
        have hl7 := hl6.below hb7 hl6.ltp hl6.ltm
        have hr7 := hr6.below hb7
        have HB7 := Lib.hid (HB6.out.trans (hb7.mono HB6.out.size))
        clear hl6 hr6 HB6 hb7
        go_wp2
        go_roundw
        case rel => exact ⟨t + 1, R', by omega, by go_num, hl7, hr7, HB7.out⟩
        case measure => simp [intOf]; omega
      have f1 : (x0 == 1) = false := by simpa using hop
      clear hop
      by_cases hop : x0 = 2
      · subst hop
        clear f1
        obtain ⟨c, R', hc1, hc2⟩ := op_front p m q r N H x1 x2 R hwf.out (by omega) (by omega)
        have HC1 := Lib.hid hc1
        have HC2 := Lib.hid hc2
        clear hc1 hc2
        go_wp2_with fail
        generalize wr.alloc (.cells #[.int .i64 2, .int .i64 x1, .int .i64 x2, .int .i64 x3, .slice B l.length K] 33) = w4 at *
        generalize wr.heap.size = s at *
        clear k0 k1 k2 k3 k4
        refine (HC1.out _ hl4).mono ?_
        rintro e w5 ⟨rfl, hl5, ho5⟩
        have hr5 := hr4.only ho5 d1 d2
        have cl5 := cl4.only ho5 sm sm
        have HB5 := Lib.hid (HB4.out.trans (ho5.below HB4.out.size hm' hm'))
        have hm5 := hl5.ltm
        obtain ⟨j0, j1, j2, j3, j4⟩ := cl5.cells
        clear hl4 hr4 cl4 HB4 ho5
        go_wp2_with fail
        refine (HC2.out _ hr5 hm5).mono ?_
        rintro e w6 ⟨rfl, hr6, ho6⟩
        clear HC1 HC2 j0 j1 j2 j3 j4
        have hl6 := hl5.only ho6 d3 d3 (Ne.symm d2) (Ne.symm d2)
        have HB6 := Lib.hid (HB5.out.trans (ho6.below HB5.out.size hr' hr'))
        clear hl5 ho6 HB5 hr5 cl5
        go_wp2_with fail
        refine (same_all p m q r N H R' w6 hl6 hr6 (by omega) (by omega)).mono ?_
        rintro e w7 ⟨rfl, hb7⟩
        have hl7 := hl6.below hb7 hl6.ltp hl6.ltm
        have hr7 := hr6.below hb7
        have HB7 := Lib.hid (HB6.out.trans (hb7.mono HB6.out.size))
        clear hl6 hr6 HB6 hb7
        go_wp2
        go_roundw
        case rel => exact ⟨t + 1, R', by omega, by go_num, hl7, hr7, HB7.out⟩
        case measure => simp [intOf]; omega
      have f2 : (x0 == 2) = false := by simpa using hop
      clear hop
      by_cases hop : x0 = 3
      · subst hop
        clear f1 f2
        obtain ⟨c, R', hc1, hc2⟩ := op_before p m q r N H x2 x3 R hwf.out (by omega) (by omega)
        have HC1 := Lib.hid hc1
        have HC2 := Lib.hid hc2
        clear hc1 hc2
        go_wp2_with fail
        generalize wr.alloc (.cells #[.int .i64 3, .int .i64 x1, .int .i64 x2, .int .i64 x3, .slice B l.length K] 33) = w4 at *
        generalize wr.heap.size = s at *
        clear k0 k1 k2 k3 k4
        refine (HC1.out _ hl4).mono ?_
        rintro e w5 ⟨rfl, hl5, ho5⟩
        have hr5 := hr4.only ho5 d1 d2
        have cl5 := cl4.only ho5 sm sm
        have HB5 := Lib.hid (HB4.out.trans (ho5.below HB4.out.size hm' hm'))
        have hm5 := hl5.ltm
        obtain ⟨j0, j1, j2, j3, j4⟩ := cl5.cells
        clear hl4 hr4 cl4 HB4 ho5
        go_wp2_with fail
        refine (HC2.out _ hr5 hm5).mono ?_
        rintro e w6 ⟨rfl, hr6, ho6⟩
        clear HC1 HC2 j0 j1 j2 j3 j4
        have hl6 := hl5.only ho6 d3 d3 (Ne.symm d2) (Ne.symm d2)
        have HB6 := Lib.hid (HB5.out.trans (ho6.below HB5.out.size hr' hr'))
        clear hl5 ho6 HB5 hr5 cl5
        go_wp2_with fail
        refine (same_all p m q r N H R' w6 hl6 hr6 (by omega) (by omega)).mono ?_
        rintro e w7 ⟨rfl, hb7⟩
        have hl7 := hl6.below hb7 hl6.ltp hl6.ltm
        have hr7 := hr6.below hb7
        have HB7 := Lib.hid (HB6.out.trans (hb7.mono HB6.out.size))
        clear hl6 hr6 HB6 hb7
        go_wp2
        go_roundw
        case rel => exact ⟨t + 1, R', by omega, by go_num, hl7, hr7, HB7.out⟩
        case measure => simp [intOf]; omega
      have f3 : (x0 == 3) = false := by simpa using hop
      clear hop
      by_cases hop : x0 = 4
      · subst hop
        clear f1 f2 f3
        obtain ⟨c, R', hc1, hc2⟩ := op_remove p m q r N H x2 R hwf.out (by omega) (by omega)
        have HC1 := Lib.hid hc1
        have HC2 := Lib.hid hc2
        clear hc1 hc2
        go_wp2_with fail
        generalize wr.alloc (.cells #[.int .i64 4, .int .i64 x1, .int .i64 x2, .int .i64 x3, .slice B l.length K] 33) = w4 at *
        generalize wr.heap.size = s at *
        clear k0 k1 k2 k3 k4
        refine (HC1.out _ hl4).mono ?_
        rintro e w5 ⟨rfl, hl5, ho5⟩
        have hr5 := hr4.only ho5 d1 d2
        have cl5 := cl4.only ho5 sm sm
        have HB5 := Lib.hid (HB4.out.trans (ho5.below HB4.out.size hm' hm'))
        have hm5 := hl5.ltm
        obtain ⟨j0, j1, j2, j3, j4⟩ := cl5.cells
        clear hl4 hr4 cl4 HB4 ho5
        go_wp2_with fail
        refine (HC2.out _ hr5 hm5).mono ?_
        rintro e w6 ⟨rfl, hr6, ho6⟩
        clear HC1 HC2 j0 j1 j2 j3 j4
        have hl6 := hl5.only ho6 d3 d3 (Ne.symm d2) (Ne.symm d2)
        have HB6 := Lib.hid (HB5.out.trans (ho6.below HB5.out.size hr' hr'))
        clear hl5 ho6 HB5 hr5 cl5
        go_wp2_with fail
        refine (same_all p m q r N H R' w6 hl6 hr6 (by omega) (by omega)).mono ?_
        rintro e w7 ⟨rfl, hb7⟩
        have hl7 := hl6.below hb7 hl6.ltp hl6.ltm
        have hr7 := hr6.below hb7
        have HB7 := Lib.hid (HB6.out.trans (hb7.mono HB6.out.size))
        clear hl6 hr6 HB6 hb7
        go_wp2
        go_roundw
        case rel => exact ⟨t + 1, R', by omega, by go_num, hl7, hr7, HB7.out⟩
        case measure => simp [intOf]; omega
      have f4 : (x0 == 4) = false := by simpa using hop
      clear hop
      go_wp2_with fail
      generalize wr.alloc (.cells #[.int .i64 x0, .int .i64 x1, .int .i64 x2, .int .i64 x3, .slice B l.length K] 33) = w4 at *
      generalize wr.heap.size = s at *
      clear k0 k1 k2 k3 k4
      refine (same_all p m q r N H R w4 hl4 hr4 (by omega) (by omega)).mono ?_
      rintro e w7 ⟨rfl, hb7⟩
      have hl7 := hl4.below hb7 hl4.ltp hl4.ltm
      have hr7 := hr4.below hb7
      have HB7 := Lib.hid (HB4.out.trans (hb7.mono HB4.out.size))
      clear hl4 hr4 HB4 hb7
      go_wp2
      go_roundw
      case rel => exact ⟨t + 1, R, by omega, by go_num, hl7, hr7, HB7.out⟩
      case measure => simp [intOf]; omega
    · go_wp2
      go_ret
      exact ⟨rfl, hb3⟩

set_option maxHeartbeats 3200000 in
set_option maxRecDepth 100000 in
/-- too many calls, sizes that are not looked at, or no lists -/
theorem walkOut (a h : Int) (A : Option Addr) (n cap : Nat) (w : World) (hn : n ≤ 9223372036854775807) (hx : ¬ ((n : Int) ≤ 60 ∧ 1 ≤ a ∧ a ≤ 40 ∧ 1 ≤ h ∧ h ≤ 8)) :
    Calls Try.prog 3 #[.int .i64 a, .int .i64 h, .slice A n cap] w (Post w) := by
  by_cases c1 : (60 : Int) < (n : Int)
  · clear hx
    go_enter Try.func3, Try.ntmps3
    go_wp2_with fail
    refine (known_any _).mono ?_
    rintro e w0 ⟨rfl, hb0⟩
    go_wp2
    go_ret
    exact ⟨rfl, hb0⟩
  have t1 : decide ((60 : Int) < (n : Int)) = false := by simpa using c1
  by_cases c2 : 40 < a ∧ a ≤ 1024
  · obtain ⟨c2, c3⟩ := c2
    clear hx c1
    go_enter Try.func3, Try.ntmps3
    go_wp2_with fail
    refine (known_any _).mono ?_
    rintro e w0 ⟨rfl, hb0⟩
    go_wp2
    go_ret
    exact ⟨rfl, hb0⟩
  by_cases c3 : 8 < h ∧ h ≤ 64
  · obtain ⟨c3, c4⟩ := c3
    by_cases c5 : 40 < a
    · have c6 : decide (a ≤ 1024) = false := by simp; omega
      clear hx c1 c2
      go_enter Try.func3, Try.ntmps3
      go_wp2_with fail
      refine (known_any _).mono ?_
      rintro e w0 ⟨rfl, hb0⟩
      go_wp2
      go_ret
      exact ⟨rfl, hb0⟩
    · have c6 : decide (40 < a) = false := by simpa using c5
      clear hx c1 c2 c5
      go_enter Try.func3, Try.ntmps3
      go_wp2_with fail
      refine (known_any _).mono ?_
      rintro e w0 ⟨rfl, hb0⟩
      go_wp2
      go_ret
      exact ⟨rfl, hb0⟩
  have hbad : ¬ (1 ≤ a ∧ a ≤ 1024 ∧ 1 ≤ h ∧ h ≤ 64) := by omega
  have HN := fun w0 => Lib.hid (new_bad a h hbad w0)
  have HM := fun w0 => Lib.hid (rnew_bad a h hbad w0)
  by_cases c5 : 40 < a
  · have c6 : decide (a ≤ 1024) = false := by simp; omega
    by_cases c7 : 8 < h
    · have c8 : decide (h ≤ 64) = false := by simp; omega
      clear hx c1 c2 c3 hbad
      go_enter Try.func3, Try.ntmps3
      go_wp2_with fail
      refine (known_any _).mono ?_
      rintro e w0 ⟨rfl, hb0⟩
      go_wp2_with fail
      refine (HN w0).out.mono ?_
      rintro e w1 ⟨rfl, rfl⟩
      go_wp2_with fail
      refine (HM w0).out.mono ?_
      rintro e w1 ⟨rfl, rfl⟩
      go_wp2
      go_ret
      exact ⟨rfl, hb0⟩
    · have c8 : decide (8 < h) = false := by simpa using c7
      clear hx c1 c2 c3 hbad c7
      go_enter Try.func3, Try.ntmps3
      go_wp2_with fail
      refine (known_any _).mono ?_
      rintro e w0 ⟨rfl, hb0⟩
      go_wp2_with fail
      refine (HN w0).out.mono ?_
      rintro e w1 ⟨rfl, rfl⟩
      go_wp2_with fail
      refine (HM w0).out.mono ?_
      rintro e w1 ⟨rfl, rfl⟩
      go_wp2
      go_ret
      exact ⟨rfl, hb0⟩
  · have c6 : decide (40 < a) = false := by simpa using c5
    by_cases c7 : 8 < h
    · have c8 : decide (h ≤ 64) = false := by simp; omega
      clear hx c1 c2 c3 hbad c5
      go_enter Try.func3, Try.ntmps3
      go_wp2_with fail
      refine (known_any _).mono ?_
      rintro e w0 ⟨rfl, hb0⟩
      go_wp2_with fail
      refine (HN w0).out.mono ?_
      rintro e w1 ⟨rfl, rfl⟩
      go_wp2_with fail
      refine (HM w0).out.mono ?_
      rintro e w1 ⟨rfl, rfl⟩
      go_wp2
      go_ret
      exact ⟨rfl, hb0⟩
    · have c8 : decide (8 < h) = false := by simpa using c7
      clear hx c1 c2 c3 hbad c7 c5
      go_enter Try.func3, Try.ntmps3
      go_wp2_with fail
      refine (known_any _).mono ?_
      rintro e w0 ⟨rfl, hb0⟩
      go_wp2_with fail
      refine (HN w0).out.mono ?_
      rintro e w1 ⟨rfl, rfl⟩
      go_wp2_with fail
      refine (HM w0).out.mono ?_
      rintro e w1 ⟨rfl, rfl⟩
      go_wp2
      go_ret
      exact ⟨rfl, hb0⟩
end Go.Proofs.Ytmfjhckacmdijaa.listPlays
