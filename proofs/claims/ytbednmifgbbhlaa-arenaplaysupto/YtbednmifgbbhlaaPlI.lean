/-
  detentlaw2.ArenaPlays: cases of one round of its loop.
-/
import Derived.Test.YtbednmifgbbhlaaPlA
import Derived.StillTailTactics
namespace Go.Proofs.Ytbednmifgbbhlaa.arenaPlays
open Go.ChangeShapes Go.WideShapes Go.ChangeAt Go.RowKit
set_option linter.unusedVariables false

set_option maxHeartbeats 6400000 in
set_option maxRecDepth 100000 in
theorem case_2great (Q0 : Exit → Act → World → Prop) (w wr : World) (s b o n cap g t p m : Nat) (c : Int) (f : Nat → Int) (x1 x2 x4 : Int) (B : Option Addr) (K : Nat) (ps : List (List Int)) (u : Nat → Value)
    (hd : Hd w wr s b o n g t p m c f 2 x1 x2 x4 B K ps) (hgt : (3000 : Int) < ((whole ps).length : Int)) (hret : ∀ (tm : Array Value) (w' : World), tm.getD 4 undef = .bool true → Below w.heap.size w w' → Q0 .ret ⟨tm, []⟩ w') :
    Code.wp Try.prog body (Exit.then (Rnd w s (some ⟨b, o, none⟩) n cap g t) Q0) (fr s (some ⟨b, o, none⟩) n cap g u (.pointer (some ⟨p, 0, none⟩)) (.int .i64 c) (.int .i64 (t : Int))) wr := by
  obtain ⟨hs, hn, hlt, k0, k1, k2, k3, k4, hPa, hPl, hPw, hbd, ha, hr, gp, gm, hp', hm', hgw, hc0, hc1, hb⟩ := hd
  have HBr := Lib.hid hb
  have HP := Lib.hid hPa
  clear hb hPa
  have ha3 := ha.alloc (.cells #[.int .i64 2, .int .i64 x1, .int .i64 x2, .slice B ps.length K, .int .u32 x4] 32)
  have hr3 := hr.alloc (.cells #[.int .i64 2, .int .i64 x1, .int .i64 x2, .slice B ps.length K, .int .u32 x4] 32)
  have HB3 := Lib.hid (HBr.out.alloc HBr.out.size (.cells #[.int .i64 2, .int .i64 x1, .int .i64 x2, .slice B ps.length K, .int .u32 x4] 32))
  have cl3 : Cl (wr.alloc (.cells #[.int .i64 2, .int .i64 x1, .int .i64 x2, .slice B ps.length K, .int .u32 x4] 32)) wr.heap.size 2 x1 x2 B ps.length K x4 := heap_alloc_new _ _
  have qp : wr.heap.size ≠ p := by have := ha.ltp; omega
  have qm : wr.heap.size ≠ m := by have := ha.ltm; omega
  have qg : wr.heap.size ≠ g := by have := hr.lt; omega
  have qw : w.heap.size ≤ wr.heap.size := HBr.out.size
  have c5 : c ≤ 300000 := by omega
  clear HBr ha hr
  unfold fr
  conv => arg 2; whnf
  go_wp2_with fail
  generalize wr.alloc (.cells #[.int .i64 2, .int .i64 x1, .int .i64 x2, .slice B ps.length K, .int .u32 x4] 32) = w3 at *
  generalize wr.heap.size = q at *
  clear k0 k1 k2 k3 k4
  have HAr := Lib.hid ha3; have HRo := Lib.hid hr3; have HCl := Lib.hid cl3
  clear ha3 hr3 cl3
  go_loopw [13, 14] (fun v i wr => RelP ps w3 v i wr) (fun _ i _ => ps.length - (intOf i).toNat)
  case atStart => exact ⟨0, Nat.zero_le _, rfl, by rw [joined_zero]; exact World.ownsRow_nil _ _ _ _, Below.refl _ _, by simp [joined_zero]⟩
  case round =>
    obtain ⟨v, hu, rfl, hown, hb4, hz⟩ := hrel
    have HO := Lib.hid hown
    have HB4 := Lib.hid hb4
    have HZ := Lib.hid hz
    clear hown hb4 hz
    have cl4 := HCl.out.below HB4.out HCl.out.lt
    obtain ⟨j0, j1, j2, j3, j4⟩ := cl4.cells
    by_cases hul : v < ps.length
    · obtain ⟨b1, o1', rfl, hb1, hb2, hc⟩ := HP.out (by omega)
      obtain ⟨A, k, h3, h4, h5⟩ := hc v hul
      clear hc
      have hbl1 := block_lt_of_cell h3
      have HBw : Hid (Below w.heap.size w wr) := HB3.out.trans (HB4.out.mono HB3.out.size)
      have h3' : wr.cell? ⟨b1, o1' + v, none⟩ = some (.slice A (part ps v).length k) := by
        rw [HBw.out.cell (p := ⟨b1, o1' + v, none⟩) hbl1]; exact h3
      have HS : Hid (Src wr wr.heap.size wr.heap.size A (part ps v).length (fun j => (part ps v).getD j 0)) :=
        (h4.only (Only.of_below (p := w.heap.size) (m := w.heap.size) HBw.out) (.inl rfl) (.inl rfl)).re (Nat.le_refl _) (Nat.le_refl _)
      have hjl := joined_succ_le ps v hul
      clear h3 h4 hb1 hb2
      go_wp2_with (at_builtin; refine wpList_append_bytes rfl _ _ rfl w3.heap.size _ (joined ps v) rfl HO.out wr.heap.size wr.heap.size A k (part ps v) rfl HS.out (by omega) HB4.out.size ?c1)
      case c1 =>
        intro v' w5 h1 hg5
        have HR := Lib.hid (relP_step hul HS.out HB4.out HZ.out HO.out h1 hg5)
        clear h1 hg5
        go_wp2
        go_roundw
        case rel => exact HR.out
        case measure => simp [intOf]; omega
    · obtain rfl : v = ps.length := by omega
      rw [joined_all] at HO HZ
      obtain ⟨X, capX, rfl, hx1, hx2, hxs⟩ := own_src2 HO.out HZ.out
      have HX := Lib.hid hxs
      clear hxs HO HZ
      have ha4 := HAr.out.below HB4.out HAr.out.ltp HAr.out.ltm
      have hr4 := HRo.out.below HB4.out HRo.out.lt
      have HBw : Hid (Below w.heap.size w wr) := HB3.out.trans (HB4.out.mono HB3.out.size)
      have lq := HCl.out.lt; have lp := HAr.out.ltp; have lm := HAr.out.ltm; have lg := HRo.out.lt
      clear HB3 HAr HRo HCl hu hul
      go_wp2
      exact hret _ _ rfl HBw.out

set_option maxHeartbeats 6400000 in
set_option maxRecDepth 100000 in
theorem case_2bad (Q0 : Exit → Act → World → Prop) (w wr : World) (s b o n cap g t p m : Nat) (c : Int) (f : Nat → Int) (x1 x2 x4 : Int) (B : Option Addr) (K : Nat) (ps : List (List Int)) (u : Nat → Value)
    (hd : Hd w wr s b o n g t p m c f 2 x1 x2 x4 B K ps) (hgt : ¬ (3000 : Int) < ((whole ps).length : Int)) (inr : ¬ (0 ≤ x1 ∧ x1 + (whole ps).length ≤ s)) :
    Code.wp Try.prog body (Exit.then (Rnd w s (some ⟨b, o, none⟩) n cap g t) Q0) (fr s (some ⟨b, o, none⟩) n cap g u (.pointer (some ⟨p, 0, none⟩)) (.int .i64 c) (.int .i64 (t : Int))) wr := by
  obtain ⟨hs, hn, hlt, k0, k1, k2, k3, k4, hPa, hPl, hPw, hbd, ha, hr, gp, gm, hp', hm', hgw, hc0, hc1, hb⟩ := hd
  have HBr := Lib.hid hb
  have HP := Lib.hid hPa
  clear hb hPa
  have ha3 := ha.alloc (.cells #[.int .i64 2, .int .i64 x1, .int .i64 x2, .slice B ps.length K, .int .u32 x4] 32)
  have hr3 := hr.alloc (.cells #[.int .i64 2, .int .i64 x1, .int .i64 x2, .slice B ps.length K, .int .u32 x4] 32)
  have HB3 := Lib.hid (HBr.out.alloc HBr.out.size (.cells #[.int .i64 2, .int .i64 x1, .int .i64 x2, .slice B ps.length K, .int .u32 x4] 32))
  have cl3 : Cl (wr.alloc (.cells #[.int .i64 2, .int .i64 x1, .int .i64 x2, .slice B ps.length K, .int .u32 x4] 32)) wr.heap.size 2 x1 x2 B ps.length K x4 := heap_alloc_new _ _
  have qp : wr.heap.size ≠ p := by have := ha.ltp; omega
  have qm : wr.heap.size ≠ m := by have := ha.ltm; omega
  have qg : wr.heap.size ≠ g := by have := hr.lt; omega
  have qw : w.heap.size ≤ wr.heap.size := HBr.out.size
  have c5 : c ≤ 300000 := by omega
  clear HBr ha hr
  unfold fr
  conv => arg 2; whnf
  go_wp2_with fail
  generalize wr.alloc (.cells #[.int .i64 2, .int .i64 x1, .int .i64 x2, .slice B ps.length K, .int .u32 x4] 32) = w3 at *
  generalize wr.heap.size = q at *
  clear k0 k1 k2 k3 k4
  have HAr := Lib.hid ha3; have HRo := Lib.hid hr3; have HCl := Lib.hid cl3
  clear ha3 hr3 cl3
  go_loopw [13, 14] (fun v i wr => RelP ps w3 v i wr) (fun _ i _ => ps.length - (intOf i).toNat)
  case atStart => exact ⟨0, Nat.zero_le _, rfl, by rw [joined_zero]; exact World.ownsRow_nil _ _ _ _, Below.refl _ _, by simp [joined_zero]⟩
  case round =>
    obtain ⟨v, hu, rfl, hown, hb4, hz⟩ := hrel
    have HO := Lib.hid hown
    have HB4 := Lib.hid hb4
    have HZ := Lib.hid hz
    clear hown hb4 hz
    have cl4 := HCl.out.below HB4.out HCl.out.lt
    obtain ⟨j0, j1, j2, j3, j4⟩ := cl4.cells
    by_cases hul : v < ps.length
    · obtain ⟨b1, o1', rfl, hb1, hb2, hc⟩ := HP.out (by omega)
      obtain ⟨A, k, h3, h4, h5⟩ := hc v hul
      clear hc
      have hbl1 := block_lt_of_cell h3
      have HBw : Hid (Below w.heap.size w wr) := HB3.out.trans (HB4.out.mono HB3.out.size)
      have h3' : wr.cell? ⟨b1, o1' + v, none⟩ = some (.slice A (part ps v).length k) := by
        rw [HBw.out.cell (p := ⟨b1, o1' + v, none⟩) hbl1]; exact h3
      have HS : Hid (Src wr wr.heap.size wr.heap.size A (part ps v).length (fun j => (part ps v).getD j 0)) :=
        (h4.only (Only.of_below (p := w.heap.size) (m := w.heap.size) HBw.out) (.inl rfl) (.inl rfl)).re (Nat.le_refl _) (Nat.le_refl _)
      have hjl := joined_succ_le ps v hul
      clear h3 h4 hb1 hb2
      go_wp2_with (at_builtin; refine wpList_append_bytes rfl _ _ rfl w3.heap.size _ (joined ps v) rfl HO.out wr.heap.size wr.heap.size A k (part ps v) rfl HS.out (by omega) HB4.out.size ?c1)
      case c1 =>
        intro v' w5 h1 hg5
        have HR := Lib.hid (relP_step hul HS.out HB4.out HZ.out HO.out h1 hg5)
        clear h1 hg5
        go_wp2
        go_roundw
        case rel => exact HR.out
        case measure => simp [intOf]; omega
    · obtain rfl : v = ps.length := by omega
      rw [joined_all] at HO HZ
      obtain ⟨X, capX, rfl, hx1, hx2, hxs⟩ := own_src2 HO.out HZ.out
      have HX := Lib.hid hxs
      clear hxs HO HZ
      have ha4 := HAr.out.below HB4.out HAr.out.ltp HAr.out.ltm
      have hr4 := HRo.out.below HB4.out HRo.out.lt
      have HBw : Hid (Below w.heap.size w wr) := HB3.out.trans (HB4.out.mono HB3.out.size)
      have lq := HCl.out.lt; have lp := HAr.out.ltp; have lm := HAr.out.ltm; have lg := HRo.out.lt
      clear HB3 HAr HRo HCl hu hul
      have hgt' : decide ((3000 : Int) < ((whole ps).length : Int)) = false := by simpa using hgt
      have HPp : Hid (Parts wr p m B ps) := (HP.out.re hp' hm').only (Only.of_below (p := p) (m := m) HBw.out) (.inl rfl) (.inr (.inl rfl))
      go_wp2_with fail
      refine (write_bad p m s x1 c f B K ps wr ha4 HPp.out (by omega) (by omega) inr).mono ?_
      rintro e w5 ⟨rfl, rfl⟩
      go_wp2_with fail
      refine (in_any x1 (whole ps).length s wr (by omega) (by omega) false (by simp; omega)).mono ?_
      rintro e w6 ⟨rfl, rfl⟩
      clear inr
      go_wp2_with (first | (go_at_call 18; refine (size_any p m s _ _ _ (ha4)).mono ?_; rintro e w' ⟨rfl, rfl⟩) | (go_at_call 17; refine (cost_any p m s _ _ _ (ha4)).mono ?_; rintro e w' ⟨rfl, rfl⟩))
      exact rnd_mk rfl rfl rfl rfl rfl rfl rfl hlt (rel_next (ha4) (hr4) gp gm hp' hm' (by omega) (by omega) (HBw.out) hlt)
end Go.Proofs.Ytbednmifgbbhlaa.arenaPlays
