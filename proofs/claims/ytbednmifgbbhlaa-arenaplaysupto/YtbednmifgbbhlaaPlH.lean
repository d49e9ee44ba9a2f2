/-
  detentlaw2.ArenaPlays: cases of one round of its loop.
-/
import Derived.Test.YtbednmifgbbhlaaPlA
import Derived.StillTailTactics
namespace Go.Proofs.Ytbednmifgbbhlaa.arenaPlays
open Go.ChangeShapes Go.WideShapes Go.ChangeAt Go.RowKit
set_option linter.unusedVariables false

set_option maxHeartbeats 6400000 in
set_option maxRecDepth 100000 in
theorem case_4ok (Q0 : Exit → Act → World → Prop) (w wr : World) (s b o n cap g t p m : Nat) (c : Int) (f : Nat → Int) (x1 x2 x4 : Int) (B : Option Addr) (K : Nat) (ps : List (List Int)) (u : Nat → Value)
    (hd : Hd w wr s b o n g t p m c f 4 x1 x2 x4 B K ps) (inr : 0 ≤ x1 ∧ x1 + 4 ≤ s) (h4 : x1 % 4 = 0) :
    Code.wp Try.prog body (Exit.then (Rnd w s (some ⟨b, o, none⟩) n cap g t) Q0) (fr s (some ⟨b, o, none⟩) n cap g u (.pointer (some ⟨p, 0, none⟩)) (.int .i64 c) (.int .i64 (t : Int))) wr := by
  obtain ⟨hs, hn, hlt, k0, k1, k2, k3, k4, hPa, hPl, hPw, hbd, ha, hr, gp, gm, hp', hm', hgw, hc0, hc1, hb⟩ := hd
  have HBr := Lib.hid hb
  have HP := Lib.hid hPa
  clear hb hPa
  have ha3 := ha.alloc (.cells #[.int .i64 4, .int .i64 x1, .int .i64 x2, .slice B ps.length K, .int .u32 x4] 32)
  have hr3 := hr.alloc (.cells #[.int .i64 4, .int .i64 x1, .int .i64 x2, .slice B ps.length K, .int .u32 x4] 32)
  have HB3 := Lib.hid (HBr.out.alloc HBr.out.size (.cells #[.int .i64 4, .int .i64 x1, .int .i64 x2, .slice B ps.length K, .int .u32 x4] 32))
  have cl3 : Cl (wr.alloc (.cells #[.int .i64 4, .int .i64 x1, .int .i64 x2, .slice B ps.length K, .int .u32 x4] 32)) wr.heap.size 4 x1 x2 B ps.length K x4 := heap_alloc_new _ _
  have qp : wr.heap.size ≠ p := by have := ha.ltp; omega
  have qm : wr.heap.size ≠ m := by have := ha.ltm; omega
  have qg : wr.heap.size ≠ g := by have := hr.lt; omega
  have qw : w.heap.size ≤ wr.heap.size := HBr.out.size
  have c5 : c ≤ 300000 := by omega
  clear HBr ha hr
  unfold fr
  conv => arg 2; whnf
  go_wp2_with fail
  generalize wr.alloc (.cells #[.int .i64 4, .int .i64 x1, .int .i64 x2, .slice B ps.length K, .int .u32 x4] 32) = w3 at *
  generalize wr.heap.size = q at *
  clear k0 k1 k2 k3 k4
  obtain ⟨j0, j1, j2, j3, j4⟩ := cl3.cells
  obtain ⟨i1, i2⟩ := inr
  obtain ⟨a, rfl⟩ : ∃ a : Nat, x1 = a := ⟨x1.toNat, by omega⟩
  refine (in_any a 4 s w3 (by omega) (by omega) true (by simp; omega)).mono ?_
  rintro e w4 ⟨rfl, rfl⟩
  have z1 : ((a : Int) % 4 == 0) = true := by simpa using h4
  have h4' : a % 4 = 0 := by omega
  clear h4
  go_wp2_with fail
  refine (putWord_ok p m s a c x4 f w3 ha3 h4' (by omega) (by omega) hc0 (by omega) hbd.1 hbd.2).mono ?_
  rintro e w4 ⟨rfl, ha4, ho4⟩
  have cl4 := cl3.only ho4 qp qm
  have hr4 := hr3.only ho4 gp gm
  have HB4 : Hid (Below w.heap.size w w4) := HB3.out.trans (ho4.below HB3.out.size hp' hm')
  clear j0 j1 j2 j3 j4 ha3 hr3 HB3 cl3 ho4 z1
  obtain ⟨j0, j1, j2, j3, j4⟩ := cl4.cells
  go_wp2_with fail
  clear j0 j1 j2 j3 j4
  go_loopw [22] (fun i wr => RelC g s a 4 f (byteOf x4) w4 i wr) (fun i _ => 4 - (intOf i).toNat)
  case atStart => exact ⟨0, Nat.zero_le _, rfl, by rw [upd_zero]; exact hr4, Only.refl _ _ _⟩
  case round =>
    obtain ⟨v, hu, rfl, hru, hou⟩ := hrel
    have cl6 := cl4.only hou qg qg
    obtain ⟨j0, j1, j2, j3, j4⟩ := cl6.cells
    by_cases hul : v < 4
    · have cm := hru.at_ (i := a + v) (by omega)
      have cf := hru.frozen (a + v)
      have v1 : ((a : Int) + (v : Int)).toNat = a + v := by omega
      have v3 : (a : Int) + (v : Int) < (s : Int) := by omega
      go_wp2
      go_roundw
      case rel => exact ⟨v + 1, by omega, by go_num, hru.put (q := byteOf x4) (byteOf_lo x4 v).1 (byteOf_lo x4 v).2 (by omega), hou.setCell (q := ⟨g, a + v, none⟩) (.inl rfl) _⟩
      case measure => simp [intOf]; omega
    · obtain rfl : v = 4 := by omega
      have ha6 := ha4.only hou (Ne.symm gp) (Ne.symm gp) (Ne.symm gm) (Ne.symm gm)
      have HB6 : Hid (Below w.heap.size w wr) := HB4.out.trans (hou.below HB4.out.size hgw hgw)
      clear ha4 hr4 cl4
      go_wp2_with (first | (go_at_call 18; refine (size_any p m s _ _ _ (ha6)).mono ?_; rintro e w' ⟨rfl, rfl⟩) | (go_at_call 17; refine (cost_any p m s _ _ _ (ha6)).mono ?_; rintro e w' ⟨rfl, rfl⟩))
      exact rnd_mk rfl rfl rfl rfl rfl rfl rfl hlt (rel_next (ha6) (hru) gp gm hp' hm' (by omega) (by omega) (HB6.out) hlt)

set_option maxHeartbeats 6400000 in
set_option maxRecDepth 100000 in
theorem case_5ok (Q0 : Exit → Act → World → Prop) (w wr : World) (s b o n cap g t p m : Nat) (c : Int) (f : Nat → Int) (x1 x2 x4 : Int) (B : Option Addr) (K : Nat) (ps : List (List Int)) (u : Nat → Value)
    (hd : Hd w wr s b o n g t p m c f 5 x1 x2 x4 B K ps) (inr : 0 ≤ x1 ∧ 0 ≤ x2 ∧ x1 + x2 ≤ s) :
    Code.wp Try.prog body (Exit.then (Rnd w s (some ⟨b, o, none⟩) n cap g t) Q0) (fr s (some ⟨b, o, none⟩) n cap g u (.pointer (some ⟨p, 0, none⟩)) (.int .i64 c) (.int .i64 (t : Int))) wr := by
  obtain ⟨hs, hn, hlt, k0, k1, k2, k3, k4, hPa, hPl, hPw, hbd, ha, hr, gp, gm, hp', hm', hgw, hc0, hc1, hb⟩ := hd
  have HBr := Lib.hid hb
  have HP := Lib.hid hPa
  clear hb hPa
  have hx8 : 0 ≤ x4 % 256 ∧ x4 % 256 ≤ 255 := by omega
  have ha3 := ha.alloc (.cells #[.int .i64 5, .int .i64 x1, .int .i64 x2, .slice B ps.length K, .int .u32 x4] 32)
  have hr3 := hr.alloc (.cells #[.int .i64 5, .int .i64 x1, .int .i64 x2, .slice B ps.length K, .int .u32 x4] 32)
  have HB3 := Lib.hid (HBr.out.alloc HBr.out.size (.cells #[.int .i64 5, .int .i64 x1, .int .i64 x2, .slice B ps.length K, .int .u32 x4] 32))
  have cl3 : Cl (wr.alloc (.cells #[.int .i64 5, .int .i64 x1, .int .i64 x2, .slice B ps.length K, .int .u32 x4] 32)) wr.heap.size 5 x1 x2 B ps.length K x4 := heap_alloc_new _ _
  have qp : wr.heap.size ≠ p := by have := ha.ltp; omega
  have qm : wr.heap.size ≠ m := by have := ha.ltm; omega
  have qg : wr.heap.size ≠ g := by have := hr.lt; omega
  have qw : w.heap.size ≤ wr.heap.size := HBr.out.size
  have c5 : c ≤ 300000 := by omega
  clear HBr ha hr
  unfold fr
  conv => arg 2; whnf
  go_wp2_with fail
  generalize wr.alloc (.cells #[.int .i64 5, .int .i64 x1, .int .i64 x2, .slice B ps.length K, .int .u32 x4] 32) = w3 at *
  generalize wr.heap.size = q at *
  clear k0 k1 k2 k3 k4
  obtain ⟨i1, i2, i3⟩ := inr
  obtain ⟨a, rfl⟩ : ∃ a : Nat, x1 = a := ⟨x1.toNat, by omega⟩
  obtain ⟨k, rfl⟩ : ∃ k : Nat, x2 = k := ⟨x2.toNat, by omega⟩
  refine (fill_ok p m s a k c (x4 % 256) f w3 ha3 (by omega) (by omega) hc0 (by omega) hx8.1 hx8.2).mono ?_
  rintro e w4 ⟨rfl, ha4, ho4⟩
  have cl4 := cl3.only ho4 qp qm
  have hr4 := hr3.only ho4 gp gm
  have HB4 : Hid (Below w.heap.size w w4) := HB3.out.trans (ho4.below HB3.out.size hp' hm')
  clear ha3 hr3 HB3 cl3 ho4
  obtain ⟨j0, j1, j2, j3, j4⟩ := cl4.cells
  go_wp2_with fail
  refine (in_any a k s w4 (by omega) (by omega) true (by simp; omega)).mono ?_
  rintro e w5 ⟨rfl, rfl⟩
  go_wp2_with fail
  clear j0 j1 j2 j3 j4
  go_loopw [24] (fun i wr => RelC g s a k f (fun _ => x4 % 256) w4 i wr) (fun i _ => k - (intOf i).toNat)
  case atStart => exact ⟨0, Nat.zero_le _, rfl, by rw [upd_zero]; exact hr4, Only.refl _ _ _⟩
  case round =>
    obtain ⟨v, hu, rfl, hru, hou⟩ := hrel
    have cl6 := cl4.only hou qg qg
    obtain ⟨j0, j1, j2, j3, j4⟩ := cl6.cells
    by_cases hul : v < k
    · have cm := hru.at_ (i := a + v) (by omega)
      have cf := hru.frozen (a + v)
      have v1 : ((a : Int) + (v : Int)).toNat = a + v := by omega
      have v3 : (a : Int) + (v : Int) < (s : Int) := by omega
      have v4 : (v : Int) < (k : Int) := by omega
      go_wp2
      go_roundw
      case rel => exact ⟨v + 1, by omega, by go_num, hru.put (q := fun _ => x4 % 256) hx8.1 hx8.2 (by omega), hou.setCell (q := ⟨g, a + v, none⟩) (.inl rfl) _⟩
      case measure => simp [intOf]; omega
    · have v4 : decide (v < k) = false := by simpa using hul
      have v4' : decide ((v : Int) < (k : Int)) = false := by simp; omega
      obtain rfl : v = k := by omega
      have ha6 := ha4.only hou (Ne.symm gp) (Ne.symm gp) (Ne.symm gm) (Ne.symm gm)
      have HB6 : Hid (Below w.heap.size w wr) := HB4.out.trans (hou.below HB4.out.size hgw hgw)
      clear ha4 hr4 cl4
      go_wp2_with (first | (go_at_call 18; refine (size_any p m s _ _ _ (ha6)).mono ?_; rintro e w' ⟨rfl, rfl⟩) | (go_at_call 17; refine (cost_any p m s _ _ _ (ha6)).mono ?_; rintro e w' ⟨rfl, rfl⟩))
      exact rnd_mk rfl rfl rfl rfl rfl rfl rfl hlt (rel_next (ha6) (hru) gp gm hp' hm' (by omega) (by omega) (HB6.out) hlt)

set_option maxHeartbeats 6400000 in
set_option maxRecDepth 100000 in
theorem case_5pos (Q0 : Exit → Act → World → Prop) (w wr : World) (s b o n cap g t p m : Nat) (c : Int) (f : Nat → Int) (x1 x2 x4 : Int) (B : Option Addr) (K : Nat) (ps : List (List Int)) (u : Nat → Value)
    (hd : Hd w wr s b o n g t p m c f 5 x1 x2 x4 B K ps) (inr : ¬ (0 ≤ x1 ∧ 0 ≤ x2 ∧ x1 + x2 ≤ s)) (hx2 : 0 < x2) :
    Code.wp Try.prog body (Exit.then (Rnd w s (some ⟨b, o, none⟩) n cap g t) Q0) (fr s (some ⟨b, o, none⟩) n cap g u (.pointer (some ⟨p, 0, none⟩)) (.int .i64 c) (.int .i64 (t : Int))) wr := by
  obtain ⟨hs, hn, hlt, k0, k1, k2, k3, k4, hPa, hPl, hPw, hbd, ha, hr, gp, gm, hp', hm', hgw, hc0, hc1, hb⟩ := hd
  have HBr := Lib.hid hb
  have HP := Lib.hid hPa
  clear hb hPa
  have ha3 := ha.alloc (.cells #[.int .i64 5, .int .i64 x1, .int .i64 x2, .slice B ps.length K, .int .u32 x4] 32)
  have hr3 := hr.alloc (.cells #[.int .i64 5, .int .i64 x1, .int .i64 x2, .slice B ps.length K, .int .u32 x4] 32)
  have HB3 := Lib.hid (HBr.out.alloc HBr.out.size (.cells #[.int .i64 5, .int .i64 x1, .int .i64 x2, .slice B ps.length K, .int .u32 x4] 32))
  have cl3 : Cl (wr.alloc (.cells #[.int .i64 5, .int .i64 x1, .int .i64 x2, .slice B ps.length K, .int .u32 x4] 32)) wr.heap.size 5 x1 x2 B ps.length K x4 := heap_alloc_new _ _
  have qp : wr.heap.size ≠ p := by have := ha.ltp; omega
  have qm : wr.heap.size ≠ m := by have := ha.ltm; omega
  have qg : wr.heap.size ≠ g := by have := hr.lt; omega
  have qw : w.heap.size ≤ wr.heap.size := HBr.out.size
  have c5 : c ≤ 300000 := by omega
  clear HBr ha hr
  unfold fr
  conv => arg 2; whnf
  go_wp2_with fail
  generalize wr.alloc (.cells #[.int .i64 5, .int .i64 x1, .int .i64 x2, .slice B ps.length K, .int .u32 x4] 32) = w3 at *
  generalize wr.heap.size = q at *
  clear k0 k1 k2 k3 k4
  refine (fill_bad p m s x1 x2 c (x4 % 256) f w3 ha3 inr).mono ?_
  rintro e w4 ⟨rfl, rfl⟩
  obtain ⟨j0, j1, j2, j3, j4⟩ := cl3.cells
  go_wp2_with fail
  refine (in_any x1 x2 s w3 (by omega) (by omega) false (by simpa using inr)).mono ?_
  rintro e w5 ⟨rfl, rfl⟩
  clear inr
  go_wp2_with fail
  go_loop [24] (fun i => i = .int .i64 0) (fun _ => 0)
  case atStart => rfl
  case round =>
    subst hrel
    go_wp2_with (first | (go_at_call 18; refine (size_any p m s _ _ _ (ha3)).mono ?_; rintro e w' ⟨rfl, rfl⟩) | (go_at_call 17; refine (cost_any p m s _ _ _ (ha3)).mono ?_; rintro e w' ⟨rfl, rfl⟩))
    exact rnd_mk rfl rfl rfl rfl rfl rfl rfl hlt (rel_next (ha3) (hr3) gp gm hp' hm' (by omega) (by omega) (HB3.out) hlt)

set_option maxHeartbeats 6400000 in
set_option maxRecDepth 100000 in
theorem case_5neg (Q0 : Exit → Act → World → Prop) (w wr : World) (s b o n cap g t p m : Nat) (c : Int) (f : Nat → Int) (x1 x2 x4 : Int) (B : Option Addr) (K : Nat) (ps : List (List Int)) (u : Nat → Value)
    (hd : Hd w wr s b o n g t p m c f 5 x1 x2 x4 B K ps) (inr : ¬ (0 ≤ x1 ∧ 0 ≤ x2 ∧ x1 + x2 ≤ s)) (hx2 : ¬ 0 < x2) :
    Code.wp Try.prog body (Exit.then (Rnd w s (some ⟨b, o, none⟩) n cap g t) Q0) (fr s (some ⟨b, o, none⟩) n cap g u (.pointer (some ⟨p, 0, none⟩)) (.int .i64 c) (.int .i64 (t : Int))) wr := by
  obtain ⟨hs, hn, hlt, k0, k1, k2, k3, k4, hPa, hPl, hPw, hbd, ha, hr, gp, gm, hp', hm', hgw, hc0, hc1, hb⟩ := hd
  have HBr := Lib.hid hb
  have HP := Lib.hid hPa
  clear hb hPa
  have ha3 := ha.alloc (.cells #[.int .i64 5, .int .i64 x1, .int .i64 x2, .slice B ps.length K, .int .u32 x4] 32)
  have hr3 := hr.alloc (.cells #[.int .i64 5, .int .i64 x1, .int .i64 x2, .slice B ps.length K, .int .u32 x4] 32)
  have HB3 := Lib.hid (HBr.out.alloc HBr.out.size (.cells #[.int .i64 5, .int .i64 x1, .int .i64 x2, .slice B ps.length K, .int .u32 x4] 32))
  have cl3 : Cl (wr.alloc (.cells #[.int .i64 5, .int .i64 x1, .int .i64 x2, .slice B ps.length K, .int .u32 x4] 32)) wr.heap.size 5 x1 x2 B ps.length K x4 := heap_alloc_new _ _
  have qp : wr.heap.size ≠ p := by have := ha.ltp; omega
  have qm : wr.heap.size ≠ m := by have := ha.ltm; omega
  have qg : wr.heap.size ≠ g := by have := hr.lt; omega
  have qw : w.heap.size ≤ wr.heap.size := HBr.out.size
  have c5 : c ≤ 300000 := by omega
  clear HBr ha hr
  unfold fr
  conv => arg 2; whnf
  go_wp2_with fail
  generalize wr.alloc (.cells #[.int .i64 5, .int .i64 x1, .int .i64 x2, .slice B ps.length K, .int .u32 x4] 32) = w3 at *
  generalize wr.heap.size = q at *
  clear k0 k1 k2 k3 k4
  refine (fill_bad p m s x1 x2 c (x4 % 256) f w3 ha3 inr).mono ?_
  rintro e w4 ⟨rfl, rfl⟩
  obtain ⟨j0, j1, j2, j3, j4⟩ := cl3.cells
  go_wp2_with fail
  refine (in_any x1 x2 s w3 (by omega) (by omega) false (by simpa using inr)).mono ?_
  rintro e w5 ⟨rfl, rfl⟩
  clear inr
  have hx2d : decide (0 < x2) = false := by simpa using hx2
  clear hx2
  go_wp2_with fail
  go_loop [24] (fun i => i = .int .i64 0) (fun _ => 0)
  case atStart => rfl
  case round =>
    subst hrel
    go_wp2_with (first | (go_at_call 18; refine (size_any p m s _ _ _ (ha3)).mono ?_; rintro e w' ⟨rfl, rfl⟩) | (go_at_call 17; refine (cost_any p m s _ _ _ (ha3)).mono ?_; rintro e w' ⟨rfl, rfl⟩))
    exact rnd_mk rfl rfl rfl rfl rfl rfl rfl hlt (rel_next (ha3) (hr3) gp gm hp' hm' (by omega) (by omega) (HB3.out) hlt)
end Go.Proofs.Ytbednmifgbbhlaa.arenaPlays
