/-
  detentlaw2.ArenaPlays: cases of one round of its loop.
-/
import Derived.Test.YtbednmifgbbhlaaPlA
import Derived.StillTailTactics
namespace Go.Proofs.Ytbednmifgbbhlaa.arenaPlays
open Go.ChangeShapes Go.WideShapes Go.ChangeAt Go.RowKit
set_option linter.unusedVariables false

set_option maxHeartbeats 6400000 in
set_option maxRecDepth 100000 in
theorem case_els (Q0 : Exit → Act → World → Prop) (w wr : World) (s b o n cap g t p m : Nat) (c : Int) (f : Nat → Int) (x0 x1 x2 x4 : Int) (B : Option Addr) (K : Nat) (ps : List (List Int)) (u : Nat → Value)
    (hd : Hd w wr s b o n g t p m c f x0 x1 x2 x4 B K ps) (o1 : ¬ x0 = 1) (o2 : ¬ x0 = 2) (o3 : ¬ x0 = 3) (o4 : ¬ x0 = 4) (o5 : ¬ x0 = 5) (o6 : ¬ x0 = 6) :
    Code.wp Try.prog body (Exit.then (Rnd w s (some ⟨b, o, none⟩) n cap g t) Q0) (fr s (some ⟨b, o, none⟩) n cap g u (.pointer (some ⟨p, 0, none⟩)) (.int .i64 c) (.int .i64 (t : Int))) wr := by
  obtain ⟨hs, hn, hlt, k0, k1, k2, k3, k4, hPa, hPl, hPw, hbd, ha, hr, gp, gm, hp', hm', hgw, hc0, hc1, hb⟩ := hd
  have HBr := Lib.hid hb
  have HP := Lib.hid hPa
  clear hb hPa
  have f1 : (x0 == 1) = false := by simpa using o1
  have f2 : (x0 == 2) = false := by simpa using o2
  have f3 : (x0 == 3) = false := by simpa using o3
  have f4 : (x0 == 4) = false := by simpa using o4
  have f5 : (x0 == 5) = false := by simpa using o5
  have f6 : (x0 == 6) = false := by simpa using o6
  have ha3 := ha.alloc (.cells #[.int .i64 x0, .int .i64 x1, .int .i64 x2, .slice B ps.length K, .int .u32 x4] 32)
  have hr3 := hr.alloc (.cells #[.int .i64 x0, .int .i64 x1, .int .i64 x2, .slice B ps.length K, .int .u32 x4] 32)
  have HB3 := Lib.hid (HBr.out.alloc HBr.out.size (.cells #[.int .i64 x0, .int .i64 x1, .int .i64 x2, .slice B ps.length K, .int .u32 x4] 32))
  have cl3 : Cl (wr.alloc (.cells #[.int .i64 x0, .int .i64 x1, .int .i64 x2, .slice B ps.length K, .int .u32 x4] 32)) wr.heap.size x0 x1 x2 B ps.length K x4 := heap_alloc_new _ _
  have qp : wr.heap.size ≠ p := by have := ha.ltp; omega
  have qm : wr.heap.size ≠ m := by have := ha.ltm; omega
  have qg : wr.heap.size ≠ g := by have := hr.lt; omega
  have qw : w.heap.size ≤ wr.heap.size := HBr.out.size
  have c5 : c ≤ 300000 := by omega
  clear HBr ha hr
  unfold fr
  conv => arg 2; whnf
  go_wp2_with fail
  generalize wr.alloc (.cells #[.int .i64 x0, .int .i64 x1, .int .i64 x2, .slice B ps.length K, .int .u32 x4] 32) = w3 at *
  generalize wr.heap.size = q at *
  clear k0 k1 k2 k3 k4
  go_wp2_with (first | (go_at_call 18; refine (size_any p m s _ _ _ (ha3)).mono ?_; rintro e w' ⟨rfl, rfl⟩) | (go_at_call 17; refine (cost_any p m s _ _ _ (ha3)).mono ?_; rintro e w' ⟨rfl, rfl⟩))
  exact rnd_mk rfl rfl rfl rfl rfl rfl rfl hlt (rel_next (ha3) (hr3) gp gm hp' hm' (by omega) (by omega) (HB3.out) hlt)

set_option maxHeartbeats 6400000 in
set_option maxRecDepth 100000 in
theorem case_6 (Q0 : Exit → Act → World → Prop) (w wr : World) (s b o n cap g t p m : Nat) (c : Int) (f : Nat → Int) (x1 x2 x4 : Int) (B : Option Addr) (K : Nat) (ps : List (List Int)) (u : Nat → Value)
    (hd : Hd w wr s b o n g t p m c f 6 x1 x2 x4 B K ps) :
    Code.wp Try.prog body (Exit.then (Rnd w s (some ⟨b, o, none⟩) n cap g t) Q0) (fr s (some ⟨b, o, none⟩) n cap g u (.pointer (some ⟨p, 0, none⟩)) (.int .i64 c) (.int .i64 (t : Int))) wr := by
  obtain ⟨hs, hn, hlt, k0, k1, k2, k3, k4, hPa, hPl, hPw, hbd, ha, hr, gp, gm, hp', hm', hgw, hc0, hc1, hb⟩ := hd
  have HBr := Lib.hid hb
  have HP := Lib.hid hPa
  clear hb hPa
  have ha3 := ha.alloc (.cells #[.int .i64 6, .int .i64 x1, .int .i64 x2, .slice B ps.length K, .int .u32 x4] 32)
  have hr3 := hr.alloc (.cells #[.int .i64 6, .int .i64 x1, .int .i64 x2, .slice B ps.length K, .int .u32 x4] 32)
  have HB3 := Lib.hid (HBr.out.alloc HBr.out.size (.cells #[.int .i64 6, .int .i64 x1, .int .i64 x2, .slice B ps.length K, .int .u32 x4] 32))
  have cl3 : Cl (wr.alloc (.cells #[.int .i64 6, .int .i64 x1, .int .i64 x2, .slice B ps.length K, .int .u32 x4] 32)) wr.heap.size 6 x1 x2 B ps.length K x4 := heap_alloc_new _ _
  have qp : wr.heap.size ≠ p := by have := ha.ltp; omega
  have qm : wr.heap.size ≠ m := by have := ha.ltm; omega
  have qg : wr.heap.size ≠ g := by have := hr.lt; omega
  have qw : w.heap.size ≤ wr.heap.size := HBr.out.size
  have c5 : c ≤ 300000 := by omega
  clear HBr ha hr
  unfold fr
  conv => arg 2; whnf
  go_wp2_with fail
  generalize wr.alloc (.cells #[.int .i64 6, .int .i64 x1, .int .i64 x2, .slice B ps.length K, .int .u32 x4] 32) = w3 at *
  generalize wr.heap.size = q at *
  clear k0 k1 k2 k3 k4
  refine (twin_any p m s c f w3 ha3 (by omega)).mono ?_
  rintro e w4 ⟨p2, m2, hp2, hm2, rfl, hb4, hbl4⟩
  have ha4 := ha3.below hbl4 ha3.ltp ha3.ltm
  have hr4 := hr3.below hbl4 hr3.lt
  have HB4 : Hid (Below w.heap.size w w4) := HB3.out.trans (hbl4.mono HB3.out.size)
  have d1 : p2 ≠ p := by have := ha3.ltp; omega
  have d2 : p2 ≠ m := by have := ha3.ltm; omega
  have d3 : m2 ≠ p := by have := ha3.ltp; omega
  have d4 : m2 ≠ m := by have := ha3.ltm; omega
  have gp2 : g ≠ p2 := by have := hr3.lt; omega
  have gm2 : g ≠ m2 := by have := hr3.lt; omega
  have hp2 : w.heap.size ≤ p2 := Nat.le_trans HB3.out.size hp2
  have hm2 : w.heap.size ≤ m2 := Nat.le_trans HB3.out.size hm2
  clear ha3 hr3 HB3 cl3 hbl4
  go_wp2_with fail
  refine (fill_ok p m s 0 s c 99 f w4 ha4 (by omega) (by omega) hc0 (by omega) (by omega) (by omega)).mono ?_
  rintro e w5 ⟨rfl, ha5, ho5⟩
  have hb5 := hb4.only ho5 d1 d2 d3 d4
  have hr5 := hr4.only ho5 gp gm
  have HB5 : Hid (Below w.heap.size w w5) := HB4.out.trans (ho5.below HB4.out.size hp' hm')
  clear ha4 hb4 hr4 HB4 ho5 ha5
  go_wp2_with (first | (go_at_call 18; refine (size_any p2 m2 s _ _ _ (hb5)).mono ?_; rintro e w' ⟨rfl, rfl⟩) | (go_at_call 17; refine (cost_any p2 m2 s _ _ _ (hb5)).mono ?_; rintro e w' ⟨rfl, rfl⟩))
  exact rnd_mk rfl rfl rfl rfl rfl rfl rfl hlt (rel_next (hb5) (hr5) gp2 gm2 hp2 hm2 (by omega) (by omega) (HB5.out) hlt)

set_option maxHeartbeats 6400000 in
set_option maxRecDepth 100000 in
theorem case_1bad (Q0 : Exit → Act → World → Prop) (w wr : World) (s b o n cap g t p m : Nat) (c : Int) (f : Nat → Int) (x1 x2 x4 : Int) (B : Option Addr) (K : Nat) (ps : List (List Int)) (u : Nat → Value)
    (hd : Hd w wr s b o n g t p m c f 1 x1 x2 x4 B K ps) (inr : ¬ (0 ≤ x1 ∧ 0 ≤ x2 ∧ x1 + x2 ≤ s)) :
    Code.wp Try.prog body (Exit.then (Rnd w s (some ⟨b, o, none⟩) n cap g t) Q0) (fr s (some ⟨b, o, none⟩) n cap g u (.pointer (some ⟨p, 0, none⟩)) (.int .i64 c) (.int .i64 (t : Int))) wr := by
  obtain ⟨hs, hn, hlt, k0, k1, k2, k3, k4, hPa, hPl, hPw, hbd, ha, hr, gp, gm, hp', hm', hgw, hc0, hc1, hb⟩ := hd
  have HBr := Lib.hid hb
  have HP := Lib.hid hPa
  clear hb hPa
  have ha3 := ha.alloc (.cells #[.int .i64 1, .int .i64 x1, .int .i64 x2, .slice B ps.length K, .int .u32 x4] 32)
  have hr3 := hr.alloc (.cells #[.int .i64 1, .int .i64 x1, .int .i64 x2, .slice B ps.length K, .int .u32 x4] 32)
  have HB3 := Lib.hid (HBr.out.alloc HBr.out.size (.cells #[.int .i64 1, .int .i64 x1, .int .i64 x2, .slice B ps.length K, .int .u32 x4] 32))
  have cl3 : Cl (wr.alloc (.cells #[.int .i64 1, .int .i64 x1, .int .i64 x2, .slice B ps.length K, .int .u32 x4] 32)) wr.heap.size 1 x1 x2 B ps.length K x4 := heap_alloc_new _ _
  have qp : wr.heap.size ≠ p := by have := ha.ltp; omega
  have qm : wr.heap.size ≠ m := by have := ha.ltm; omega
  have qg : wr.heap.size ≠ g := by have := hr.lt; omega
  have qw : w.heap.size ≤ wr.heap.size := HBr.out.size
  have c5 : c ≤ 300000 := by omega
  clear HBr ha hr
  unfold fr
  conv => arg 2; whnf
  go_wp2_with fail
  generalize wr.alloc (.cells #[.int .i64 1, .int .i64 x1, .int .i64 x2, .slice B ps.length K, .int .u32 x4] 32) = w3 at *
  generalize wr.heap.size = q at *
  clear k0 k1 k2 k3 k4
  refine (read_bad p m s x1 x2 c f w3 ha3 inr).mono ?_
  rintro e w4 ⟨rfl, rfl⟩
  obtain ⟨j0, j1, j2, j3, j4⟩ := cl3.cells
  go_wp2_with fail
  refine (in_any x1 x2 s w3 (by omega) (by omega) false (by simpa using inr)).mono ?_
  rintro e w5 ⟨rfl, rfl⟩
  clear inr
  go_wp2_with (first | (go_at_call 18; refine (size_any p m s _ _ _ (ha3)).mono ?_; rintro e w' ⟨rfl, rfl⟩) | (go_at_call 17; refine (cost_any p m s _ _ _ (ha3)).mono ?_; rintro e w' ⟨rfl, rfl⟩))
  exact rnd_mk rfl rfl rfl rfl rfl rfl rfl hlt (rel_next (ha3) (hr3) gp gm hp' hm' (by omega) (by omega) (HB3.out) hlt)

set_option maxHeartbeats 6400000 in
set_option maxRecDepth 100000 in
theorem case_3out (Q0 : Exit → Act → World → Prop) (w wr : World) (s b o n cap g t p m : Nat) (c : Int) (f : Nat → Int) (x1 x2 x4 : Int) (B : Option Addr) (K : Nat) (ps : List (List Int)) (u : Nat → Value)
    (hd : Hd w wr s b o n g t p m c f 3 x1 x2 x4 B K ps) (inr : ¬ (0 ≤ x1 ∧ x1 + 4 ≤ s)) :
    Code.wp Try.prog body (Exit.then (Rnd w s (some ⟨b, o, none⟩) n cap g t) Q0) (fr s (some ⟨b, o, none⟩) n cap g u (.pointer (some ⟨p, 0, none⟩)) (.int .i64 c) (.int .i64 (t : Int))) wr := by
  obtain ⟨hs, hn, hlt, k0, k1, k2, k3, k4, hPa, hPl, hPw, hbd, ha, hr, gp, gm, hp', hm', hgw, hc0, hc1, hb⟩ := hd
  have HBr := Lib.hid hb
  have HP := Lib.hid hPa
  clear hb hPa
  have ha3 := ha.alloc (.cells #[.int .i64 3, .int .i64 x1, .int .i64 x2, .slice B ps.length K, .int .u32 x4] 32)
  have hr3 := hr.alloc (.cells #[.int .i64 3, .int .i64 x1, .int .i64 x2, .slice B ps.length K, .int .u32 x4] 32)
  have HB3 := Lib.hid (HBr.out.alloc HBr.out.size (.cells #[.int .i64 3, .int .i64 x1, .int .i64 x2, .slice B ps.length K, .int .u32 x4] 32))
  have cl3 : Cl (wr.alloc (.cells #[.int .i64 3, .int .i64 x1, .int .i64 x2, .slice B ps.length K, .int .u32 x4] 32)) wr.heap.size 3 x1 x2 B ps.length K x4 := heap_alloc_new _ _
  have qp : wr.heap.size ≠ p := by have := ha.ltp; omega
  have qm : wr.heap.size ≠ m := by have := ha.ltm; omega
  have qg : wr.heap.size ≠ g := by have := hr.lt; omega
  have qw : w.heap.size ≤ wr.heap.size := HBr.out.size
  have c5 : c ≤ 300000 := by omega
  clear HBr ha hr
  unfold fr
  conv => arg 2; whnf
  go_wp2_with fail
  generalize wr.alloc (.cells #[.int .i64 3, .int .i64 x1, .int .i64 x2, .slice B ps.length K, .int .u32 x4] 32) = w3 at *
  generalize wr.heap.size = q at *
  clear k0 k1 k2 k3 k4
  obtain ⟨j0, j1, j2, j3, j4⟩ := cl3.cells
  refine (in_any x1 4 s w3 (by omega) (by omega) false (by simp; omega)).mono ?_
  rintro e w4 ⟨rfl, rfl⟩
  go_wp2_with fail
  refine (word_bad p m s x1 c f w3 ha3 (by omega)).mono ?_
  rintro e w5 ⟨rfl, rfl⟩
  clear inr
  go_wp2
  exact rnd_mk rfl rfl rfl rfl rfl rfl rfl hlt (rel_next ha3 hr3 gp gm hp' hm' (by omega) (by omega) HB3.out hlt)

set_option maxHeartbeats 6400000 in
set_option maxRecDepth 100000 in
theorem case_3mod (Q0 : Exit → Act → World → Prop) (w wr : World) (s b o n cap g t p m : Nat) (c : Int) (f : Nat → Int) (x1 x2 x4 : Int) (B : Option Addr) (K : Nat) (ps : List (List Int)) (u : Nat → Value)
    (hd : Hd w wr s b o n g t p m c f 3 x1 x2 x4 B K ps) (inr : 0 ≤ x1 ∧ x1 + 4 ≤ s) (h4 : ¬ x1 % 4 = 0) :
    Code.wp Try.prog body (Exit.then (Rnd w s (some ⟨b, o, none⟩) n cap g t) Q0) (fr s (some ⟨b, o, none⟩) n cap g u (.pointer (some ⟨p, 0, none⟩)) (.int .i64 c) (.int .i64 (t : Int))) wr := by
  obtain ⟨hs, hn, hlt, k0, k1, k2, k3, k4, hPa, hPl, hPw, hbd, ha, hr, gp, gm, hp', hm', hgw, hc0, hc1, hb⟩ := hd
  have HBr := Lib.hid hb
  have HP := Lib.hid hPa
  clear hb hPa
  have ha3 := ha.alloc (.cells #[.int .i64 3, .int .i64 x1, .int .i64 x2, .slice B ps.length K, .int .u32 x4] 32)
  have hr3 := hr.alloc (.cells #[.int .i64 3, .int .i64 x1, .int .i64 x2, .slice B ps.length K, .int .u32 x4] 32)
  have HB3 := Lib.hid (HBr.out.alloc HBr.out.size (.cells #[.int .i64 3, .int .i64 x1, .int .i64 x2, .slice B ps.length K, .int .u32 x4] 32))
  have cl3 : Cl (wr.alloc (.cells #[.int .i64 3, .int .i64 x1, .int .i64 x2, .slice B ps.length K, .int .u32 x4] 32)) wr.heap.size 3 x1 x2 B ps.length K x4 := heap_alloc_new _ _
  have qp : wr.heap.size ≠ p := by have := ha.ltp; omega
  have qm : wr.heap.size ≠ m := by have := ha.ltm; omega
  have qg : wr.heap.size ≠ g := by have := hr.lt; omega
  have qw : w.heap.size ≤ wr.heap.size := HBr.out.size
  have c5 : c ≤ 300000 := by omega
  clear HBr ha hr
  unfold fr
  conv => arg 2; whnf
  go_wp2_with fail
  generalize wr.alloc (.cells #[.int .i64 3, .int .i64 x1, .int .i64 x2, .slice B ps.length K, .int .u32 x4] 32) = w3 at *
  generalize wr.heap.size = q at *
  clear k0 k1 k2 k3 k4
  obtain ⟨j0, j1, j2, j3, j4⟩ := cl3.cells
  obtain ⟨i1, i2⟩ := inr
  obtain ⟨a, rfl⟩ : ∃ a : Nat, x1 = a := ⟨x1.toNat, by omega⟩
  refine (in_any a 4 s w3 (by omega) (by omega) true (by simp; omega)).mono ?_
  rintro e w4 ⟨rfl, rfl⟩
  have z1 : ((a : Int) % 4 == 0) = false := by simpa using h4
  go_wp2_with fail
  refine (word_bad p m s a c f w3 ha3 (by rw [Int.tmod_eq_emod_of_nonneg (by omega)]; omega)).mono ?_
  rintro e w5 ⟨rfl, rfl⟩
  clear h4
  go_wp2
  exact rnd_mk rfl rfl rfl rfl rfl rfl rfl hlt (rel_next ha3 hr3 gp gm hp' hm' (by omega) (by omega) HB3.out hlt)

set_option maxHeartbeats 6400000 in
set_option maxRecDepth 100000 in
theorem case_4out (Q0 : Exit → Act → World → Prop) (w wr : World) (s b o n cap g t p m : Nat) (c : Int) (f : Nat → Int) (x1 x2 x4 : Int) (B : Option Addr) (K : Nat) (ps : List (List Int)) (u : Nat → Value)
    (hd : Hd w wr s b o n g t p m c f 4 x1 x2 x4 B K ps) (inr : ¬ (0 ≤ x1 ∧ x1 + 4 ≤ s)) :
    Code.wp Try.prog body (Exit.then (Rnd w s (some ⟨b, o, none⟩) n cap g t) Q0) (fr s (some ⟨b, o, none⟩) n cap g u (.pointer (some ⟨p, 0, none⟩)) (.int .i64 c) (.int .i64 (t : Int))) wr := by
  obtain ⟨hs, hn, hlt, k0, k1, k2, k3, k4, hPa, hPl, hPw, hbd, ha, hr, gp, gm, hp', hm', hgw, hc0, hc1, hb⟩ := hd
  have HBr := Lib.hid hb
  have HP := Lib.hid hPa
  clear hb hPa
  have ha3 := ha.alloc (.cells #[.int .i64 4, .int .i64 x1, .int .i64 x2, .slice B ps.length K, .int .u32 x4] 32)
  have hr3 := hr.alloc (.cells #[.int .i64 4, .int .i64 x1, .int .i64 x2, .slice B ps.length K, .int .u32 x4] 32)
  have HB3 := Lib.hid (HBr.out.alloc HBr.out.size (.cells #[.int .i64 4, .int .i64 x1, .int .i64 x2, .slice B ps.length K, .int .u32 x4] 32))
  have cl3 : Cl (wr.alloc (.cells #[.int .i64 4, .int .i64 x1, .int .i64 x2, .slice B ps.length K, .int .u32 x4] 32)) wr.heap.size 4 x1 x2 B ps.length K x4 := heap_alloc_new _ _
  have qp : wr.heap.size ≠ p := by have := ha.ltp; omega
  have qm : wr.heap.size ≠ m := by have := ha.ltm; omega
  have qg : wr.heap.size ≠ g := by have := hr.lt; omega
  have qw : w.heap.size ≤ wr.heap.size := HBr.out.size
  have c5 : c ≤ 300000 := by omega
  clear HBr ha hr
  unfold fr
  conv => arg 2; whnf
  go_wp2_with fail
  generalize wr.alloc (.cells #[.int .i64 4, .int .i64 x1, .int .i64 x2, .slice B ps.length K, .int .u32 x4] 32) = w3 at *
  generalize wr.heap.size = q at *
  clear k0 k1 k2 k3 k4
  obtain ⟨j0, j1, j2, j3, j4⟩ := cl3.cells
  refine (in_any x1 4 s w3 (by omega) (by omega) false (by simp; omega)).mono ?_
  rintro e w4 ⟨rfl, rfl⟩
  go_wp2_with fail
  refine (putWord_bad p m s x1 c x4 f w3 ha3 (by omega)).mono ?_
  rintro e w5 ⟨rfl, rfl⟩
  clear inr
  go_wp2
  exact rnd_mk rfl rfl rfl rfl rfl rfl rfl hlt (rel_next ha3 hr3 gp gm hp' hm' (by omega) (by omega) HB3.out hlt)

set_option maxHeartbeats 6400000 in
set_option maxRecDepth 100000 in
theorem case_4mod (Q0 : Exit → Act → World → Prop) (w wr : World) (s b o n cap g t p m : Nat) (c : Int) (f : Nat → Int) (x1 x2 x4 : Int) (B : Option Addr) (K : Nat) (ps : List (List Int)) (u : Nat → Value)
    (hd : Hd w wr s b o n g t p m c f 4 x1 x2 x4 B K ps) (inr : 0 ≤ x1 ∧ x1 + 4 ≤ s) (h4 : ¬ x1 % 4 = 0) :
    Code.wp Try.prog body (Exit.then (Rnd w s (some ⟨b, o, none⟩) n cap g t) Q0) (fr s (some ⟨b, o, none⟩) n cap g u (.pointer (some ⟨p, 0, none⟩)) (.int .i64 c) (.int .i64 (t : Int))) wr := by
  obtain ⟨hs, hn, hlt, k0, k1, k2, k3, k4, hPa, hPl, hPw, hbd, ha, hr, gp, gm, hp', hm', hgw, hc0, hc1, hb⟩ := hd
  have HBr := Lib.hid hb
  have HP := Lib.hid hPa
  clear hb hPa
  have ha3 := ha.alloc (.cells #[.int .i64 4, .int .i64 x1, .int .i64 x2, .slice B ps.length K, .int .u32 x4] 32)
  have hr3 := hr.alloc (.cells #[.int .i64 4, .int .i64 x1, .int .i64 x2, .slice B ps.length K, .int .u32 x4] 32)
  have HB3 := Lib.hid (HBr.out.alloc HBr.out.size (.cells #[.int .i64 4, .int .i64 x1, .int .i64 x2, .slice B ps.length K, .int .u32 x4] 32))
  have cl3 : Cl (wr.alloc (.cells #[.int .i64 4, .int .i64 x1, .int .i64 x2, .slice B ps.length K, .int .u32 x4] 32)) wr.heap.size 4 x1 x2 B ps.length K x4 := heap_alloc_new _ _
  have qp : wr.heap.size ≠ p := by have := ha.ltp; omega
  have qm : wr.heap.size ≠ m := by have := ha.ltm; omega
  have qg : wr.heap.size ≠ g := by have := hr.lt; omega
  have qw : w.heap.size ≤ wr.heap.size := HBr.out.size
  have c5 : c ≤ 300000 := by omega
  clear HBr ha hr
  unfold fr
  conv => arg 2; whnf
  go_wp2_with fail
  generalize wr.alloc (.cells #[.int .i64 4, .int .i64 x1, .int .i64 x2, .slice B ps.length K, .int .u32 x4] 32) = w3 at *
  generalize wr.heap.size = q at *
  clear k0 k1 k2 k3 k4
  obtain ⟨j0, j1, j2, j3, j4⟩ := cl3.cells
  obtain ⟨i1, i2⟩ := inr
  obtain ⟨a, rfl⟩ : ∃ a : Nat, x1 = a := ⟨x1.toNat, by omega⟩
  refine (in_any a 4 s w3 (by omega) (by omega) true (by simp; omega)).mono ?_
  rintro e w4 ⟨rfl, rfl⟩
  have z1 : ((a : Int) % 4 == 0) = false := by simpa using h4
  go_wp2_with fail
  refine (putWord_bad p m s a c x4 f w3 ha3 (by rw [Int.tmod_eq_emod_of_nonneg (by omega)]; omega)).mono ?_
  rintro e w5 ⟨rfl, rfl⟩
  clear h4
  go_wp2
  exact rnd_mk rfl rfl rfl rfl rfl rfl rfl hlt (rel_next ha3 hr3 gp gm hp' hm' (by omega) (by omega) HB3.out hlt)
end Go.Proofs.Ytbednmifgbbhlaa.arenaPlays
