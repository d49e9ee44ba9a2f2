/-
  detentlaw2.ArenaPlays: cases of one round of its loop.
-/
import Derived.Test.YtbednmifgbbhlaaPlA
import Derived.StillTailTactics
namespace Go.Proofs.Ytbednmifgbbhlaa.arenaPlays
open Go.ChangeShapes Go.WideShapes Go.ChangeAt Go.RowKit
set_option linter.unusedVariables false

set_option maxHeartbeats 6400000 in
set_option maxRecDepth 100000 in
theorem case_1a (Q0 : Exit → Act → World → Prop) (w wr : World) (s b o n cap g t p m : Nat) (c : Int) (f : Nat → Int) (x1 x2 x4 : Int) (B : Option Addr) (K : Nat) (ps : List (List Int)) (u : Nat → Value)
    (hd : Hd w wr s b o n g t p m c f 1 x1 x2 x4 B K ps) (inr : 0 ≤ x1 ∧ 0 ≤ x2 ∧ x1 + x2 ≤ s) (hsx : ¬ x1 = s) :
    Code.wp Try.prog body (Exit.then (Rnd w s (some ⟨b, o, none⟩) n cap g t) Q0) (fr s (some ⟨b, o, none⟩) n cap g u (.pointer (some ⟨p, 0, none⟩)) (.int .i64 c) (.int .i64 (t : Int))) wr := by
  obtain ⟨hs, hn, hlt, k0, k1, k2, k3, k4, hPa, hPl, hPw, hbd, ha, hr, gp, gm, hp', hm', hgw, hc0, hc1, hb⟩ := hd
  have HBr := Lib.hid hb
  have HP := Lib.hid hPa
  clear hb hPa
  have ha3 := ha.alloc (.cells #[.int .i64 1, .int .i64 x1, .int .i64 x2, .slice B ps.length K, .int .u32 x4] 32)
  have hr3 := hr.alloc (.cells #[.int .i64 1, .int .i64 x1, .int .i64 x2, .slice B ps.length K, .int .u32 x4] 32)
  have HB3 := Lib.hid (HBr.out.alloc HBr.out.size (.cells #[.int .i64 1, .int .i64 x1, .int .i64 x2, .slice B ps.length K, .int .u32 x4] 32))
  have cl3 : Cl (wr.alloc (.cells #[.int .i64 1, .int .i64 x1, .int .i64 x2, .slice B ps.length K, .int .u32 x4] 32)) wr.heap.size 1 x1 x2 B ps.length K x4 := heap_alloc_new _ _
  have qp : wr.heap.size ≠ p := by have := ha.ltp; omega
  have qm : wr.heap.size ≠ m := by have := ha.ltm; omega
  have qg : wr.heap.size ≠ g := by have := hr.lt; omega
  have qw : w.heap.size ≤ wr.heap.size := HBr.out.size
  have c5 : c ≤ 300000 := by omega
  clear HBr ha hr
  unfold fr
  conv => arg 2; whnf
  go_wp2_with fail
  generalize wr.alloc (.cells #[.int .i64 1, .int .i64 x1, .int .i64 x2, .slice B ps.length K, .int .u32 x4] 32) = w3 at *
  generalize wr.heap.size = q at *
  clear k0 k1 k2 k3 k4
  obtain ⟨i1, i2, i3⟩ := inr
  obtain ⟨a, rfl⟩ : ∃ a : Nat, x1 = a := ⟨x1.toNat, by omega⟩
  obtain ⟨k, rfl⟩ : ∃ k : Nat, x2 = k := ⟨x2.toNat, by omega⟩
  refine (read_ok p m s a k c f w3 ha3 (by omega) (by omega) hc0 (by omega)).mono ?_
  rintro e w4 ⟨g2, hg2, rfl, ha4, hr4, ho4⟩
  have cl4 := cl3.only ho4 qp qp
  have hrg := hr3.only ho4 gp gp
  have HB4 : Hid (Below w.heap.size w w4) := HB3.out.trans (ho4.below HB3.out.size hp' hp')
  obtain ⟨j0, j1, j2, j3, j4⟩ := cl4.cells
  clear ha3 hr3 HB3 cl3 ho4 hg2
  go_wp2_with fail
  refine (in_any a k s w4 (by omega) (by omega) true (by simp; omega)).mono ?_
  rintro e w5 ⟨rfl, rfl⟩
  have hwr : IntKind.i64.wrap ((a : Int) + (k : Int)) = (a : Int) + (k : Int) := IntWalk.i64_in _ (by omega)
  have v1 : ((a : Int) + (k : Int)).toNat = a + k := by omega
  have v2 : (0 : Int) ≤ (a : Int) + (k : Int) := by omega
  have v3 : (a : Int) ≤ (a : Int) + (k : Int) := by omega
  have v4 : (a : Int) + (k : Int) ≤ (s : Int) := by omega
  have v5 : a + k - a = k := by omega
  have hsa : ¬ (s = a) := by omega
  have hs1 := fun j => run_str (W := w4.drewN j) (cap := k) (hr4.drewN j).src
  have hs2 := fun j => run_str (W := w4.drewN j) (cap := s - a) (Src.of_row (q := fun j => f (a + j)) (hrg.drewN j) (p := g + 1) (m := g + 1) (by omega) (by omega) a (k := k) (by omega) (fun j hj => rfl))
  go_wp2_with fail
  go_quiet (fail)
  clear hwr v1 v2 v3 v4 v5
  go_wp2_with (first | (go_at_call 18; refine (size_any p m s _ _ _ (ha4.drewN _)).mono ?_; rintro e w' ⟨rfl, rfl⟩) | (go_at_call 17; refine (cost_any p m s _ _ _ (ha4.drewN _)).mono ?_; rintro e w' ⟨rfl, rfl⟩))
  exact rnd_mk rfl rfl rfl rfl rfl rfl rfl hlt (rel_next (ha4.drewN _) (hrg.drewN _) gp gm hp' hm' (by omega) (by omega) (bl_drewN HB4.out _) hlt)

set_option maxHeartbeats 6400000 in
set_option maxRecDepth 100000 in
theorem case_1b (Q0 : Exit → Act → World → Prop) (w wr : World) (s b o n cap g t p m : Nat) (c : Int) (f : Nat → Int) (x2 x4 : Int) (B : Option Addr) (K : Nat) (ps : List (List Int)) (u : Nat → Value)
    (hd : Hd w wr s b o n g t p m c f 1 (s : Int) x2 x4 B K ps) (inr : 0 ≤ (s : Int) ∧ 0 ≤ x2 ∧ (s : Int) + x2 ≤ s) :
    Code.wp Try.prog body (Exit.then (Rnd w s (some ⟨b, o, none⟩) n cap g t) Q0) (fr s (some ⟨b, o, none⟩) n cap g u (.pointer (some ⟨p, 0, none⟩)) (.int .i64 c) (.int .i64 (t : Int))) wr := by
  obtain ⟨hs, hn, hlt, k0, k1, k2, k3, k4, hPa, hPl, hPw, hbd, ha, hr, gp, gm, hp', hm', hgw, hc0, hc1, hb⟩ := hd
  have HBr := Lib.hid hb
  have HP := Lib.hid hPa
  clear hb hPa
  have ha3 := ha.alloc (.cells #[.int .i64 1, .int .i64 (s : Int), .int .i64 x2, .slice B ps.length K, .int .u32 x4] 32)
  have hr3 := hr.alloc (.cells #[.int .i64 1, .int .i64 (s : Int), .int .i64 x2, .slice B ps.length K, .int .u32 x4] 32)
  have HB3 := Lib.hid (HBr.out.alloc HBr.out.size (.cells #[.int .i64 1, .int .i64 (s : Int), .int .i64 x2, .slice B ps.length K, .int .u32 x4] 32))
  have cl3 : Cl (wr.alloc (.cells #[.int .i64 1, .int .i64 (s : Int), .int .i64 x2, .slice B ps.length K, .int .u32 x4] 32)) wr.heap.size 1 (s : Int) x2 B ps.length K x4 := heap_alloc_new _ _
  have qp : wr.heap.size ≠ p := by have := ha.ltp; omega
  have qm : wr.heap.size ≠ m := by have := ha.ltm; omega
  have qg : wr.heap.size ≠ g := by have := hr.lt; omega
  have qw : w.heap.size ≤ wr.heap.size := HBr.out.size
  have c5 : c ≤ 300000 := by omega
  clear HBr ha hr
  unfold fr
  conv => arg 2; whnf
  go_wp2_with fail
  generalize wr.alloc (.cells #[.int .i64 1, .int .i64 (s : Int), .int .i64 x2, .slice B ps.length K, .int .u32 x4] 32) = w3 at *
  generalize wr.heap.size = q at *
  clear k0 k1 k2 k3 k4
  obtain ⟨i1, i2, i3⟩ := inr
  obtain rfl : x2 = 0 := by omega
  refine (read_ok p m s s 0 c f w3 ha3 (by omega) (by omega) hc0 (by omega)).mono ?_
  rintro e w4 ⟨g2, hg2, rfl, ha4, hr4, ho4⟩
  simp only [Int.natCast_zero, Int.add_zero] at ha4
  have cl4 := cl3.only ho4 qp qp
  have hrg := hr3.only ho4 gp gp
  have HB4 : Hid (Below w.heap.size w w4) := HB3.out.trans (ho4.below HB3.out.size hp' hp')
  obtain ⟨j0, j1, j2, j3, j4⟩ := cl4.cells
  clear ha3 hr3 HB3 cl3 ho4 hg2
  go_wp2_with fail
  refine (in_any s 0 s w4 (by omega) (by omega) true (by simp)).mono ?_
  rintro e w5 ⟨rfl, rfl⟩
  have hs1 := fun j => run_str (W := w4.drewN j) (A := some ⟨g2, 0, none⟩) (n := 0) (p := 0) (m := 0) (cap := 0) (f := fun _ => 0) (fun h => absurd h (by omega))
  have hs2 := fun j => run_str (W := w4.drewN j) (A := some ⟨g, 0, none⟩) (n := 0) (p := 0) (m := 0) (cap := 0) (f := fun _ => 0) (fun h => absurd h (by omega))
  have hwr : IntKind.i64.wrap (s : Int) = (s : Int) := IntWalk.i64_in _ (by omega)
  go_wp2_with fail
  go_quiet (fail)
  clear hwr
  go_wp2_with (first | (go_at_call 18; refine (size_any p m s _ _ _ (ha4.drewN _)).mono ?_; rintro e w' ⟨rfl, rfl⟩) | (go_at_call 17; refine (cost_any p m s _ _ _ (ha4.drewN _)).mono ?_; rintro e w' ⟨rfl, rfl⟩))
  exact rnd_mk rfl rfl rfl rfl rfl rfl rfl hlt (rel_next (ha4.drewN _) (hrg.drewN _) gp gm hp' hm' (by omega) (by omega) (bl_drewN HB4.out _) hlt)
end Go.Proofs.Ytbednmifgbbhlaa.arenaPlays
