/-
  detentlaw2.ArenaPlays: cases of one round of its loop.
-/
import Derived.Test.YtbednmifgbbhlaaPlA
import Derived.StillTailTactics
namespace Go.Proofs.Ytbednmifgbbhlaa.arenaPlays
open Go.ChangeShapes Go.WideShapes Go.ChangeAt Go.RowKit
set_option linter.unusedVariables false

theorem law_or (f : Nat → Int) (a : Nat) (h : ∀ i, i < 4 → 0 ≤ f (a + i) ∧ f (a + i) ≤ 255) :
    bits .or .u32 (bits .or .u32 (bits .or .u32 (f a) (f (a + 1) * 256 % 4294967296)) (f (a + 2) * 65536 % 4294967296)) (f (a + 3) * 16777216 % 4294967296) = wordUp f a 4 := by
  have e1 := or_up f a 1 (by omega) h
  have e2 := or_up f a 2 (by omega) h
  have e3 := or_up f a 3 (by omega) h
  simp only [wordUp_1, Nat.mul_one, Nat.reduceMul, Nat.reduceAdd] at e1 e2 e3
  have p1 : (2 : Int) ^ 8 = 256 := by decide
  have p2 : (2 : Int) ^ 16 = 65536 := by decide
  have p3 : (2 : Int) ^ 24 = 16777216 := by decide
  rw [p1] at e1
  rw [p2] at e2
  rw [p3] at e3
  rw [e1, e2, e3]
theorem law_ne (f : Nat → Int) (a : Nat) (h : ∀ i, i < 4 → 0 ≤ f (a + i) ∧ f (a + i) ≤ 255) :
    (wordUp f a 4 != bits .or .u32 (bits .or .u32 (bits .or .u32 (f a % 4294967296) (f (a + 1) % 4294967296 * 256 % 4294967296)) (f (a + 2) % 4294967296 * 65536 % 4294967296)) (f (a + 3) % 4294967296 * 16777216 % 4294967296)) = false := by
  have h0 := h 0 (by omega); have h1 := h 1 (by omega); have h2 := h 2 (by omega); have h3 := h 3 (by omega)
  simp only [Nat.add_zero] at h0
  rw [Int.emod_eq_of_lt h0.1 (by omega), Int.emod_eq_of_lt h1.1 (by omega), Int.emod_eq_of_lt h2.1 (by omega), Int.emod_eq_of_lt h3.1 (by omega), law_or f a h]
  simp

set_option maxHeartbeats 6400000 in
set_option maxRecDepth 100000 in
theorem case_3ok (Q0 : Exit → Act → World → Prop) (w wr : World) (s b o n cap g t p m : Nat) (c : Int) (f : Nat → Int) (x1 x2 x4 : Int) (B : Option Addr) (K : Nat) (ps : List (List Int)) (u : Nat → Value)
    (hd : Hd w wr s b o n g t p m c f 3 x1 x2 x4 B K ps) (inr : 0 ≤ x1 ∧ x1 + 4 ≤ s) (h4 : x1 % 4 = 0) :
    Code.wp Try.prog body (Exit.then (Rnd w s (some ⟨b, o, none⟩) n cap g t) Q0) (fr s (some ⟨b, o, none⟩) n cap g u (.pointer (some ⟨p, 0, none⟩)) (.int .i64 c) (.int .i64 (t : Int))) wr := by
  obtain ⟨hs, hn, hlt, k0, k1, k2, k3, k4, hPa, hPl, hPw, hbd, ha, hr, gp, gm, hp', hm', hgw, hc0, hc1, hb⟩ := hd
  have HBr := Lib.hid hb
  have HP := Lib.hid hPa
  clear hb hPa
  have ha3 := ha.alloc (.cells #[.int .i64 3, .int .i64 x1, .int .i64 x2, .slice B ps.length K, .int .u32 x4] 32)
  have hr3 := hr.alloc (.cells #[.int .i64 3, .int .i64 x1, .int .i64 x2, .slice B ps.length K, .int .u32 x4] 32)
  have HB3 := Lib.hid (HBr.out.alloc HBr.out.size (.cells #[.int .i64 3, .int .i64 x1, .int .i64 x2, .slice B ps.length K, .int .u32 x4] 32))
  have cl3 : Cl (wr.alloc (.cells #[.int .i64 3, .int .i64 x1, .int .i64 x2, .slice B ps.length K, .int .u32 x4] 32)) wr.heap.size 3 x1 x2 B ps.length K x4 := heap_alloc_new _ _
  have qp : wr.heap.size ≠ p := by have := ha.ltp; omega
  have qm : wr.heap.size ≠ m := by have := ha.ltm; omega
  have qg : wr.heap.size ≠ g := by have := hr.lt; omega
  have qw : w.heap.size ≤ wr.heap.size := HBr.out.size
  have c5 : c ≤ 300000 := by omega
  clear HBr ha hr
  unfold fr
  conv => arg 2; whnf
  go_wp2_with fail
  generalize wr.alloc (.cells #[.int .i64 3, .int .i64 x1, .int .i64 x2, .slice B ps.length K, .int .u32 x4] 32) = w3 at *
  generalize wr.heap.size = q at *
  clear k0 k1 k2 k3 k4
  obtain ⟨j0, j1, j2, j3, j4⟩ := cl3.cells
  obtain ⟨i1, i2⟩ := inr
  obtain ⟨a, rfl⟩ : ∃ a : Nat, x1 = a := ⟨x1.toNat, by omega⟩
  refine (in_any a 4 s w3 (by omega) (by omega) true (by simp; omega)).mono ?_
  rintro e w4 ⟨rfl, rfl⟩
  have z1 : ((a : Int) % 4 == 0) = true := by simpa using h4
  have h4' : a % 4 = 0 := by omega
  clear h4
  go_wp2_with fail
  refine (word_ok p m s a c f w3 ha3 h4' (by omega) (by omega) hc0 (by omega)).mono ?_
  rintro e w4 ⟨rfl, ha4, ho4⟩
  have cl4 := cl3.only ho4 qp qp
  have hr4 := hr3.only ho4 gp gp
  have HB4 : Hid (Below w.heap.size w w4) := HB3.out.trans (ho4.below HB3.out.size hp' hp')
  clear j0 j1 j2 j3 j4 ha3 hr3 HB3 cl3 ho4 z1
  obtain ⟨j0, j1, j2, j3, j4⟩ := cl4.cells
  have m0 := hr4.at_ (i := a) (by omega)
  have m1 := hr4.at_ (i := a + 1) (by omega)
  have m2 := hr4.at_ (i := a + 2) (by omega)
  have m3 := hr4.at_ (i := a + 3) (by omega)
  have HL := Lib.hid (law_ne f a (fun i hi => hr4.lo (i := a + i) (by omega)))
  have y1 : IntKind.i64.wrap ((a : Int) + 1) = (a : Int) + 1 := IntWalk.i64_in _ (by omega)
  have y2 : IntKind.i64.wrap ((a : Int) + 2) = (a : Int) + 2 := IntWalk.i64_in _ (by omega)
  have y3 : IntKind.i64.wrap ((a : Int) + 3) = (a : Int) + 3 := IntWalk.i64_in _ (by omega)
  have n1 : ((a : Int) + 1).toNat = a + 1 := by omega
  have n2 : ((a : Int) + 2).toNat = a + 2 := by omega
  have n3 : ((a : Int) + 3).toNat = a + 3 := by omega
  have r0 : (a : Int) < (s : Int) := by omega
  have r0' : a < s := by omega
  have r1 : (a : Int) + 1 < (s : Int) := by omega
  have r2 : (a : Int) + 2 < (s : Int) := by omega
  have r3 : (a : Int) + 3 < (s : Int) := by omega
  have s1 : (0 : Int) ≤ (a : Int) + 1 := by omega
  have s2 : (0 : Int) ≤ (a : Int) + 2 := by omega
  have s3 : (0 : Int) ≤ (a : Int) + 3 := by omega
  go_wp2_with fail
  go_quiet (fail)
  clear y1 y2 y3 n1 n2 n3
  have hne := HL.out
  go_wp2_with (first | (go_at_call 18; refine (size_any p m s _ _ _ (ha4.drewN _)).mono ?_; rintro e w' ⟨rfl, rfl⟩) | (go_at_call 17; refine (cost_any p m s _ _ _ (ha4.drewN _)).mono ?_; rintro e w' ⟨rfl, rfl⟩))
  exact rnd_mk rfl rfl rfl rfl rfl rfl rfl hlt (rel_next (ha4.drewN _) (hr4.drewN _) gp gm hp' hm' (by omega) (by omega) (bl_drewN HB4.out _) hlt)
end Go.Proofs.Ytbednmifgbbhlaa.arenaPlays
