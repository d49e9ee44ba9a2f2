/- Contracts of package list: end, hasNode, hasHead, isIn, after, insert. -/
import Derived.Test.YtmfjhckacmdijaaRows
import Derived.Test.YtmfjhckacmdijaaMem
import Derived.Test.YtmfjhckacmdijaaAbs
import Derived.WalkKit
import Derived.WalkSpells
import Derived.WalkLawsBesides
import Derived.Lib.Hide
import Derived.OwnWalk
import Derived.Deep.QuietTactic
import Derived.BigQuiet
import Derived.StillTailTactics
namespace Go.Proofs.Ytmfjhckacmdijaa
open Go.RowKit

set_option maxHeartbeats 400000 in
theorem end_ok (p m N H h : Nat) (f : Nat → Int) (w : World) (hl : Lm w p m N H f) (hN : N ≤ 1024) (hh : h ≤ 1024) :
    Calls Try.prog 27 #[.pointer (some ⟨p, 0, none⟩), .int .i64 (h : Int)] w fun e w' => e = .returned (.int .i64 ((N + h : Nat) : Int)) ∧ w = w' := by
  obtain ⟨k, h0, h1, _, _⟩ := hl.cells
  go_enter Try.func27, Try.ntmps27
  go_wp2
  go_ret
  exact ⟨by go_num, rfl⟩

set_option maxHeartbeats 400000 in
theorem hasNode_any (p m N H : Nat) (x : Int) (f : Nat → Int) (w : World) (hl : Lm w p m N H f) (r : Bool) (hr : decide (0 ≤ x ∧ x < N) = r) :
    Calls Try.prog 34 #[.pointer (some ⟨p, 0, none⟩), .int .i64 x] w fun e w' => e = .returned (.bool r) ∧ w = w' := by
  obtain ⟨k, h0, h1, _, _⟩ := hl.cells
  subst hr
  by_cases c1 : 0 ≤ x
  · have e : decide (0 ≤ x ∧ x < (N : Int)) = decide (x < (N : Int)) := by simp [c1]
    rw [e]
    go_enter Try.func34, Try.ntmps34
    go_wp2
    go_ret
    exact ⟨rfl, rfl⟩
  · have e : decide (0 ≤ x ∧ x < (N : Int)) = false := by simp [c1]
    have t1 : decide (0 ≤ x) = false := by simpa using c1
    rw [e]
    go_enter Try.func34, Try.ntmps34
    go_wp2
    go_ret
    exact ⟨rfl, rfl⟩

set_option maxHeartbeats 400000 in
theorem hasHead_any (p m N H : Nat) (x : Int) (f : Nat → Int) (w : World) (hl : Lm w p m N H f) (_hN : N ≤ 1024) (_hH : H ≤ 64) (r : Bool) (hr : decide (0 ≤ x ∧ x < H) = r) :
    Calls Try.prog 37 #[.pointer (some ⟨p, 0, none⟩), .int .i64 x] w fun e w' => e = .returned (.bool r) ∧ ∃ n, w' = w.drewN n := by
  obtain ⟨k, h0, h1, _, _⟩ := hl.cells
  subst hr
  by_cases c1 : 0 ≤ x
  · have t1 : decide (0 ≤ x) = true := by simpa using c1
    have e : decide (0 ≤ x ∧ x < (H : Int)) = decide (x < (((N + H : Nat) : Int) - (N : Int))) := by simp [c1]; omega
    rw [e]
    go_enter Try.func37, Try.ntmps37
    go_wp2
    go_quiet (fail)
    go_wp2
    go_ret
    exact ⟨by simp, _, rfl⟩
  · have e : decide (0 ≤ x ∧ x < (H : Int)) = false := by simp [c1]
    have t1 : decide (0 ≤ x) = false := by simpa using c1
    rw [e]
    go_enter Try.func37, Try.ntmps37
    go_wp2
    go_quiet (fail)
    go_wp2
    go_ret
    exact ⟨rfl, _, rfl⟩

set_option maxHeartbeats 400000 in
theorem isIn_ok (p m N H i : Nat) (f : Nat → Int) (w : World) (hl : Lm w p m N H f) (hi : i < N + H) (r : Bool) (hr : (f (i * 3 + 2) != -1) = r) :
    Calls Try.prog 35 #[.pointer (some ⟨p, 0, none⟩), .int .i64 (i : Int)] w fun e w' => e = .returned (.bool r) ∧ w = w' := by
  obtain ⟨k, h0, h1, _, _⟩ := hl.cells
  have hc := hl.at_ (i := i * 3 + 2) (by omega)
  subst hr
  go_enter Try.func35, Try.ntmps35
  go_wp2
  go_ret
  exact ⟨rfl, rfl⟩

set_option maxHeartbeats 400000 in
theorem after_ok (p m N H i y : Nat) (f : Nat → Int) (w : World) (hl : Lm w p m N H f) (hi : i < N + H) (hr : f (i * 3) = (y : Int)) :
    Calls Try.prog 36 #[.pointer (some ⟨p, 0, none⟩), .int .i64 (i : Int)] w fun e w' => e = .returned (.tuple #[.int .i64 (if y < N then (y : Int) else 0), .bool (decide (y < N))]) ∧ w = w' := by
  obtain ⟨k, h0, h1, _, _⟩ := hl.cells
  have hc := hl.at_ (i := i * 3) (by omega)
  rw [hr] at hc
  by_cases hy : y < N
  · have t1 : decide ((N : Int) ≤ (y : Int)) = false := by simp; omega
    have t2 : decide (N ≤ y) = false := by simp; omega
    rw [if_pos hy, decide_eq_true hy]
    go_enter Try.func36, Try.ntmps36
    go_wp2
    go_ret2
    exact ⟨rfl, rfl⟩
  · have t1 : (N : Int) ≤ (y : Int) := by omega
    have t2 : N ≤ y := by omega
    rw [if_neg hy, decide_eq_false hy]
    go_enter Try.func36, Try.ntmps36
    go_wp2
    go_ret2
    exact ⟨rfl, rfl⟩


set_option maxHeartbeats 800000 in
theorem insert_ok (p m N H x a v : Nat) (h : Int) (f : Nat → Int) (w : World) (hl : Lm w p m N H f) (hx : x < N + H) (ha : a < N + H) (hv : v < N + H) (hf : f (a * 3 + 1) = (v : Int)) (hh : f (a * 3 + 2) = h) :
    Calls Try.prog 29 #[.pointer (some ⟨p, 0, none⟩), .int .i64 (x : Int), .int .i64 (a : Int)] w fun e w' => e = .returned (.tuple #[]) ∧ Lm w' p m N H (ins f x a v h) ∧ Only m m w w' := by
  obtain ⟨k, h0, h1, hk1, hk2⟩ := hl.cells
  have hc1 := hl.at_ (i := a * 3 + 1) (by omega)
  have hc2 := hl.at_ (i := a * 3 + 2) (by omega)
  rw [hf] at hc1
  rw [hh] at hc2
  have ia : (a : Int) < (N : Int) + (H : Int) := by omega
  have ix : (x : Int) < (N : Int) + (H : Int) := by omega
  go_enter Try.func29, Try.ntmps29
  go_wp2
  go_still_tail 17, (by kernel_rfl)
  have hl2 : Lm w.drew p m N H f := hl
  have ho2 : Only m m w w.drew := (Only.refl m m w).drew
  change wpList _ _ _ _ _ w.drew
  generalize w.drew = w2 at *
  clear h0 h1 hc1 hc2 hl
  have hx0 := hl2.at_ (i := x * 3) (by omega)
  have hz0 := hl2.frozen (x * 3)
  have hl3 := hl2.set (x * 3) a (by omega)
  have ho3 := ho2.setCell (q := ⟨m, x * 3, none⟩) (.inl rfl) (.int .i64 (a : Int))
  have hx1 := hl3.at_ (i := x * 3 + 1) (by omega)
  have hz1 := hl3.frozen (x * 3 + 1)
  have hl4 := hl3.set (x * 3 + 1) v (by omega)
  have ho4 := ho3.setCell (q := ⟨m, x * 3 + 1, none⟩) (.inl rfl) (.int .i64 (v : Int))
  have hx2 := hl4.at_ (i := x * 3 + 2) (by omega)
  have hz2 := hl4.frozen (x * 3 + 2)
  have hl5 := hl4.set (x * 3 + 2) h (by omega)
  have ho5 := ho4.setCell (q := ⟨m, x * 3 + 2, none⟩) (.inl rfl) (.int .i64 h)
  clear ho2 ho3 ho4 hl2 hl3 hl4
  obtain ⟨k5, h50, h51, hk51, hk52⟩ := hl5.cells
  have hy := hl5.at_ (i := v * 3) (by omega)
  have hyz := hl5.frozen (v * 3)
  have hl6 := hl5.set (v * 3) x (by omega)
  have ho6 := ho5.setCell (q := ⟨m, v * 3, none⟩) (.inl rfl) (.int .i64 (x : Int))
  obtain ⟨k6, h60, h61, hk61, hk62⟩ := hl6.cells
  have hu := hl6.at_ (i := a * 3 + 1) (by omega)
  have huz := hl6.frozen (a * 3 + 1)
  have hl7 := Lib.hid (hl6.set (a * 3 + 1) x (by omega))
  have ho7 := Lib.hid (ho6.setCell (q := ⟨m, a * 3 + 1, none⟩) (.inl rfl) (.int .i64 (x : Int)))
  clear hl5 hl6 ho5 ho6
  go_wp2
  go_end0
  exact ⟨rfl, hl7.out, ho7.out⟩
end Go.Proofs.Ytmfjhckacmdijaa
