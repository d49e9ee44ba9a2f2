/- Contracts of the laws' own functions: flag, do, want, same; each method of a task that lies behind what was there (At); known. -/
import Derived.Test.YtjiiopnlcohilaaConC
namespace Go.Proofs.Ytjiiopnlcohilaa
open Go.RowKit

theorem flag_any (w : World) (b : Bool) : Calls Try.prog 23 #[.bool b] w fun e w' => e = .returned (.int .i64 (flagOf b)) ∧ w = w' := by
  cases b
  · go_enter Try.func23, Try.ntmps23
    go_wp2
    go_ret
    exact ⟨rfl, rfl⟩
  · go_enter Try.func23, Try.ntmps23
    go_wp2
    go_ret
    exact ⟨rfl, rfl⟩

set_option maxHeartbeats 400000 in
theorem do_0 (w : World) (p : Nat) (s : St) (h : Tk w 47 p s) (hg : Good s) (s' : St) (x y : Int) (hr : step 0 s = (s', x, y)) :
    Calls Try.prog 13 #[.pointer (some ⟨p, 0, none⟩), .int .i64 0] w fun e w' => e = .returned (.tuple #[.int .i64 x, .int .i64 y]) ∧ Tk w' 47 p s' ∧ Only p w w' := by
  obtain ⟨s2, r2, c2, hm⟩ : ∃ a b c, act s = (a, b, c) := ⟨_, _, _, rfl⟩
  have e : step 0 s = ((act s).1, flagOf (act s).2.1, (act s).2.2) := rfl
  rw [e, hm] at hr; cases hr
  have HC := Lib.hid (act_any w p s h hg _ _ _ hm)
  clear e hm
  clear h hg
  go_enter Try.func13, Try.ntmps13
  go_wp2_with fail
  refine HC.out.mono ?_
  rintro e w1 ⟨rfl, hk, ho⟩
  have HK := Lib.hid hk
  have HO := Lib.hid ho
  clear hk ho HC
  go_wp2_with fail
  refine (flag_any w1 r2).mono ?_
  rintro e w2 ⟨rfl, rfl⟩
  go_wp2
  go_ret2
  exact ⟨rfl, HK.out, HO.out⟩

set_option maxHeartbeats 400000 in
theorem do_1 (w : World) (p : Nat) (s : St) (h : Tk w 47 p s) (_ : Good s) (s' : St) (x y : Int) (hr : step 1 s = (s', x, y)) :
    Calls Try.prog 13 #[.pointer (some ⟨p, 0, none⟩), .int .i64 1] w fun e w' => e = .returned (.tuple #[.int .i64 x, .int .i64 y]) ∧ Tk w' 47 p s' ∧ Only p w w' := by
  have e : step 1 s = (canAct s, s.A, 0) := rfl
  rw [e] at hr; cases hr
  have HC := Lib.hid (canAct_any w p s h _ _ rfl rfl)
  clear h
  go_enter Try.func13, Try.ntmps13
  go_wp2_with fail
  refine HC.out.mono ?_
  rintro e w1 ⟨rfl, hk, ho⟩
  have HK := Lib.hid hk
  have HO := Lib.hid ho
  clear hk ho HC
  go_wp2
  go_ret2
  exact ⟨rfl, HK.out, HO.out⟩

set_option maxHeartbeats 400000 in
theorem do_2 (w : World) (p : Nat) (s : St) (h : Tk w 47 p s) (hg : Good s) (s' : St) (x y : Int) (hr : step 2 s = (s', x, y)) :
    Calls Try.prog 13 #[.pointer (some ⟨p, 0, none⟩), .int .i64 2] w fun e w' => e = .returned (.tuple #[.int .i64 x, .int .i64 y]) ∧ Tk w' 47 p s' ∧ Only p w w' := by
  obtain ⟨s2, r2, hm⟩ : ∃ a b, endS s = (a, b) := ⟨_, _, rfl⟩
  have e : step 2 s = ((endS s).1, flagOf (endS s).2, 0) := rfl
  rw [e, hm] at hr; cases hr
  have HC := Lib.hid (end_any w p s h hg _ _ hm)
  clear e hm
  clear h hg
  go_enter Try.func13, Try.ntmps13
  go_wp2_with fail
  refine HC.out.mono ?_
  rintro e w1 ⟨rfl, hk, ho⟩
  have HK := Lib.hid hk
  have HO := Lib.hid ho
  clear hk ho HC
  go_wp2_with fail
  refine (flag_any w1 r2).mono ?_
  rintro e w2 ⟨rfl, rfl⟩
  go_wp2
  go_ret2
  exact ⟨rfl, HK.out, HO.out⟩

set_option maxHeartbeats 400000 in
theorem do_3 (w : World) (p : Nat) (s : St) (h : Tk w 47 p s) (hg : Good s) (s' : St) (x y : Int) (hr : step 3 s = (s', x, y)) :
    Calls Try.prog 13 #[.pointer (some ⟨p, 0, none⟩), .int .i64 3] w fun e w' => e = .returned (.tuple #[.int .i64 x, .int .i64 y]) ∧ Tk w' 47 p s' ∧ Only p w w' := by
  obtain ⟨s2, r2, c2, hm⟩ : ∃ a b c, kill s = (a, b, c) := ⟨_, _, _, rfl⟩
  have e : step 3 s = ((kill s).1, flagOf (kill s).2.1, (kill s).2.2) := rfl
  rw [e, hm] at hr; cases hr
  have HC := Lib.hid (kill_any w p s h hg _ _ _ hm)
  clear e hm
  clear h hg
  go_enter Try.func13, Try.ntmps13
  go_wp2_with fail
  refine HC.out.mono ?_
  rintro e w1 ⟨rfl, hk, ho⟩
  have HK := Lib.hid hk
  have HO := Lib.hid ho
  clear hk ho HC
  go_wp2_with fail
  refine (flag_any w1 r2).mono ?_
  rintro e w2 ⟨rfl, rfl⟩
  go_wp2
  go_ret2
  exact ⟨rfl, HK.out, HO.out⟩

set_option maxHeartbeats 400000 in
theorem do_4 (w : World) (p : Nat) (s : St) (h : Tk w 47 p s) (hg : Good s) (s' : St) (x y : Int) (hr : step 4 s = (s', x, y)) :
    Calls Try.prog 13 #[.pointer (some ⟨p, 0, none⟩), .int .i64 4] w fun e w' => e = .returned (.tuple #[.int .i64 x, .int .i64 y]) ∧ Tk w' 47 p s' ∧ Only p w w' := by
  obtain ⟨s2, r2, c2, hm⟩ : ∃ a b c, sleep s = (a, b, c) := ⟨_, _, _, rfl⟩
  have e : step 4 s = ((sleep s).1, flagOf (sleep s).2.1, (sleep s).2.2) := rfl
  rw [e, hm] at hr; cases hr
  have HC := Lib.hid (sleep_any w p s h hg _ _ _ hm)
  clear e hm
  clear h hg
  go_enter Try.func13, Try.ntmps13
  go_wp2_with fail
  refine HC.out.mono ?_
  rintro e w1 ⟨rfl, hk, ho⟩
  have HK := Lib.hid hk
  have HO := Lib.hid ho
  clear hk ho HC
  go_wp2_with fail
  refine (flag_any w1 r2).mono ?_
  rintro e w2 ⟨rfl, rfl⟩
  go_wp2
  go_ret2
  exact ⟨rfl, HK.out, HO.out⟩

set_option maxHeartbeats 400000 in
theorem do_5 (w : World) (p : Nat) (s : St) (h : Tk w 47 p s) (_ : Good s) (s' : St) (x y : Int) (hr : step 5 s = (s', x, y)) :
    Calls Try.prog 13 #[.pointer (some ⟨p, 0, none⟩), .int .i64 5] w fun e w' => e = .returned (.tuple #[.int .i64 x, .int .i64 y]) ∧ Tk w' 47 p s' ∧ Only p w w' := by
  obtain ⟨s2, c2, hm⟩ : ∃ a b, stay s = (a, b) := ⟨_, _, rfl⟩
  have e : step 5 s = ((stay s).1, 0, (stay s).2) := rfl
  rw [e, hm] at hr; cases hr
  have HC := Lib.hid (stay_any w p s h _ _ hm)
  clear e hm
  clear h
  go_enter Try.func13, Try.ntmps13
  go_wp2_with fail
  refine HC.out.mono ?_
  rintro e w1 ⟨rfl, hk, ho⟩
  have HK := Lib.hid hk
  have HO := Lib.hid ho
  clear hk ho HC
  go_wp2
  go_ret2
  exact ⟨rfl, HK.out, HO.out⟩

set_option maxHeartbeats 400000 in
theorem do_6 (w : World) (p : Nat) (s : St) (h : Tk w 47 p s) (hg : Good s) (s' : St) (x y : Int) (hr : step 6 s = (s', x, y)) :
    Calls Try.prog 13 #[.pointer (some ⟨p, 0, none⟩), .int .i64 6] w fun e w' => e = .returned (.tuple #[.int .i64 x, .int .i64 y]) ∧ Tk w' 47 p s' ∧ Only p w w' := by
  obtain ⟨s2, r2, c2, hm⟩ : ∃ a b c, wake s = (a, b, c) := ⟨_, _, _, rfl⟩
  have e : step 6 s = ((wake s).1, flagOf (wake s).2.1, (wake s).2.2) := rfl
  rw [e, hm] at hr; cases hr
  have HC := Lib.hid (wake_any w p s h hg _ _ _ hm)
  clear e hm
  clear h hg
  go_enter Try.func13, Try.ntmps13
  go_wp2_with fail
  refine HC.out.mono ?_
  rintro e w1 ⟨rfl, hk, ho⟩
  have HK := Lib.hid hk
  have HO := Lib.hid ho
  clear hk ho HC
  go_wp2_with fail
  refine (flag_any w1 r2).mono ?_
  rintro e w2 ⟨rfl, rfl⟩
  go_wp2
  go_ret2
  exact ⟨rfl, HK.out, HO.out⟩

set_option maxHeartbeats 400000 in
theorem do_7 (w : World) (p : Nat) (s : St) (h : Tk w 47 p s) (_ : Good s) (s' : St) (x y : Int) (hr : step 7 s = (s', x, y)) :
    Calls Try.prog 13 #[.pointer (some ⟨p, 0, none⟩), .int .i64 7] w fun e w' => e = .returned (.tuple #[.int .i64 x, .int .i64 y]) ∧ Tk w' 47 p s' ∧ Only p w w' := by
  obtain ⟨s2, x2, c2, hm⟩ : ∃ a b c, canWake s = (a, b, c) := ⟨_, _, _, rfl⟩
  have e : step 7 s = ((canWake s).1, (canWake s).2.1, (canWake s).2.2) := rfl
  rw [e, hm] at hr; cases hr
  have HC := Lib.hid (canWake_any w p s h _ _ _ hm)
  clear e hm
  clear h
  go_enter Try.func13, Try.ntmps13
  go_wp2_with fail
  refine HC.out.mono ?_
  rintro e w1 ⟨rfl, hk, ho⟩
  have HK := Lib.hid hk
  have HO := Lib.hid ho
  clear hk ho HC
  go_wp2
  go_ret2
  exact ⟨rfl, HK.out, HO.out⟩

set_option maxHeartbeats 400000 in
theorem do_8 (w : World) (p : Nat) (s : St) (h : Tk w 47 p s) (_ : Good s) (s' : St) (x y : Int) (hr : step 8 s = (s', x, y)) :
    Calls Try.prog 13 #[.pointer (some ⟨p, 0, none⟩), .int .i64 8] w fun e w' => e = .returned (.tuple #[.int .i64 x, .int .i64 y]) ∧ Tk w' 47 p s' ∧ Only p w w' := by
  obtain ⟨s2, r2, hm⟩ : ∃ a b, release s = (a, b) := ⟨_, _, rfl⟩
  have e : step 8 s = ((release s).1, flagOf (release s).2, 0) := rfl
  rw [e, hm] at hr; cases hr
  have HC := Lib.hid (release_any w p s h _ _ hm)
  clear e hm
  clear h
  go_enter Try.func13, Try.ntmps13
  go_wp2_with fail
  refine HC.out.mono ?_
  rintro e w1 ⟨rfl, hk, ho⟩
  have HK := Lib.hid hk
  have HO := Lib.hid ho
  clear hk ho HC
  go_wp2_with fail
  refine (flag_any w1 r2).mono ?_
  rintro e w2 ⟨rfl, rfl⟩
  go_wp2
  go_ret2
  exact ⟨rfl, HK.out, HO.out⟩

set_option maxHeartbeats 400000 in
theorem do_9 (w : World) (p : Nat) (s : St) (h : Tk w 47 p s) (hg : Good s) (s' : St) (x y : Int) (hr : step 9 s = (s', x, y)) :
    Calls Try.prog 13 #[.pointer (some ⟨p, 0, none⟩), .int .i64 9] w fun e w' => e = .returned (.tuple #[.int .i64 x, .int .i64 y]) ∧ Tk w' 47 p s' ∧ Only p w w' := by
  obtain ⟨s2, c2, hm⟩ : ∃ a b, suspend s = (a, b) := ⟨_, _, rfl⟩
  have e : step 9 s = ((suspend s).1, 0, (suspend s).2) := rfl
  rw [e, hm] at hr; cases hr
  have HC := Lib.hid (suspend_any w p s h hg _ _ hm)
  clear e hm
  clear h hg
  go_enter Try.func13, Try.ntmps13
  go_wp2_with fail
  refine HC.out.mono ?_
  rintro e w1 ⟨rfl, hk, ho⟩
  have HK := Lib.hid hk
  have HO := Lib.hid ho
  clear hk ho HC
  go_wp2
  go_ret2
  exact ⟨rfl, HK.out, HO.out⟩

set_option maxHeartbeats 400000 in
theorem do_10 (w : World) (p : Nat) (s : St) (h : Tk w 47 p s) (hg : Good s) (s' : St) (x y : Int) (hr : step 10 s = (s', x, y)) :
    Calls Try.prog 13 #[.pointer (some ⟨p, 0, none⟩), .int .i64 10] w fun e w' => e = .returned (.tuple #[.int .i64 x, .int .i64 y]) ∧ Tk w' 47 p s' ∧ Only p w w' := by
  obtain ⟨s2, r2, c2, hm⟩ : ∃ a b c, resume s false = (a, b, c) := ⟨_, _, _, rfl⟩
  have e : step 10 s = ((resume s false).1, flagOf (resume s false).2.1, (resume s false).2.2) := rfl
  rw [e, hm] at hr; cases hr
  have HC := Lib.hid (resume_any w p s h hg false _ _ _ hm)
  clear e hm
  clear h hg
  go_enter Try.func13, Try.ntmps13
  go_wp2_with fail
  refine HC.out.mono ?_
  rintro e w1 ⟨rfl, hk, ho⟩
  have HK := Lib.hid hk
  have HO := Lib.hid ho
  clear hk ho HC
  go_wp2_with fail
  refine (flag_any w1 r2).mono ?_
  rintro e w2 ⟨rfl, rfl⟩
  go_wp2
  go_ret2
  exact ⟨rfl, HK.out, HO.out⟩

set_option maxHeartbeats 400000 in
theorem do_11 (w : World) (p : Nat) (s : St) (h : Tk w 47 p s) (hg : Good s) (s' : St) (x y : Int) (hr : step 11 s = (s', x, y)) :
    Calls Try.prog 13 #[.pointer (some ⟨p, 0, none⟩), .int .i64 11] w fun e w' => e = .returned (.tuple #[.int .i64 x, .int .i64 y]) ∧ Tk w' 47 p s' ∧ Only p w w' := by
  obtain ⟨s2, r2, c2, hm⟩ : ∃ a b c, resume s true = (a, b, c) := ⟨_, _, _, rfl⟩
  have e : step 11 s = ((resume s true).1, flagOf (resume s true).2.1, (resume s true).2.2) := rfl
  rw [e, hm] at hr; cases hr
  have HC := Lib.hid (resume_any w p s h hg true _ _ _ hm)
  clear e hm
  clear h hg
  go_enter Try.func13, Try.ntmps13
  go_wp2_with fail
  refine HC.out.mono ?_
  rintro e w1 ⟨rfl, hk, ho⟩
  have HK := Lib.hid hk
  have HO := Lib.hid ho
  clear hk ho HC
  go_wp2_with fail
  refine (flag_any w1 r2).mono ?_
  rintro e w2 ⟨rfl, rfl⟩
  go_wp2
  go_ret2
  exact ⟨rfl, HK.out, HO.out⟩

set_option maxHeartbeats 800000 in
theorem do_no (w : World) (p : Nat) (s : St) (h : Tk w 47 p s) (a : Int) (ha : ∀ k : Int, 0 ≤ k → k ≤ 11 → ¬ a = k) :
    Calls Try.prog 13 #[.pointer (some ⟨p, 0, none⟩), .int .i64 a] w fun e w' => e = .returned (.tuple #[.int .i64 0, .int .i64 0]) ∧ Tk w' 47 p s ∧ Only p w w' := by
  have n0 : (a == 0) = false := by simpa using ha 0 (by omega) (by omega)
  have n1 : (a == 1) = false := by simpa using ha 1 (by omega) (by omega)
  have n2 : (a == 2) = false := by simpa using ha 2 (by omega) (by omega)
  have n3 : (a == 3) = false := by simpa using ha 3 (by omega) (by omega)
  have n4 : (a == 4) = false := by simpa using ha 4 (by omega) (by omega)
  have n5 : (a == 5) = false := by simpa using ha 5 (by omega) (by omega)
  have n6 : (a == 6) = false := by simpa using ha 6 (by omega) (by omega)
  have n7 : (a == 7) = false := by simpa using ha 7 (by omega) (by omega)
  have n8 : (a == 8) = false := by simpa using ha 8 (by omega) (by omega)
  have n9 : (a == 9) = false := by simpa using ha 9 (by omega) (by omega)
  have n10 : (a == 10) = false := by simpa using ha 10 (by omega) (by omega)
  have n11 : (a == 11) = false := by simpa using ha 11 (by omega) (by omega)
  clear ha
  go_enter Try.func13, Try.ntmps13
  go_wp2
  go_ret2
  exact ⟨rfl, h, Only.refl p w⟩

theorem do_any (w : World) (p : Nat) (s : St) (h : Tk w 47 p s) (hg : Good s) (a : Int) (s' : St) (x y : Int) (hr : step a s = (s', x, y)) :
    Calls Try.prog 13 #[.pointer (some ⟨p, 0, none⟩), .int .i64 a] w fun e w' => e = .returned (.tuple #[.int .i64 x, .int .i64 y]) ∧ Tk w' 47 p s' ∧ Only p w w' := by
  by_cases n0 : a = 0
  · subst n0; exact do_0 w p s h hg s' x y hr
  by_cases n1 : a = 1
  · subst n1; exact do_1 w p s h hg s' x y hr
  by_cases n2 : a = 2
  · subst n2; exact do_2 w p s h hg s' x y hr
  by_cases n3 : a = 3
  · subst n3; exact do_3 w p s h hg s' x y hr
  by_cases n4 : a = 4
  · subst n4; exact do_4 w p s h hg s' x y hr
  by_cases n5 : a = 5
  · subst n5; exact do_5 w p s h hg s' x y hr
  by_cases n6 : a = 6
  · subst n6; exact do_6 w p s h hg s' x y hr
  by_cases n7 : a = 7
  · subst n7; exact do_7 w p s h hg s' x y hr
  by_cases n8 : a = 8
  · subst n8; exact do_8 w p s h hg s' x y hr
  by_cases n9 : a = 9
  · subst n9; exact do_9 w p s h hg s' x y hr
  by_cases n10 : a = 10
  · subst n10; exact do_10 w p s h hg s' x y hr
  by_cases n11 : a = 11
  · subst n11; exact do_11 w p s h hg s' x y hr
  have e : step a s = (s, 0, 0) := by
    unfold step
    rw [if_neg n0, if_neg n1, if_neg n2, if_neg n3, if_neg n4, if_neg n5, if_neg n6, if_neg n7, if_neg n8, if_neg n9, if_neg n10, if_neg n11]
  rw [e] at hr; cases hr
  refine do_no w p s h a fun k h0 h1 hk => ?_
  omega

set_option maxHeartbeats 400000 in
theorem want_0 (w : World) (p : Nat) (s : St) (h : Tk w 56 p s) (hg : Good s) (s' : St) (x y : Int) (hr : step 0 s = (s', x, y)) :
    Calls Try.prog 14 #[.pointer (some ⟨p, 0, none⟩), .int .i64 0] w fun e w' => e = .returned (.tuple #[.int .i64 x, .int .i64 y]) ∧ Tk w' 56 p s' ∧ Only p w w' := by
  obtain ⟨s2, r2, c2, hm⟩ : ∃ a b c, act s = (a, b, c) := ⟨_, _, _, rfl⟩
  have e : step 0 s = ((act s).1, flagOf (act s).2.1, (act s).2.2) := rfl
  rw [e, hm] at hr; cases hr
  have HC := Lib.hid (ract_any w p s h hg _ _ _ hm)
  clear e hm
  clear h hg
  go_enter Try.func14, Try.ntmps14
  go_wp2_with fail
  refine HC.out.mono ?_
  rintro e w1 ⟨rfl, hk, ho⟩
  have HK := Lib.hid hk
  have HO := Lib.hid ho
  clear hk ho HC
  go_wp2_with fail
  refine (flag_any w1 r2).mono ?_
  rintro e w2 ⟨rfl, rfl⟩
  go_wp2
  go_ret2
  exact ⟨rfl, HK.out, HO.out⟩

set_option maxHeartbeats 400000 in
theorem want_1 (w : World) (p : Nat) (s : St) (h : Tk w 56 p s) (_ : Good s) (s' : St) (x y : Int) (hr : step 1 s = (s', x, y)) :
    Calls Try.prog 14 #[.pointer (some ⟨p, 0, none⟩), .int .i64 1] w fun e w' => e = .returned (.tuple #[.int .i64 x, .int .i64 y]) ∧ Tk w' 56 p s' ∧ Only p w w' := by
  have e : step 1 s = (canAct s, s.A, 0) := rfl
  rw [e] at hr; cases hr
  have HC := Lib.hid (rcanAct_any w p s h _ _ rfl rfl)
  clear h
  go_enter Try.func14, Try.ntmps14
  go_wp2_with fail
  refine HC.out.mono ?_
  rintro e w1 ⟨rfl, hk, ho⟩
  have HK := Lib.hid hk
  have HO := Lib.hid ho
  clear hk ho HC
  go_wp2
  go_ret2
  exact ⟨rfl, HK.out, HO.out⟩

set_option maxHeartbeats 400000 in
theorem want_2 (w : World) (p : Nat) (s : St) (h : Tk w 56 p s) (hg : Good s) (s' : St) (x y : Int) (hr : step 2 s = (s', x, y)) :
    Calls Try.prog 14 #[.pointer (some ⟨p, 0, none⟩), .int .i64 2] w fun e w' => e = .returned (.tuple #[.int .i64 x, .int .i64 y]) ∧ Tk w' 56 p s' ∧ Only p w w' := by
  obtain ⟨s2, r2, hm⟩ : ∃ a b, endS s = (a, b) := ⟨_, _, rfl⟩
  have e : step 2 s = ((endS s).1, flagOf (endS s).2, 0) := rfl
  rw [e, hm] at hr; cases hr
  have HC := Lib.hid (rend_any w p s h hg _ _ hm)
  clear e hm
  clear h hg
  go_enter Try.func14, Try.ntmps14
  go_wp2_with fail
  refine HC.out.mono ?_
  rintro e w1 ⟨rfl, hk, ho⟩
  have HK := Lib.hid hk
  have HO := Lib.hid ho
  clear hk ho HC
  go_wp2_with fail
  refine (flag_any w1 r2).mono ?_
  rintro e w2 ⟨rfl, rfl⟩
  go_wp2
  go_ret2
  exact ⟨rfl, HK.out, HO.out⟩

set_option maxHeartbeats 400000 in
theorem want_3 (w : World) (p : Nat) (s : St) (h : Tk w 56 p s) (hg : Good s) (s' : St) (x y : Int) (hr : step 3 s = (s', x, y)) :
    Calls Try.prog 14 #[.pointer (some ⟨p, 0, none⟩), .int .i64 3] w fun e w' => e = .returned (.tuple #[.int .i64 x, .int .i64 y]) ∧ Tk w' 56 p s' ∧ Only p w w' := by
  obtain ⟨s2, r2, c2, hm⟩ : ∃ a b c, kill s = (a, b, c) := ⟨_, _, _, rfl⟩
  have e : step 3 s = ((kill s).1, flagOf (kill s).2.1, (kill s).2.2) := rfl
  rw [e, hm] at hr; cases hr
  have HC := Lib.hid (rkill_any w p s h hg _ _ _ hm)
  clear e hm
  clear h hg
  go_enter Try.func14, Try.ntmps14
  go_wp2_with fail
  refine HC.out.mono ?_
  rintro e w1 ⟨rfl, hk, ho⟩
  have HK := Lib.hid hk
  have HO := Lib.hid ho
  clear hk ho HC
  go_wp2_with fail
  refine (flag_any w1 r2).mono ?_
  rintro e w2 ⟨rfl, rfl⟩
  go_wp2
  go_ret2
  exact ⟨rfl, HK.out, HO.out⟩

set_option maxHeartbeats 400000 in
theorem want_4 (w : World) (p : Nat) (s : St) (h : Tk w 56 p s) (hg : Good s) (s' : St) (x y : Int) (hr : step 4 s = (s', x, y)) :
    Calls Try.prog 14 #[.pointer (some ⟨p, 0, none⟩), .int .i64 4] w fun e w' => e = .returned (.tuple #[.int .i64 x, .int .i64 y]) ∧ Tk w' 56 p s' ∧ Only p w w' := by
  obtain ⟨s2, r2, c2, hm⟩ : ∃ a b c, sleep s = (a, b, c) := ⟨_, _, _, rfl⟩
  have e : step 4 s = ((sleep s).1, flagOf (sleep s).2.1, (sleep s).2.2) := rfl
  rw [e, hm] at hr; cases hr
  have HC := Lib.hid (rsleep_any w p s h hg _ _ _ hm)
  clear e hm
  clear h hg
  go_enter Try.func14, Try.ntmps14
  go_wp2_with fail
  refine HC.out.mono ?_
  rintro e w1 ⟨rfl, hk, ho⟩
  have HK := Lib.hid hk
  have HO := Lib.hid ho
  clear hk ho HC
  go_wp2_with fail
  refine (flag_any w1 r2).mono ?_
  rintro e w2 ⟨rfl, rfl⟩
  go_wp2
  go_ret2
  exact ⟨rfl, HK.out, HO.out⟩

set_option maxHeartbeats 400000 in
theorem want_5 (w : World) (p : Nat) (s : St) (h : Tk w 56 p s) (hg : Good s) (s' : St) (x y : Int) (hr : step 5 s = (s', x, y)) :
    Calls Try.prog 14 #[.pointer (some ⟨p, 0, none⟩), .int .i64 5] w fun e w' => e = .returned (.tuple #[.int .i64 x, .int .i64 y]) ∧ Tk w' 56 p s' ∧ Only p w w' := by
  obtain ⟨s2, c2, hm⟩ : ∃ a b, stay s = (a, b) := ⟨_, _, rfl⟩
  have e : step 5 s = ((stay s).1, 0, (stay s).2) := rfl
  rw [e, hm] at hr; cases hr
  have HC := Lib.hid (rstay_any w p s h hg _ _ hm)
  clear e hm
  clear h hg
  go_enter Try.func14, Try.ntmps14
  go_wp2_with fail
  refine HC.out.mono ?_
  rintro e w1 ⟨rfl, hk, ho⟩
  have HK := Lib.hid hk
  have HO := Lib.hid ho
  clear hk ho HC
  go_wp2
  go_ret2
  exact ⟨rfl, HK.out, HO.out⟩

set_option maxHeartbeats 400000 in
theorem want_6 (w : World) (p : Nat) (s : St) (h : Tk w 56 p s) (hg : Good s) (s' : St) (x y : Int) (hr : step 6 s = (s', x, y)) :
    Calls Try.prog 14 #[.pointer (some ⟨p, 0, none⟩), .int .i64 6] w fun e w' => e = .returned (.tuple #[.int .i64 x, .int .i64 y]) ∧ Tk w' 56 p s' ∧ Only p w w' := by
  obtain ⟨s2, r2, c2, hm⟩ : ∃ a b c, wake s = (a, b, c) := ⟨_, _, _, rfl⟩
  have e : step 6 s = ((wake s).1, flagOf (wake s).2.1, (wake s).2.2) := rfl
  rw [e, hm] at hr; cases hr
  have HC := Lib.hid (rwake_any w p s h hg _ _ _ hm)
  clear e hm
  clear h hg
  go_enter Try.func14, Try.ntmps14
  go_wp2_with fail
  refine HC.out.mono ?_
  rintro e w1 ⟨rfl, hk, ho⟩
  have HK := Lib.hid hk
  have HO := Lib.hid ho
  clear hk ho HC
  go_wp2_with fail
  refine (flag_any w1 r2).mono ?_
  rintro e w2 ⟨rfl, rfl⟩
  go_wp2
  go_ret2
  exact ⟨rfl, HK.out, HO.out⟩

set_option maxHeartbeats 400000 in
theorem want_7 (w : World) (p : Nat) (s : St) (h : Tk w 56 p s) (_ : Good s) (s' : St) (x y : Int) (hr : step 7 s = (s', x, y)) :
    Calls Try.prog 14 #[.pointer (some ⟨p, 0, none⟩), .int .i64 7] w fun e w' => e = .returned (.tuple #[.int .i64 x, .int .i64 y]) ∧ Tk w' 56 p s' ∧ Only p w w' := by
  obtain ⟨s2, x2, c2, hm⟩ : ∃ a b c, canWake s = (a, b, c) := ⟨_, _, _, rfl⟩
  have e : step 7 s = ((canWake s).1, (canWake s).2.1, (canWake s).2.2) := rfl
  rw [e, hm] at hr; cases hr
  have HC := Lib.hid (rcanWake_any w p s h _ _ _ hm)
  clear e hm
  clear h
  go_enter Try.func14, Try.ntmps14
  go_wp2_with fail
  refine HC.out.mono ?_
  rintro e w1 ⟨rfl, hk, ho⟩
  have HK := Lib.hid hk
  have HO := Lib.hid ho
  clear hk ho HC
  go_wp2
  go_ret2
  exact ⟨rfl, HK.out, HO.out⟩

set_option maxHeartbeats 400000 in
theorem want_8 (w : World) (p : Nat) (s : St) (h : Tk w 56 p s) (_ : Good s) (s' : St) (x y : Int) (hr : step 8 s = (s', x, y)) :
    Calls Try.prog 14 #[.pointer (some ⟨p, 0, none⟩), .int .i64 8] w fun e w' => e = .returned (.tuple #[.int .i64 x, .int .i64 y]) ∧ Tk w' 56 p s' ∧ Only p w w' := by
  obtain ⟨s2, r2, hm⟩ : ∃ a b, release s = (a, b) := ⟨_, _, rfl⟩
  have e : step 8 s = ((release s).1, flagOf (release s).2, 0) := rfl
  rw [e, hm] at hr; cases hr
  have HC := Lib.hid (rrelease_any w p s h _ _ hm)
  clear e hm
  clear h
  go_enter Try.func14, Try.ntmps14
  go_wp2_with fail
  refine HC.out.mono ?_
  rintro e w1 ⟨rfl, hk, ho⟩
  have HK := Lib.hid hk
  have HO := Lib.hid ho
  clear hk ho HC
  go_wp2_with fail
  refine (flag_any w1 r2).mono ?_
  rintro e w2 ⟨rfl, rfl⟩
  go_wp2
  go_ret2
  exact ⟨rfl, HK.out, HO.out⟩

set_option maxHeartbeats 400000 in
theorem want_9 (w : World) (p : Nat) (s : St) (h : Tk w 56 p s) (hg : Good s) (s' : St) (x y : Int) (hr : step 9 s = (s', x, y)) :
    Calls Try.prog 14 #[.pointer (some ⟨p, 0, none⟩), .int .i64 9] w fun e w' => e = .returned (.tuple #[.int .i64 x, .int .i64 y]) ∧ Tk w' 56 p s' ∧ Only p w w' := by
  obtain ⟨s2, c2, hm⟩ : ∃ a b, suspend s = (a, b) := ⟨_, _, rfl⟩
  have e : step 9 s = ((suspend s).1, 0, (suspend s).2) := rfl
  rw [e, hm] at hr; cases hr
  have HC := Lib.hid (rsuspend_any w p s h hg _ _ hm)
  clear e hm
  clear h hg
  go_enter Try.func14, Try.ntmps14
  go_wp2_with fail
  refine HC.out.mono ?_
  rintro e w1 ⟨rfl, hk, ho⟩
  have HK := Lib.hid hk
  have HO := Lib.hid ho
  clear hk ho HC
  go_wp2
  go_ret2
  exact ⟨rfl, HK.out, HO.out⟩

set_option maxHeartbeats 400000 in
theorem want_10 (w : World) (p : Nat) (s : St) (h : Tk w 56 p s) (hg : Good s) (s' : St) (x y : Int) (hr : step 10 s = (s', x, y)) :
    Calls Try.prog 14 #[.pointer (some ⟨p, 0, none⟩), .int .i64 10] w fun e w' => e = .returned (.tuple #[.int .i64 x, .int .i64 y]) ∧ Tk w' 56 p s' ∧ Only p w w' := by
  obtain ⟨s2, r2, c2, hm⟩ : ∃ a b c, resume s false = (a, b, c) := ⟨_, _, _, rfl⟩
  have e : step 10 s = ((resume s false).1, flagOf (resume s false).2.1, (resume s false).2.2) := rfl
  rw [e, hm] at hr; cases hr
  have HC := Lib.hid (rresume_any w p s h hg false _ _ _ hm)
  clear e hm
  clear h hg
  go_enter Try.func14, Try.ntmps14
  go_wp2_with fail
  refine HC.out.mono ?_
  rintro e w1 ⟨rfl, hk, ho⟩
  have HK := Lib.hid hk
  have HO := Lib.hid ho
  clear hk ho HC
  go_wp2_with fail
  refine (flag_any w1 r2).mono ?_
  rintro e w2 ⟨rfl, rfl⟩
  go_wp2
  go_ret2
  exact ⟨rfl, HK.out, HO.out⟩

set_option maxHeartbeats 400000 in
theorem want_11 (w : World) (p : Nat) (s : St) (h : Tk w 56 p s) (hg : Good s) (s' : St) (x y : Int) (hr : step 11 s = (s', x, y)) :
    Calls Try.prog 14 #[.pointer (some ⟨p, 0, none⟩), .int .i64 11] w fun e w' => e = .returned (.tuple #[.int .i64 x, .int .i64 y]) ∧ Tk w' 56 p s' ∧ Only p w w' := by
  obtain ⟨s2, r2, c2, hm⟩ : ∃ a b c, resume s true = (a, b, c) := ⟨_, _, _, rfl⟩
  have e : step 11 s = ((resume s true).1, flagOf (resume s true).2.1, (resume s true).2.2) := rfl
  rw [e, hm] at hr; cases hr
  have HC := Lib.hid (rresume_any w p s h hg true _ _ _ hm)
  clear e hm
  clear h hg
  go_enter Try.func14, Try.ntmps14
  go_wp2_with fail
  refine HC.out.mono ?_
  rintro e w1 ⟨rfl, hk, ho⟩
  have HK := Lib.hid hk
  have HO := Lib.hid ho
  clear hk ho HC
  go_wp2_with fail
  refine (flag_any w1 r2).mono ?_
  rintro e w2 ⟨rfl, rfl⟩
  go_wp2
  go_ret2
  exact ⟨rfl, HK.out, HO.out⟩

set_option maxHeartbeats 800000 in
theorem want_no (w : World) (p : Nat) (s : St) (h : Tk w 56 p s) (a : Int) (ha : ∀ k : Int, 0 ≤ k → k ≤ 11 → ¬ a = k) :
    Calls Try.prog 14 #[.pointer (some ⟨p, 0, none⟩), .int .i64 a] w fun e w' => e = .returned (.tuple #[.int .i64 0, .int .i64 0]) ∧ Tk w' 56 p s ∧ Only p w w' := by
  have n0 : (a == 0) = false := by simpa using ha 0 (by omega) (by omega)
  have n1 : (a == 1) = false := by simpa using ha 1 (by omega) (by omega)
  have n2 : (a == 2) = false := by simpa using ha 2 (by omega) (by omega)
  have n3 : (a == 3) = false := by simpa using ha 3 (by omega) (by omega)
  have n4 : (a == 4) = false := by simpa using ha 4 (by omega) (by omega)
  have n5 : (a == 5) = false := by simpa using ha 5 (by omega) (by omega)
  have n6 : (a == 6) = false := by simpa using ha 6 (by omega) (by omega)
  have n7 : (a == 7) = false := by simpa using ha 7 (by omega) (by omega)
  have n8 : (a == 8) = false := by simpa using ha 8 (by omega) (by omega)
  have n9 : (a == 9) = false := by simpa using ha 9 (by omega) (by omega)
  have n10 : (a == 10) = false := by simpa using ha 10 (by omega) (by omega)
  have n11 : (a == 11) = false := by simpa using ha 11 (by omega) (by omega)
  clear ha
  go_enter Try.func14, Try.ntmps14
  go_wp2
  go_ret2
  exact ⟨rfl, h, Only.refl p w⟩

theorem want_any (w : World) (p : Nat) (s : St) (h : Tk w 56 p s) (hg : Good s) (a : Int) (s' : St) (x y : Int) (hr : step a s = (s', x, y)) :
    Calls Try.prog 14 #[.pointer (some ⟨p, 0, none⟩), .int .i64 a] w fun e w' => e = .returned (.tuple #[.int .i64 x, .int .i64 y]) ∧ Tk w' 56 p s' ∧ Only p w w' := by
  by_cases n0 : a = 0
  · subst n0; exact want_0 w p s h hg s' x y hr
  by_cases n1 : a = 1
  · subst n1; exact want_1 w p s h hg s' x y hr
  by_cases n2 : a = 2
  · subst n2; exact want_2 w p s h hg s' x y hr
  by_cases n3 : a = 3
  · subst n3; exact want_3 w p s h hg s' x y hr
  by_cases n4 : a = 4
  · subst n4; exact want_4 w p s h hg s' x y hr
  by_cases n5 : a = 5
  · subst n5; exact want_5 w p s h hg s' x y hr
  by_cases n6 : a = 6
  · subst n6; exact want_6 w p s h hg s' x y hr
  by_cases n7 : a = 7
  · subst n7; exact want_7 w p s h hg s' x y hr
  by_cases n8 : a = 8
  · subst n8; exact want_8 w p s h hg s' x y hr
  by_cases n9 : a = 9
  · subst n9; exact want_9 w p s h hg s' x y hr
  by_cases n10 : a = 10
  · subst n10; exact want_10 w p s h hg s' x y hr
  by_cases n11 : a = 11
  · subst n11; exact want_11 w p s h hg s' x y hr
  have e : step a s = (s, 0, 0) := by
    unfold step
    rw [if_neg n0, if_neg n1, if_neg n2, if_neg n3, if_neg n4, if_neg n5, if_neg n6, if_neg n7, if_neg n8, if_neg n9, if_neg n10, if_neg n11]
  rw [e] at hr; cases hr
  refine want_no w p s h a fun k h0 h1 hk => ?_
  omega
end Go.Proofs.Ytjiiopnlcohilaa
