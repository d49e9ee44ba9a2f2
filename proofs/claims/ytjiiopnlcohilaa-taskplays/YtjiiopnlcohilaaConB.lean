/- Contracts of a task: queue, empty, finish, and its methods. -/
import Derived.Test.YtjiiopnlcohilaaConA
namespace Go.Proofs.Ytjiiopnlcohilaa
open Go.RowKit

theorem only_set (w : World) (p i : Nat) (v : Value) : Only p w (w.setCell ⟨p, i, none⟩ v) := (Only.refl p w).setCell (.inl rfl) v
theorem Only.set {p : Nat} {a w : World} (h : Only p a w) (i : Nat) (v : Value) : Only p a (w.setCell ⟨p, i, none⟩ v) := h.setCell (.inl rfl) v

theorem queue_no (w : World) (p i : Nat) (x : Int) (hc : w.cell? ⟨p, i, none⟩ = some (.int .i64 x)) (h7 : 7 ≤ x) :
    Calls Try.prog 41 #[.pointer (some ⟨p, i, none⟩)] w fun e w' => e = .returned (.int .i64 (-43)) ∧ w = w' := by
  go_enter Try.func41, Try.ntmps41
  go_wp2
  go_ret
  exact ⟨rfl, rfl⟩
theorem queue_ok (w : World) (p i : Nat) (x : Int) (hc : w.cell? ⟨p, i, none⟩ = some (.int .i64 x)) (hf : w.frozen? ⟨p, i, none⟩ = false) (h0 : 0 ≤ x) (h7 : x < 7) :
    Calls Try.prog 41 #[.pointer (some ⟨p, i, none⟩)] w fun e w' => e = .returned (.int .i64 0) ∧ w.setCell ⟨p, i, none⟩ (.int .i64 (x + 1)) = w' := by
  go_enter Try.func41, Try.ntmps41
  go_wp2
  go_ret
  exact ⟨rfl, rfl⟩
theorem empty_any (w : World) (p i : Nat) (x : Int) (hc : w.cell? ⟨p, i, none⟩ = some (.int .i64 x)) (hf : w.frozen? ⟨p, i, none⟩ = false) :
    Calls Try.prog 43 #[.pointer (some ⟨p, i, none⟩)] w fun e w' => e = .returned (.int .i64 x) ∧ w.setCell ⟨p, i, none⟩ (.int .i64 0) = w' := by
  go_enter Try.func43, Try.ntmps43
  go_wp2
  go_ret
  exact ⟨rfl, rfl⟩

theorem finish_any (w : World) (p : Nat) (s : St) (h : Tk w 47 p s) (hg : Good s) (s' : St) (r : Bool) (hs : over s = s') (hr : decide (0 < s.A) = r) :
    Calls Try.prog 42 #[.pointer (some ⟨p, 0, none⟩)] w fun e w' => e = .returned (.bool r) ∧ Tk w' 47 p s' ∧ Only p w w' := by
  obtain ⟨c0, c1, c2, c3, c4⟩ := h.at_
  have f := h.frozen
  obtain ⟨h1, h2⟩ := hg.1
  have H := Lib.hid h
  clear h hg
  by_cases e : s.A ≤ 0
  · have ho : over s = ⟨s.A, 0, 0, 16, false⟩ := if_pos e
    obtain rfl : r = false := by rw [← hr]; simp; omega
    rw [ho] at hs
    subst hs
    clear ho hr
    go_enter Try.func42, Try.ntmps42
    go_wp2
    go_ret
    exact ⟨rfl, ((((H.out.setA s.A).setW 0).setS 0).setX 16).setz false, (((((Only.refl p w).set 0 _).set 1 _).set 2 _).set 3 _).set 4 _⟩
  · have ho : over s = ⟨s.A - 1, 0, 0, 2, false⟩ := if_neg e
    obtain rfl : r = true := by rw [← hr]; simp; omega
    rw [ho] at hs
    subst hs
    have e2 : 0 < s.A := by omega
    clear ho hr e
    go_enter Try.func42, Try.ntmps42
    go_wp2
    go_ret
    exact ⟨rfl, ((((((H.out.setA s.A).setW 0).setS 0).setX 16).setz false).setA (s.A - 1)).setX 2, (((((((Only.refl p w).set 0 _).set 1 _).set 2 _).set 3 _).set 4 _).set 0 _).set 3 _⟩

set_option maxHeartbeats 400000 in
theorem act_any (w : World) (p : Nat) (s : St) (h : Tk w 47 p s) (hg : Good s) (s' : St) (r : Bool) (c : Int) (hr : act s = (s', r, c)) :
    Calls Try.prog 16 #[.pointer (some ⟨p, 0, none⟩)] w fun e w' => e = .returned (.tuple #[.bool r, .int .i64 c]) ∧ Tk w' 47 p s' ∧ Only p w w' := by
  obtain ⟨h1, h2⟩ := hg.1
  unfold act at hr
  clear hg
  by_cases e : s.X = 16
  · rw [if_pos e] at hr; cases hr
    have HI := Lib.hid (is_one w p s h 16 true (by simp [e]))
    clear h e
    go_enter Try.func16, Try.ntmps16
    go_wp2_with fail
    refine HI.out.mono ?_
    rintro e w1 ⟨rfl, hk, hb⟩
    obtain ⟨c0, c1, c2, c3, c4⟩ := hk.at_
    have f := hk.frozen
    have HK := Lib.hid hk
    have HB := Lib.hid hb
    clear hk hb HI
    go_wp2
    go_ret2
    exact ⟨rfl, HK.out.setX 2, (Only.of_below HB.out).set 3 _⟩
  · rw [if_neg e] at hr
    have HI := Lib.hid (is_one w p s h 16 false (by simp [e]))
    clear h e
    by_cases e : 7 ≤ s.A
    · rw [if_pos e] at hr; cases hr
      go_enter Try.func16, Try.ntmps16
      go_wp2_with fail
      refine HI.out.mono ?_
      rintro e w1 ⟨rfl, hk, hb⟩
      obtain ⟨c0, c1, c2, c3, c4⟩ := hk.at_
      have f := hk.frozen
      have HK := Lib.hid hk
      have HB := Lib.hid hb
      clear hk hb HI
      go_wp2_with fail
      refine (queue_no w1 p 0 s.A c0 e).mono ?_
      rintro e w2 ⟨rfl, rfl⟩
      go_wp2
      go_ret2
      exact ⟨rfl, HK.out, Only.of_below HB.out⟩
    · rw [if_neg e] at hr; cases hr
      go_enter Try.func16, Try.ntmps16
      go_wp2_with fail
      refine HI.out.mono ?_
      rintro e w1 ⟨rfl, hk, hb⟩
      obtain ⟨c0, c1, c2, c3, c4⟩ := hk.at_
      have f := hk.frozen
      have HK := Lib.hid hk
      have HB := Lib.hid hb
      clear hk hb HI
      go_wp2_with fail
      refine (queue_ok w1 p 0 s.A c0 (f 0) h1 (by omega)).mono ?_
      rintro e w2 ⟨rfl, rfl⟩
      go_wp2
      go_ret2
      exact ⟨rfl, HK.out.setA _, (Only.of_below HB.out).set 0 _⟩

theorem canAct_any (w : World) (p : Nat) (s : St) (h : Tk w 47 p s) (s' : St) (c : Int) (hs : canAct s = s') (hr : s.A = c) :
    Calls Try.prog 22 #[.pointer (some ⟨p, 0, none⟩)] w fun e w' => e = .returned (.int .i64 c) ∧ Tk w' 47 p s' ∧ Only p w w' := by
  subst hs hr
  obtain ⟨c0, c1, c2, c3, c4⟩ := h.at_
  have f := h.frozen
  go_enter Try.func22, Try.ntmps22
  go_wp2_with fail
  refine (empty_any w p 0 s.A c0 (f 0)).mono ?_
  rintro e w2 ⟨rfl, rfl⟩
  go_wp2
  go_ret
  exact ⟨rfl, h.setA 0, (Only.refl p w).set 0 _⟩

theorem canWake_any (w : World) (p : Nat) (s : St) (h : Tk w 47 p s) (s' : St) (r c : Int) (hr : canWake s = (s', r, c)) :
    Calls Try.prog 27 #[.pointer (some ⟨p, 0, none⟩)] w fun e w' => e = .returned (.tuple #[.int .i64 r, .int .i64 c]) ∧ Tk w' 47 p s' ∧ Only p w w' := by
  unfold canWake at hr
  by_cases e : s.X = 16
  · rw [if_pos e] at hr; cases hr
    have HI := Lib.hid (is_one w p s h 16 true (by simp [e]))
    clear h e
    go_enter Try.func27, Try.ntmps27
    go_wp2_with fail
    refine HI.out.mono ?_
    rintro e w1 ⟨rfl, hk, hb⟩
    obtain ⟨c0, c1, c2, c3, c4⟩ := hk.at_
    have f := hk.frozen
    have HK := Lib.hid hk
    have HB := Lib.hid hb
    clear hk hb HI
    go_wp2
    go_ret2
    exact ⟨rfl, HK.out, Only.of_below HB.out⟩
  · rw [if_neg e] at hr; cases hr
    have HI := Lib.hid (is_one w p s h 16 false (by simp [e]))
    clear h e
    go_enter Try.func27, Try.ntmps27
    go_wp2_with fail
    refine HI.out.mono ?_
    rintro e w1 ⟨rfl, hk, hb⟩
    obtain ⟨c0, c1, c2, c3, c4⟩ := hk.at_
    have f := hk.frozen
    have HK := Lib.hid hk
    have HB := Lib.hid hb
    clear hk hb HI
    go_wp2_with fail
    refine (empty_any w1 p 1 s.W c1 (f 1)).mono ?_
    rintro e w2 ⟨rfl, rfl⟩
    go_wp2
    go_ret2
    exact ⟨rfl, HK.out.setW 0, (Only.of_below HB.out).set 1 _⟩

set_option maxHeartbeats 400000 in
theorem end_any (w : World) (p : Nat) (s : St) (h : Tk w 47 p s) (hg : Good s) (s' : St) (r : Bool) (hr : endS s = (s', r)) :
    Calls Try.prog 25 #[.pointer (some ⟨p, 0, none⟩)] w fun e w' => e = .returned (.bool r) ∧ Tk w' 47 p s' ∧ Only p w w' := by
  unfold endS at hr
  by_cases e : s.X = 2
  · rw [if_pos e] at hr; cases hr
    have HI := Lib.hid (is_one w p s h 2 true (by simp [e]))
    clear h e
    go_enter Try.func25, Try.ntmps25
    go_wp2_with fail
    refine HI.out.mono ?_
    rintro e w1 ⟨rfl, hk, hb⟩
    obtain ⟨c0, c1, c2, c3, c4⟩ := hk.at_
    have f := hk.frozen
    have HK := Lib.hid hk
    have HB := Lib.hid hb
    clear hk hb HI
    go_wp2_with fail
    refine (finish_any w1 p s HK.out hg _ _ rfl rfl).mono ?_
    rintro e w2 ⟨rfl, k2, o2⟩
    go_wp2
    go_ret
    exact ⟨rfl, k2, (Only.of_below HB.out).trans o2⟩
  · rw [if_neg e] at hr; cases hr
    have HI := Lib.hid (is_one w p s h 2 false (by simp [e]))
    clear h e
    go_enter Try.func25, Try.ntmps25
    go_wp2_with fail
    refine HI.out.mono ?_
    rintro e w1 ⟨rfl, hk, hb⟩
    obtain ⟨c0, c1, c2, c3, c4⟩ := hk.at_
    have f := hk.frozen
    have HK := Lib.hid hk
    have HB := Lib.hid hb
    clear hk hb HI
    go_wp2
    go_ret
    exact ⟨rfl, HK.out, Only.of_below HB.out⟩

set_option maxHeartbeats 400000 in
theorem kill_any (w : World) (p : Nat) (s : St) (h : Tk w 47 p s) (hg : Good s) (s' : St) (r : Bool) (c : Int) (hr : kill s = (s', r, c)) :
    Calls Try.prog 21 #[.pointer (some ⟨p, 0, none⟩)] w fun e w' => e = .returned (.tuple #[.bool r, .int .i64 c]) ∧ Tk w' 47 p s' ∧ Only p w w' := by
  unfold kill at hr
  by_cases e : s.X = 16
  · rw [if_pos e] at hr; cases hr
    have HI := Lib.hid (is_one w p s h 16 true (by simp [e]))
    clear h e
    go_enter Try.func21, Try.ntmps21
    go_wp2_with fail
    refine HI.out.mono ?_
    rintro e w1 ⟨rfl, hk, hb⟩
    obtain ⟨c0, c1, c2, c3, c4⟩ := hk.at_
    have f := hk.frozen
    have HK := Lib.hid hk
    have HB := Lib.hid hb
    clear hk hb HI
    go_wp2
    go_ret2
    exact ⟨rfl, HK.out, Only.of_below HB.out⟩
  · rw [if_neg e] at hr; cases hr
    have HI := Lib.hid (is_one w p s h 16 false (by simp [e]))
    clear h e
    go_enter Try.func21, Try.ntmps21
    go_wp2_with fail
    refine HI.out.mono ?_
    rintro e w1 ⟨rfl, hk, hb⟩
    obtain ⟨c0, c1, c2, c3, c4⟩ := hk.at_
    have f := hk.frozen
    have HK := Lib.hid hk
    have HB := Lib.hid hb
    clear hk hb HI
    go_wp2_with fail
    refine (finish_any w1 p s HK.out hg _ _ rfl rfl).mono ?_
    rintro e w2 ⟨rfl, k2, o2⟩
    go_wp2
    go_ret2
    exact ⟨rfl, k2, (Only.of_below HB.out).trans o2⟩

set_option maxHeartbeats 400000 in
theorem sleep_any (w : World) (p : Nat) (s : St) (h : Tk w 47 p s) (hg : Good s) (s' : St) (r : Bool) (c : Int) (hr : sleep s = (s', r, c)) :
    Calls Try.prog 18 #[.pointer (some ⟨p, 0, none⟩)] w fun e w' => e = .returned (.tuple #[.bool r, .int .i64 c]) ∧ Tk w' 47 p s' ∧ Only p w w' := by
  obtain ⟨h1, h2⟩ := hg.2.1
  unfold sleep at hr
  clear hg
  by_cases e : s.X = 2
  · rw [if_pos e] at hr
    have HI := Lib.hid (is_one w p s h 2 true (by simp [e]))
    clear h e
    by_cases e : 0 < s.W
    · rw [if_pos e] at hr; cases hr
      go_enter Try.func18, Try.ntmps18
      go_wp2_with fail
      refine HI.out.mono ?_
      rintro e w1 ⟨rfl, hk, hb⟩
      obtain ⟨c0, c1, c2, c3, c4⟩ := hk.at_
      have f := hk.frozen
      have HK := Lib.hid hk
      have HB := Lib.hid hb
      clear hk hb HI
      go_wp2
      go_ret2
      exact ⟨rfl, HK.out.setW _, (Only.of_below HB.out).set 1 _⟩
    · rw [if_neg e] at hr; cases hr
      have e1 : decide (0 < s.W) = false := by simp; omega
      go_enter Try.func18, Try.ntmps18
      go_wp2_with fail
      refine HI.out.mono ?_
      rintro e w1 ⟨rfl, hk, hb⟩
      obtain ⟨c0, c1, c2, c3, c4⟩ := hk.at_
      have f := hk.frozen
      have HK := Lib.hid hk
      have HB := Lib.hid hb
      clear hk hb HI
      go_wp2
      go_ret2
      exact ⟨rfl, (HK.out.setX _).setz _, ((Only.of_below HB.out).set 3 _).set 4 _⟩
  · rw [if_neg e] at hr; cases hr
    have HI := Lib.hid (is_one w p s h 2 false (by simp [e]))
    clear h e
    go_enter Try.func18, Try.ntmps18
    go_wp2_with fail
    refine HI.out.mono ?_
    rintro e w1 ⟨rfl, hk, hb⟩
    obtain ⟨c0, c1, c2, c3, c4⟩ := hk.at_
    have f := hk.frozen
    have HK := Lib.hid hk
    have HB := Lib.hid hb
    clear hk hb HI
    go_wp2
    go_ret2
    exact ⟨rfl, HK.out, Only.of_below HB.out⟩

set_option maxHeartbeats 400000 in
theorem stay_any (w : World) (p : Nat) (s : St) (h : Tk w 47 p s) (s' : St) (c : Int) (hr : stay s = (s', c)) :
    Calls Try.prog 28 #[.pointer (some ⟨p, 0, none⟩)] w fun e w' => e = .returned (.int .i64 c) ∧ Tk w' 47 p s' ∧ Only p w w' := by
  unfold stay at hr
  by_cases e : s.X = 2
  · rw [if_pos e] at hr; cases hr
    have HI := Lib.hid (is_one w p s h 2 true (by simp [e]))
    clear h e
    go_enter Try.func28, Try.ntmps28
    go_wp2_with fail
    refine HI.out.mono ?_
    rintro e w1 ⟨rfl, hk, hb⟩
    obtain ⟨c0, c1, c2, c3, c4⟩ := hk.at_
    have f := hk.frozen
    have HK := Lib.hid hk
    have HB := Lib.hid hb
    clear hk hb HI
    go_wp2
    go_ret
    exact ⟨rfl, (HK.out.setX _).setz _, ((Only.of_below HB.out).set 3 _).set 4 _⟩
  · rw [if_neg e] at hr; cases hr
    have HI := Lib.hid (is_one w p s h 2 false (by simp [e]))
    clear h e
    go_enter Try.func28, Try.ntmps28
    go_wp2_with fail
    refine HI.out.mono ?_
    rintro e w1 ⟨rfl, hk, hb⟩
    obtain ⟨c0, c1, c2, c3, c4⟩ := hk.at_
    have f := hk.frozen
    have HK := Lib.hid hk
    have HB := Lib.hid hb
    clear hk hb HI
    go_wp2
    go_ret
    exact ⟨rfl, HK.out, Only.of_below HB.out⟩

set_option maxHeartbeats 400000 in
theorem release_any (w : World) (p : Nat) (s : St) (h : Tk w 47 p s) (s' : St) (r : Bool) (hr : release s = (s', r)) :
    Calls Try.prog 29 #[.pointer (some ⟨p, 0, none⟩)] w fun e w' => e = .returned (.bool r) ∧ Tk w' 47 p s' ∧ Only p w w' := by
  unfold release at hr
  obtain ⟨c0, c1, c2, c3, c4⟩ := h.at_
  have f := h.frozen
  have HK := Lib.hid h
  clear h
  by_cases e : s.X = 4
  · rw [if_pos e] at hr; cases hr
    rw [e] at c3
    clear e
    go_enter Try.func29, Try.ntmps29
    go_wp2
    go_ret
    exact ⟨rfl, (HK.out.setX _).setz _, ((Only.refl p w).set 3 _).set 4 _⟩
  · rw [if_neg e] at hr
    by_cases e2 : s.X = 12
    · rw [if_pos e2] at hr; cases hr
      rw [e2] at c3
      clear e e2
      go_enter Try.func29, Try.ntmps29
      go_wp2
      go_ret
      exact ⟨rfl, (HK.out.setX _).setz _, ((Only.refl p w).set 3 _).set 4 _⟩
    · rw [if_neg e2] at hr; cases hr
      have t1 : decide (s.X = 4) = false := by simpa using e
      have t2 : decide (s.X = 12) = false := by simpa using e2
      go_enter Try.func29, Try.ntmps29
      go_wp2
      go_ret
      exact ⟨rfl, HK.out, Only.refl p w⟩

set_option maxHeartbeats 400000 in
theorem wake_any (w : World) (p : Nat) (s : St) (h : Tk w 47 p s) (hg : Good s) (s' : St) (r : Bool) (c : Int) (hr : wake s = (s', r, c)) :
    Calls Try.prog 17 #[.pointer (some ⟨p, 0, none⟩)] w fun e w' => e = .returned (.tuple #[.bool r, .int .i64 c]) ∧ Tk w' 47 p s' ∧ Only p w w' := by
  obtain ⟨h1, h2⟩ := hg.2.1
  unfold wake at hr
  clear hg
  by_cases e : s.X = 16
  · rw [if_pos e] at hr; cases hr
    have HI := Lib.hid (is_one w p s h 16 true (by simp [e]))
    clear h e
    go_enter Try.func17, Try.ntmps17
    go_wp2_with fail
    refine HI.out.mono ?_
    rintro e w1 ⟨rfl, hk, hb⟩
    obtain ⟨c0, c1, c2, c3, c4⟩ := hk.at_
    have f := hk.frozen
    have HK := Lib.hid hk
    have HB := Lib.hid hb
    clear hk hb HI
    go_wp2
    go_ret2
    exact ⟨rfl, HK.out, Only.of_below HB.out⟩
  · rw [if_neg e] at hr
    have HI := Lib.hid (is_one w p s h 16 false (by simp [e]))
    clear h e
    by_cases ez : s.z = true
    · rw [if_pos ez] at hr
      obtain ⟨s2, r2, hrel⟩ : ∃ a b, release s = (a, b) := ⟨_, _, rfl⟩
      rw [hrel] at hr; cases hr
      have HR := Lib.hid hrel
      clear hrel
      go_enter Try.func17, Try.ntmps17
      go_wp2_with fail
      refine HI.out.mono ?_
      rintro e w1 ⟨rfl, hk, hb⟩
      obtain ⟨c0, c1, c2, c3, c4⟩ := hk.at_
      have f := hk.frozen
      have HK := Lib.hid hk
      have HB := Lib.hid hb
      clear hk hb HI
      rw [ez] at c4
      clear ez
      go_wp2_with fail
      refine (release_any w1 p s HK.out _ _ HR.out).mono ?_
      rintro e w2 ⟨rfl, k2, o2⟩
      have HK2 := Lib.hid k2
      clear k2
      go_wp2
      go_ret2
      exact ⟨rfl, HK2.out, (Only.of_below HB.out).trans o2⟩
    · rw [if_neg ez] at hr
      have ez2 : s.z = false := by simpa using ez
      by_cases e : 7 ≤ s.W
      · rw [if_pos e] at hr; cases hr
        go_enter Try.func17, Try.ntmps17
        go_wp2_with fail
        refine HI.out.mono ?_
        rintro e w1 ⟨rfl, hk, hb⟩
        obtain ⟨c0, c1, c2, c3, c4⟩ := hk.at_
        have f := hk.frozen
        have HK := Lib.hid hk
        have HB := Lib.hid hb
        clear hk hb HI
        rw [ez2] at c4
        clear ez ez2
        go_wp2_with fail
        refine (queue_no w1 p 1 s.W c1 e).mono ?_
        rintro e w2 ⟨rfl, rfl⟩
        go_wp2
        go_ret2
        exact ⟨rfl, HK.out, Only.of_below HB.out⟩
      · rw [if_neg e] at hr; cases hr
        go_enter Try.func17, Try.ntmps17
        go_wp2_with fail
        refine HI.out.mono ?_
        rintro e w1 ⟨rfl, hk, hb⟩
        obtain ⟨c0, c1, c2, c3, c4⟩ := hk.at_
        have f := hk.frozen
        have HK := Lib.hid hk
        have HB := Lib.hid hb
        clear hk hb HI
        rw [ez2] at c4
        clear ez ez2
        go_wp2_with fail
        refine (queue_ok w1 p 1 s.W c1 (f 1) h1 (by omega)).mono ?_
        rintro e w2 ⟨rfl, rfl⟩
        go_wp2
        go_ret2
        exact ⟨rfl, HK.out.setW _, (Only.of_below HB.out).set 1 _⟩

set_option maxHeartbeats 400000 in
theorem suspend_any (w : World) (p : Nat) (s : St) (h : Tk w 47 p s) (hg : Good s) (s' : St) (c : Int) (hr : suspend s = (s', c)) :
    Calls Try.prog 19 #[.pointer (some ⟨p, 0, none⟩)] w fun e w' => e = .returned (.int .i64 c) ∧ Tk w' 47 p s' ∧ Only p w w' := by
  obtain ⟨h1, h2⟩ := hg.2.2.1
  unfold suspend at hr
  clear hg
  by_cases e : s.X = 16
  · rw [if_pos e] at hr; cases hr
    have HI := Lib.hid (is_one w p s h 16 true (by simp [e]))
    clear h e
    go_enter Try.func19, Try.ntmps19
    go_wp2_with fail
    refine HI.out.mono ?_
    rintro e w1 ⟨rfl, hk, hb⟩
    obtain ⟨c0, c1, c2, c3, c4⟩ := hk.at_
    have f := hk.frozen
    have HK := Lib.hid hk
    have HB := Lib.hid hb
    clear hk hb HI
    go_wp2
    go_ret
    exact ⟨rfl, HK.out, Only.of_below HB.out⟩
  rw [if_neg e] at hr
  have HI := Lib.hid (is_one w p s h 16 false (by simp [e]))
  clear h e
  by_cases e7 : 7 ≤ s.S
  · rw [if_pos e7] at hr; cases hr
    go_enter Try.func19, Try.ntmps19
    go_wp2_with fail
    refine HI.out.mono ?_
    rintro e w1 ⟨rfl, hk, hb⟩
    obtain ⟨c0, c1, c2, c3, c4⟩ := hk.at_
    have f := hk.frozen
    have HK := Lib.hid hk
    have HB := Lib.hid hb
    clear hk hb HI
    go_wp2_with fail
    refine (queue_no w1 p 2 s.S c2 e7).mono ?_
    rintro e w2 ⟨rfl, rfl⟩
    go_wp2
    go_ret
    exact ⟨rfl, HK.out, Only.of_below HB.out⟩
  rw [if_neg e7] at hr
  by_cases e2 : s.X = 2
  · rw [if_pos e2] at hr; cases hr
    go_enter Try.func19, Try.ntmps19
    go_wp2_with fail
    refine HI.out.mono ?_
    rintro e w1 ⟨rfl, hk, hb⟩
    obtain ⟨c0, c1, c2, c3, c4⟩ := hk.at_
    have f := hk.frozen
    have HK := Lib.hid hk
    have HB := Lib.hid hb
    clear hk hb HI
    go_wp2_with fail
    refine (queue_ok w1 p 2 s.S c2 (f 2) h1 (by omega)).mono ?_
    rintro e w2 ⟨rfl, rfl⟩
    have HK2 := Lib.hid (HK.out.setS (s.S + 1))
    obtain ⟨d0, d1, d2, d3, d4⟩ := HK2.out.at_
    have f2 := HK2.out.frozen
    dsimp only at d0 d1 d2 d3 d4
    have HB2 := Lib.hid ((Only.of_below (p := p) HB.out).set 2 (.int .i64 (s.S + 1)))
    clear c0 c1 c2 c3 c4 f HK HB h1 h2
    generalize w1.setCell ⟨p, 2, none⟩ (.int .i64 (s.S + 1)) = w2 at *
    rw [e2] at d3
    clear e2
    go_wp2
    go_ret
    exact ⟨rfl, HK2.out.setX _, HB2.out.set 3 _⟩
  rw [if_neg e2] at hr
  have t2 : (s.X == 2) = false := by simpa using e2
  by_cases e4 : s.X = 4
  · rw [if_pos e4] at hr; cases hr
    go_enter Try.func19, Try.ntmps19
    go_wp2_with fail
    refine HI.out.mono ?_
    rintro e w1 ⟨rfl, hk, hb⟩
    obtain ⟨c0, c1, c2, c3, c4⟩ := hk.at_
    have f := hk.frozen
    have HK := Lib.hid hk
    have HB := Lib.hid hb
    clear hk hb HI
    go_wp2_with fail
    refine (queue_ok w1 p 2 s.S c2 (f 2) h1 (by omega)).mono ?_
    rintro e w2 ⟨rfl, rfl⟩
    have HK2 := Lib.hid (HK.out.setS (s.S + 1))
    obtain ⟨d0, d1, d2, d3, d4⟩ := HK2.out.at_
    have f2 := HK2.out.frozen
    dsimp only at d0 d1 d2 d3 d4
    have HB2 := Lib.hid ((Only.of_below (p := p) HB.out).set 2 (.int .i64 (s.S + 1)))
    clear c0 c1 c2 c3 c4 f HK HB h1 h2
    generalize w1.setCell ⟨p, 2, none⟩ (.int .i64 (s.S + 1)) = w2 at *
    rw [e4] at d3
    clear e4 e2 t2
    go_wp2
    go_ret
    exact ⟨rfl, HK2.out.setX _, HB2.out.set 3 _⟩
  · rw [if_neg e4] at hr; cases hr
    have t4 : (s.X == 4) = false := by simpa using e4
    go_enter Try.func19, Try.ntmps19
    go_wp2_with fail
    refine HI.out.mono ?_
    rintro e w1 ⟨rfl, hk, hb⟩
    obtain ⟨c0, c1, c2, c3, c4⟩ := hk.at_
    have f := hk.frozen
    have HK := Lib.hid hk
    have HB := Lib.hid hb
    clear hk hb HI
    go_wp2_with fail
    refine (queue_ok w1 p 2 s.S c2 (f 2) h1 (by omega)).mono ?_
    rintro e w2 ⟨rfl, rfl⟩
    have HK2 := Lib.hid (HK.out.setS (s.S + 1))
    obtain ⟨d0, d1, d2, d3, d4⟩ := HK2.out.at_
    have f2 := HK2.out.frozen
    dsimp only at d0 d1 d2 d3 d4
    have HB2 := Lib.hid ((Only.of_below (p := p) HB.out).set 2 (.int .i64 (s.S + 1)))
    clear c0 c1 c2 c3 c4 f HK HB h1 h2
    generalize w1.setCell ⟨p, 2, none⟩ (.int .i64 (s.S + 1)) = w2 at *
    clear e4 e2
    go_wp2
    go_ret
    exact ⟨rfl, HK2.out, HB2.out⟩

/-- resumed: what is asked behind the count's turn -/
theorem resume_no (w : World) (p : Nat) (s : St) (h : Tk w 47 p s) (all : Bool) (e : ¬ (s.X = 8 ∨ s.X = 12)) :
    Calls Try.prog 20 #[.pointer (some ⟨p, 0, none⟩), .bool all] w fun e w' => e = .returned (.tuple #[.bool false, .int .i64 (-41)]) ∧ Tk w' 47 p s ∧ Only p w w' := by
  have HI := Lib.hid (is_two w p s h 8 12 false (by simpa using e))
  clear h e
  go_enter Try.func20, Try.ntmps20
  go_wp2_with fail
  refine HI.out.mono ?_
  rintro e w1 ⟨rfl, hk, hb⟩
  obtain ⟨c0, c1, c2, c3, c4⟩ := hk.at_
  have f := hk.frozen
  have HK := Lib.hid hk
  have HB := Lib.hid hb
  clear hk hb HI
  go_wp2
  go_ret2
  exact ⟨rfl, HK.out, Only.of_below HB.out⟩

set_option maxHeartbeats 800000 in
/-- not all of them -/
theorem resume_less (w : World) (p : Nat) (s : St) (h : Tk w 47 p s) (e : s.X = 8 ∨ s.X = 12) (h1 : 1 < s.S) (h7 : s.S ≤ 7) :
    Calls Try.prog 20 #[.pointer (some ⟨p, 0, none⟩), .bool false] w fun e w' => e = .returned (.tuple #[.bool false, .int .i64 0]) ∧ Tk w' 47 p { s with S := s.S - 1 } ∧ Only p w w' := by
  have HI := Lib.hid (is_two w p s h 8 12 true (by simpa using e))
  have n0 : decide (s.S - 1 = 0) = false := by simp; omega
  clear h e
  go_enter Try.func20, Try.ntmps20
  go_wp2_with fail
  refine HI.out.mono ?_
  rintro e w1 ⟨rfl, hk, hb⟩
  obtain ⟨c0, c1, c2, c3, c4⟩ := hk.at_
  have f := hk.frozen
  have HK := Lib.hid hk
  have HB := Lib.hid hb
  clear hk hb HI
  go_wp2
  go_ret2
  exact ⟨rfl, HK.out.setS _, (Only.of_below HB.out).set 2 _⟩

set_option maxHeartbeats 800000 in
theorem resume_susp_false (w : World) (p : Nat) (s : St) (h : Tk w 47 p s) (e : s.X = 8) (h1 : s.S = 1) :
    Calls Try.prog 20 #[.pointer (some ⟨p, 0, none⟩), .bool false] w fun e w' => e = .returned (.tuple #[.bool true, .int .i64 0]) ∧ Tk w' 47 p { s with S := 0, X := 2 } ∧ Only p w w' := by
  have HI := Lib.hid (is_two w p s h 8 12 true (by simp [e]))
  have HE := Lib.hid e
  have HS := Lib.hid h1
  clear h e
  go_enter Try.func20, Try.ntmps20
  go_wp2_with fail
  refine HI.out.mono ?_
  rintro e w1 ⟨rfl, hk, hb⟩
  obtain ⟨c0, c1, c2, c3, c4⟩ := hk.at_
  have f := hk.frozen
  have HK := Lib.hid hk
  have HB := Lib.hid hb
  clear hk hb HI
  rw [HS.out] at c2
  clear h1
  go_wp2_with fail
  refine (is_one' _ p { s with S := 0 } (HK.out.setS 0) 12 false (by simp [HE.out]) _ (by simp [World.setCell])).mono ?_
  rintro e w2 ⟨rfl, k2, b2⟩
  have o2 : Only p w w2 := ((Only.of_below HB.out).set 2 (.int .i64 0)).trans (Only.of_below b2)
  obtain ⟨d0, d1, d2, d3, d4⟩ := k2.at_
  have f2 := k2.frozen
  dsimp only at d0 d1 d2 d3 d4
  have HK2 := Lib.hid k2
  have HO2 := Lib.hid o2
  clear k2 b2 o2 c0 c1 c2 c3 c4 f
  go_wp2
  go_ret2
  exact ⟨rfl, HK2.out.setX _, HO2.out.set 3 _⟩

set_option maxHeartbeats 800000 in
theorem resume_susp_true (w : World) (p : Nat) (s : St) (h : Tk w 47 p s) (e : s.X = 8) (h1 : 1 ≤ s.S) (h7 : s.S ≤ 7) :
    Calls Try.prog 20 #[.pointer (some ⟨p, 0, none⟩), .bool true] w fun e w' => e = .returned (.tuple #[.bool true, .int .i64 0]) ∧ Tk w' 47 p { s with S := 0, X := 2 } ∧ Only p w w' := by
  have HI := Lib.hid (is_two w p s h 8 12 true (by simp [e]))
  have HE := Lib.hid e
  clear h e
  go_enter Try.func20, Try.ntmps20
  go_wp2_with fail
  refine HI.out.mono ?_
  rintro e w1 ⟨rfl, hk, hb⟩
  obtain ⟨c0, c1, c2, c3, c4⟩ := hk.at_
  have f := hk.frozen
  have HK := Lib.hid hk
  have HB := Lib.hid hb
  clear hk hb HI
  go_wp2_with fail
  refine (is_one' _ p { s with S := 0 } ((HK.out.setS (s.S - 1)).setS 0) 12 false (by simp [HE.out]) _ (by simp [World.setCell])).mono ?_
  rintro e w2 ⟨rfl, k2, b2⟩
  have o2 : Only p w w2 := (((Only.of_below HB.out).set 2 (.int .i64 (s.S - 1))).set 2 (.int .i64 0)).trans (Only.of_below b2)
  obtain ⟨d0, d1, d2, d3, d4⟩ := k2.at_
  have f2 := k2.frozen
  dsimp only at d0 d1 d2 d3 d4
  have HK2 := Lib.hid k2
  have HO2 := Lib.hid o2
  clear k2 b2 o2 c0 c1 c2 c3 c4 f
  go_wp2
  go_ret2
  exact ⟨rfl, HK2.out.setX _, HO2.out.set 3 _⟩

set_option maxHeartbeats 800000 in
theorem resume_wait_false (w : World) (p : Nat) (s : St) (h : Tk w 47 p s) (e : s.X = 12) (h1 : s.S = 1) :
    Calls Try.prog 20 #[.pointer (some ⟨p, 0, none⟩), .bool false] w fun e w' => e = .returned (.tuple #[.bool false, .int .i64 0]) ∧ Tk w' 47 p { s with S := 0, X := 4 } ∧ Only p w w' := by
  have HI := Lib.hid (is_two w p s h 8 12 true (by simp [e]))
  have HE := Lib.hid e
  have HS := Lib.hid h1
  clear h e
  go_enter Try.func20, Try.ntmps20
  go_wp2_with fail
  refine HI.out.mono ?_
  rintro e w1 ⟨rfl, hk, hb⟩
  obtain ⟨c0, c1, c2, c3, c4⟩ := hk.at_
  have f := hk.frozen
  have HK := Lib.hid hk
  have HB := Lib.hid hb
  clear hk hb HI
  rw [HS.out] at c2
  clear h1
  go_wp2_with fail
  refine (is_one' _ p { s with S := 0 } (HK.out.setS 0) 12 true (by simp [HE.out]) _ (by simp [World.setCell])).mono ?_
  rintro e w2 ⟨rfl, k2, b2⟩
  have o2 : Only p w w2 := ((Only.of_below HB.out).set 2 (.int .i64 0)).trans (Only.of_below b2)
  obtain ⟨d0, d1, d2, d3, d4⟩ := k2.at_
  have f2 := k2.frozen
  dsimp only at d0 d1 d2 d3 d4
  have HK2 := Lib.hid k2
  have HO2 := Lib.hid o2
  clear k2 b2 o2 c0 c1 c2 c3 c4 f
  go_wp2
  go_ret2
  exact ⟨rfl, HK2.out.setX _, HO2.out.set 3 _⟩

set_option maxHeartbeats 800000 in
theorem resume_wait_true (w : World) (p : Nat) (s : St) (h : Tk w 47 p s) (e : s.X = 12) (h1 : 1 ≤ s.S) (h7 : s.S ≤ 7) :
    Calls Try.prog 20 #[.pointer (some ⟨p, 0, none⟩), .bool true] w fun e w' => e = .returned (.tuple #[.bool false, .int .i64 0]) ∧ Tk w' 47 p { s with S := 0, X := 4 } ∧ Only p w w' := by
  have HI := Lib.hid (is_two w p s h 8 12 true (by simp [e]))
  have HE := Lib.hid e
  clear h e
  go_enter Try.func20, Try.ntmps20
  go_wp2_with fail
  refine HI.out.mono ?_
  rintro e w1 ⟨rfl, hk, hb⟩
  obtain ⟨c0, c1, c2, c3, c4⟩ := hk.at_
  have f := hk.frozen
  have HK := Lib.hid hk
  have HB := Lib.hid hb
  clear hk hb HI
  go_wp2_with fail
  refine (is_one' _ p { s with S := 0 } ((HK.out.setS (s.S - 1)).setS 0) 12 true (by simp [HE.out]) _ (by simp [World.setCell])).mono ?_
  rintro e w2 ⟨rfl, k2, b2⟩
  have o2 : Only p w w2 := (((Only.of_below HB.out).set 2 (.int .i64 (s.S - 1))).set 2 (.int .i64 0)).trans (Only.of_below b2)
  obtain ⟨d0, d1, d2, d3, d4⟩ := k2.at_
  have f2 := k2.frozen
  dsimp only at d0 d1 d2 d3 d4
  have HK2 := Lib.hid k2
  have HO2 := Lib.hid o2
  clear k2 b2 o2 c0 c1 c2 c3 c4 f
  go_wp2
  go_ret2
  exact ⟨rfl, HK2.out.setX _, HO2.out.set 3 _⟩

theorem resume_any (w : World) (p : Nat) (s : St) (h : Tk w 47 p s) (hg : Good s) (all : Bool) (s' : St) (r : Bool) (c : Int) (hr : resume s all = (s', r, c)) :
    Calls Try.prog 20 #[.pointer (some ⟨p, 0, none⟩), .bool all] w fun e w' => e = .returned (.tuple #[.bool r, .int .i64 c]) ∧ Tk w' 47 p s' ∧ Only p w w' := by
  obtain ⟨h0, h7⟩ := hg.2.2.1
  have hx := hg.2.2.2
  have h1 : s.X = 8 ∨ s.X = 12 → 1 ≤ s.S := by
    rintro (e | e) <;> rcases hx with hx | hx | hx | hx | hx <;> omega
  unfold resume at hr
  by_cases e : s.X = 8
  · rw [if_pos e] at hr
    by_cases c1 : all = true ∨ s.S = 1
    · rw [if_pos c1] at hr; cases hr
      cases all
      · exact resume_susp_false w p s h e (by simpa using c1)
      · exact resume_susp_true w p s h e (h1 (.inl e)) h7
    · rw [if_neg c1] at hr; cases hr
      obtain rfl : all = false := by cases all <;> simp_all
      have := h1 (.inl e)
      exact resume_less w p s h (.inl e) (by have : ¬ s.S = 1 := fun h => c1 (.inr h); omega) h7
  rw [if_neg e] at hr
  by_cases e2 : s.X = 12
  · rw [if_pos e2] at hr
    by_cases c1 : all = true ∨ s.S = 1
    · rw [if_pos c1] at hr; cases hr
      cases all
      · exact resume_wait_false w p s h e2 (by simpa using c1)
      · exact resume_wait_true w p s h e2 (h1 (.inr e2)) h7
    · rw [if_neg c1] at hr; cases hr
      obtain rfl : all = false := by cases all <;> simp_all
      have := h1 (.inr e2)
      exact resume_less w p s h (.inr e2) (by have : ¬ s.S = 1 := fun h => c1 (.inr h); omega) h7
  · rw [if_neg e2] at hr; cases hr
    exact resume_no w p s h all (fun h => h.elim e e2)
end Go.Proofs.Ytjiiopnlcohilaa
