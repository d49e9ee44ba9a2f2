/- Contracts of the document's task: over, and its methods: they end in the same states. -/
import Derived.Test.YtjiiopnlcohilaaConB
namespace Go.Proofs.Ytjiiopnlcohilaa
open Go.RowKit

theorem rover_any (w : World) (p : Nat) (s : St) (h : Tk w 56 p s) (hg : Good s) (s' : St) (r : Bool) (hs : over s = s') (hr : decide (0 < s.A) = r) :
    Calls Try.prog 45 #[.pointer (some ⟨p, 0, none⟩)] w fun e w' => e = .returned (.bool r) ∧ Tk w' 56 p s' ∧ Only p w w' := by
  obtain ⟨c0, c1, c2, c3, c4⟩ := h.at_
  have f := h.frozen
  obtain ⟨h1, h2⟩ := hg.1
  have H := Lib.hid h
  clear h hg
  by_cases e : s.A = 0
  · have ho : over s = ⟨s.A, 0, 0, 16, false⟩ := if_pos (by omega)
    obtain rfl : r = false := by rw [← hr]; simp; omega
    rw [ho] at hs
    subst hs
    rw [e] at c0
    clear ho hr h1 h2 e
    go_enter Try.func45, Try.ntmps45
    go_wp2
    go_ret
    exact ⟨rfl, (((H.out.setX 16).setz false).setW 0).setS 0, ((((Only.refl p w).set 3 _).set 4 _).set 1 _).set 2 _⟩
  · have ho : over s = ⟨s.A - 1, 0, 0, 2, false⟩ := if_neg (by omega)
    obtain rfl : r = true := by rw [← hr]; simp; omega
    rw [ho] at hs
    subst hs
    have e2 : decide (s.A = 0) = false := by simpa using e
    have e3 : (s.A == 0) = false := by simpa using e
    clear ho hr
    go_enter Try.func45, Try.ntmps45
    go_wp2
    go_ret
    exact ⟨rfl, ((((((H.out.setX 16).setz false).setW 0).setS 0)).setA (s.A - 1)).setX 2, ((((((Only.refl p w).set 3 _).set 4 _).set 1 _).set 2 _).set 0 _).set 3 _⟩

set_option maxHeartbeats 400000 in
theorem ract_any (w : World) (p : Nat) (s : St) (h : Tk w 56 p s) (hg : Good s) (s' : St) (r : Bool) (c : Int) (hr : act s = (s', r, c)) :
    Calls Try.prog 30 #[.pointer (some ⟨p, 0, none⟩)] w fun e w' => e = .returned (.tuple #[.bool r, .int .i64 c]) ∧ Tk w' 56 p s' ∧ Only p w w' := by
  obtain ⟨c0, c1, c2, c3, c4⟩ := h.at_
  have f := h.frozen
  have HK := Lib.hid h
  obtain ⟨h1, h2⟩ := hg.1
  unfold act at hr
  clear hg h
  by_cases e : s.X = 16
  · rw [if_pos e] at hr; cases hr
    rw [e] at c3
    clear e
    go_enter Try.func30, Try.ntmps30
    go_wp2
    go_ret2
    exact ⟨rfl, HK.out.setX 2, (Only.refl p w).set 3 _⟩
  · rw [if_neg e] at hr
    have t : decide (s.X = 16) = false := by simpa using e
    have t' : (s.X == 16) = false := by simpa using e
    by_cases e7 : 7 ≤ s.A
    · rw [if_pos e7] at hr; cases hr
      go_enter Try.func30, Try.ntmps30
      go_wp2
      go_ret2
      exact ⟨rfl, HK.out, Only.refl p w⟩
    · rw [if_neg e7] at hr; cases hr
      have e8 : decide (7 ≤ s.A) = false := by simp; omega
      go_enter Try.func30, Try.ntmps30
      go_wp2
      go_ret2
      exact ⟨rfl, HK.out.setA _, (Only.refl p w).set 0 _⟩

set_option maxHeartbeats 400000 in
theorem rcanAct_any (w : World) (p : Nat) (s : St) (h : Tk w 56 p s) (s' : St) (c : Int) (hs : canAct s = s') (hr : s.A = c) :
    Calls Try.prog 31 #[.pointer (some ⟨p, 0, none⟩)] w fun e w' => e = .returned (.int .i64 c) ∧ Tk w' 56 p s' ∧ Only p w w' := by
  obtain ⟨c0, c1, c2, c3, c4⟩ := h.at_
  have f := h.frozen
  have HK := Lib.hid h
  subst hs hr
  clear h
  go_enter Try.func31, Try.ntmps31
  go_wp2
  go_ret
  exact ⟨rfl, HK.out.setA 0, (Only.refl p w).set 0 _⟩

set_option maxHeartbeats 400000 in
theorem rcanWake_any (w : World) (p : Nat) (s : St) (h : Tk w 56 p s) (s' : St) (r c : Int) (hr : canWake s = (s', r, c)) :
    Calls Try.prog 37 #[.pointer (some ⟨p, 0, none⟩)] w fun e w' => e = .returned (.tuple #[.int .i64 r, .int .i64 c]) ∧ Tk w' 56 p s' ∧ Only p w w' := by
  obtain ⟨c0, c1, c2, c3, c4⟩ := h.at_
  have f := h.frozen
  have HK := Lib.hid h
  unfold canWake at hr
  clear h
  by_cases e : s.X = 16
  · rw [if_pos e] at hr; cases hr
    rw [e] at c3
    clear e
    go_enter Try.func37, Try.ntmps37
    go_wp2
    go_ret2
    exact ⟨rfl, HK.out, Only.refl p w⟩
  · rw [if_neg e] at hr; cases hr
    have t : decide (s.X = 16) = false := by simpa using e
    have t' : (s.X == 16) = false := by simpa using e
    go_enter Try.func37, Try.ntmps37
    go_wp2
    go_ret2
    exact ⟨rfl, HK.out.setW 0, (Only.refl p w).set 1 _⟩

set_option maxHeartbeats 400000 in
theorem rend_any (w : World) (p : Nat) (s : St) (h : Tk w 56 p s) (hg : Good s) (s' : St) (r : Bool) (hr : endS s = (s', r)) :
    Calls Try.prog 32 #[.pointer (some ⟨p, 0, none⟩)] w fun e w' => e = .returned (.bool r) ∧ Tk w' 56 p s' ∧ Only p w w' := by
  obtain ⟨c0, c1, c2, c3, c4⟩ := h.at_
  have f := h.frozen
  have HK := Lib.hid h
  unfold endS at hr
  have HF := Lib.hid (rover_any w p s h hg _ _ rfl rfl)
  clear hg h
  by_cases e : s.X = 2
  · rw [if_pos e] at hr; cases hr
    rw [e] at c3
    clear e
    go_enter Try.func32, Try.ntmps32
    go_wp2_with fail
    refine HF.out.mono ?_
    rintro e w2 ⟨rfl, k2, o2⟩
    go_wp2
    go_ret
    exact ⟨rfl, k2, o2⟩
  · rw [if_neg e] at hr; cases hr
    have t : decide (s.X = 2) = false := by simpa using e
    have t' : (s.X == 2) = false := by simpa using e
    go_enter Try.func32, Try.ntmps32
    go_wp2
    go_ret
    exact ⟨rfl, HK.out, Only.refl p w⟩

set_option maxHeartbeats 400000 in
theorem rkill_any (w : World) (p : Nat) (s : St) (h : Tk w 56 p s) (hg : Good s) (s' : St) (r : Bool) (c : Int) (hr : kill s = (s', r, c)) :
    Calls Try.prog 33 #[.pointer (some ⟨p, 0, none⟩)] w fun e w' => e = .returned (.tuple #[.bool r, .int .i64 c]) ∧ Tk w' 56 p s' ∧ Only p w w' := by
  obtain ⟨c0, c1, c2, c3, c4⟩ := h.at_
  have f := h.frozen
  have HK := Lib.hid h
  unfold kill at hr
  have HF := Lib.hid (rover_any w p s h hg _ _ rfl rfl)
  clear hg h
  by_cases e : s.X = 16
  · rw [if_pos e] at hr; cases hr
    rw [e] at c3
    clear e
    go_enter Try.func33, Try.ntmps33
    go_wp2
    go_ret2
    exact ⟨rfl, HK.out, Only.refl p w⟩
  · rw [if_neg e] at hr; cases hr
    have t : decide (s.X = 16) = false := by simpa using e
    have t' : (s.X == 16) = false := by simpa using e
    go_enter Try.func33, Try.ntmps33
    go_wp2_with fail
    refine HF.out.mono ?_
    rintro e w2 ⟨rfl, k2, o2⟩
    go_wp2
    go_ret2
    exact ⟨rfl, k2, o2⟩

set_option maxHeartbeats 400000 in
theorem rsleep_any (w : World) (p : Nat) (s : St) (h : Tk w 56 p s) (hg : Good s) (s' : St) (r : Bool) (c : Int) (hr : sleep s = (s', r, c)) :
    Calls Try.prog 34 #[.pointer (some ⟨p, 0, none⟩)] w fun e w' => e = .returned (.tuple #[.bool r, .int .i64 c]) ∧ Tk w' 56 p s' ∧ Only p w w' := by
  obtain ⟨c0, c1, c2, c3, c4⟩ := h.at_
  have f := h.frozen
  have HK := Lib.hid h
  obtain ⟨h1, h2⟩ := hg.2.1
  unfold sleep at hr
  clear hg h
  by_cases e : s.X = 2
  · rw [if_pos e] at hr
    rw [e] at c3
    clear e
    by_cases e : 0 < s.W
    · rw [if_pos e] at hr; cases hr
      go_enter Try.func34, Try.ntmps34
      go_wp2
      go_ret2
      exact ⟨rfl, HK.out.setW _, (Only.refl p w).set 1 _⟩
    · rw [if_neg e] at hr; cases hr
      have e1 : decide (0 < s.W) = false := by simp; omega
      go_enter Try.func34, Try.ntmps34
      go_wp2
      go_ret2
      exact ⟨rfl, (HK.out.setX _).setz _, ((Only.refl p w).set 3 _).set 4 _⟩
  · rw [if_neg e] at hr; cases hr
    have t : decide (s.X = 2) = false := by simpa using e
    have t' : (s.X == 2) = false := by simpa using e
    go_enter Try.func34, Try.ntmps34
    go_wp2
    go_ret2
    exact ⟨rfl, HK.out, Only.refl p w⟩

set_option maxHeartbeats 400000 in
theorem rstay_any (w : World) (p : Nat) (s : St) (h : Tk w 56 p s) (hg : Good s) (s' : St) (c : Int) (hr : stay s = (s', c)) :
    Calls Try.prog 35 #[.pointer (some ⟨p, 0, none⟩)] w fun e w' => e = .returned (.int .i64 c) ∧ Tk w' 56 p s' ∧ Only p w w' := by
  obtain ⟨c0, c1, c2, c3, c4⟩ := h.at_
  have f := h.frozen
  have HK := Lib.hid h
  unfold stay at hr
  clear h
  by_cases e : s.X = 2
  · rw [if_pos e] at hr
    have hz : s.z = false := by
      rcases hg.2.2.2 with h | h | h | h | h
      · exact h.2.2
      all_goals (exfalso; have := h.1; omega)
    cases hr
    rw [e] at c3
    clear e hg
    have HE := Lib.hid (show ({ s with X := 4, z := false } : St) = { s with X := 4 } by rw [← hz])
    rw [HE.out]
    clear hz
    go_enter Try.func35, Try.ntmps35
    go_wp2
    go_ret
    exact ⟨rfl, HK.out.setX _, (Only.refl p w).set 3 _⟩
  · rw [if_neg e] at hr; cases hr
    clear hg
    have t : decide (s.X = 2) = false := by simpa using e
    have t' : (s.X == 2) = false := by simpa using e
    go_enter Try.func35, Try.ntmps35
    go_wp2
    go_ret
    exact ⟨rfl, HK.out, Only.refl p w⟩

set_option maxHeartbeats 400000 in
theorem rrelease_any (w : World) (p : Nat) (s : St) (h : Tk w 56 p s) (s' : St) (r : Bool) (hr : release s = (s', r)) :
    Calls Try.prog 38 #[.pointer (some ⟨p, 0, none⟩)] w fun e w' => e = .returned (.bool r) ∧ Tk w' 56 p s' ∧ Only p w w' := by
  obtain ⟨c0, c1, c2, c3, c4⟩ := h.at_
  have f := h.frozen
  have HK := Lib.hid h
  unfold release at hr
  clear h
  by_cases e : s.X = 4
  · rw [if_pos e] at hr; cases hr
    rw [e] at c3
    clear e
    go_enter Try.func38, Try.ntmps38
    go_wp2
    go_ret
    exact ⟨rfl, (HK.out.setX _).setz _, ((Only.refl p w).set 3 _).set 4 _⟩
  · rw [if_neg e] at hr
    by_cases e2 : s.X = 12
    · rw [if_pos e2] at hr; cases hr
      rw [e2] at c3
      clear e e2
      go_enter Try.func38, Try.ntmps38
      go_wp2
      go_ret
      exact ⟨rfl, (HK.out.setX _).setz _, ((Only.refl p w).set 3 _).set 4 _⟩
    · rw [if_neg e2] at hr; cases hr
      have t : decide (s.X = 4) = false := by simpa using e
      have t' : (s.X == 4) = false := by simpa using e
      have t2 : decide (s.X = 12) = false := by simpa using e2
      have t2' : (s.X == 12) = false := by simpa using e2
      go_enter Try.func38, Try.ntmps38
      go_wp2
      go_ret
      exact ⟨rfl, HK.out, Only.refl p w⟩

set_option maxHeartbeats 400000 in
theorem rwake_any (w : World) (p : Nat) (s : St) (h : Tk w 56 p s) (hg : Good s) (s' : St) (r : Bool) (c : Int) (hr : wake s = (s', r, c)) :
    Calls Try.prog 36 #[.pointer (some ⟨p, 0, none⟩)] w fun e w' => e = .returned (.tuple #[.bool r, .int .i64 c]) ∧ Tk w' 56 p s' ∧ Only p w w' := by
  obtain ⟨c0, c1, c2, c3, c4⟩ := h.at_
  have f := h.frozen
  have HK := Lib.hid h
  obtain ⟨h1, h2⟩ := hg.2.1
  unfold wake at hr
  clear hg
  by_cases e : s.X = 16
  · rw [if_pos e] at hr; cases hr
    rw [e] at c3
    clear e h
    go_enter Try.func36, Try.ntmps36
    go_wp2
    go_ret2
    exact ⟨rfl, HK.out, Only.refl p w⟩
  · rw [if_neg e] at hr
    have t : decide (s.X = 16) = false := by simpa using e
    have t' : (s.X == 16) = false := by simpa using e
    by_cases ez : s.z = true
    · rw [if_pos ez] at hr
      obtain ⟨s2, r2, hrel⟩ : ∃ a b, release s = (a, b) := ⟨_, _, rfl⟩
      rw [hrel] at hr; cases hr
      have HR := Lib.hid (rrelease_any w p s h _ _ hrel)
      clear hrel h
      rw [ez] at c4
      clear ez
      go_enter Try.func36, Try.ntmps36
      go_wp2_with fail
      refine HR.out.mono ?_
      rintro e w2 ⟨rfl, k2, o2⟩
      have HK2 := Lib.hid k2
      clear k2
      go_wp2
      go_ret2
      exact ⟨rfl, HK2.out, o2⟩
    · rw [if_neg ez] at hr
      have ez2 : s.z = false := by simpa using ez
      rw [ez2] at c4
      clear h ez ez2
      by_cases e7 : 7 ≤ s.W
      · rw [if_pos e7] at hr; cases hr
        go_enter Try.func36, Try.ntmps36
        go_wp2
        go_ret2
        exact ⟨rfl, HK.out, Only.refl p w⟩
      · rw [if_neg e7] at hr; cases hr
        have e8 : decide (7 ≤ s.W) = false := by simp; omega
        go_enter Try.func36, Try.ntmps36
        go_wp2
        go_ret2
        exact ⟨rfl, HK.out.setW _, (Only.refl p w).set 1 _⟩

set_option maxHeartbeats 400000 in
theorem rsuspend_any (w : World) (p : Nat) (s : St) (h : Tk w 56 p s) (hg : Good s) (s' : St) (c : Int) (hr : suspend s = (s', c)) :
    Calls Try.prog 39 #[.pointer (some ⟨p, 0, none⟩)] w fun e w' => e = .returned (.int .i64 c) ∧ Tk w' 56 p s' ∧ Only p w w' := by
  obtain ⟨c0, c1, c2, c3, c4⟩ := h.at_
  have f := h.frozen
  have HK := Lib.hid h
  obtain ⟨h1, h2⟩ := hg.2.2.1
  unfold suspend at hr
  clear hg h
  by_cases e : s.X = 16
  · rw [if_pos e] at hr; cases hr
    rw [e] at c3
    clear e
    go_enter Try.func39, Try.ntmps39
    go_wp2
    go_ret
    exact ⟨rfl, HK.out, Only.refl p w⟩
  rw [if_neg e] at hr
  have t : decide (s.X = 16) = false := by simpa using e
  have t' : (s.X == 16) = false := by simpa using e
  by_cases e7 : 7 ≤ s.S
  · rw [if_pos e7] at hr; cases hr
    go_enter Try.func39, Try.ntmps39
    go_wp2
    go_ret
    exact ⟨rfl, HK.out, Only.refl p w⟩
  rw [if_neg e7] at hr
  have e8 : decide (7 ≤ s.S) = false := by simp; omega
  by_cases e2 : s.X = 2
  · rw [if_pos e2] at hr; cases hr
    rw [e2] at c3
    clear e2 e t t'
    go_enter Try.func39, Try.ntmps39
    go_wp2
    go_ret
    exact ⟨rfl, (HK.out.setS _).setX _, ((Only.refl p w).set 2 _).set 3 _⟩
  rw [if_neg e2] at hr
  have t2 : decide (s.X = 2) = false := by simpa using e2
  have t2' : (s.X == 2) = false := by simpa using e2
  by_cases e4 : s.X = 4
  · rw [if_pos e4] at hr; cases hr
    rw [e4] at c3
    clear e2 e e4 t t' t2 t2'
    go_enter Try.func39, Try.ntmps39
    go_wp2
    go_ret
    exact ⟨rfl, (HK.out.setS _).setX _, ((Only.refl p w).set 2 _).set 3 _⟩
  · rw [if_neg e4] at hr; cases hr
    have t4 : decide (s.X = 4) = false := by simpa using e4
    have t4' : (s.X == 4) = false := by simpa using e4
    go_enter Try.func39, Try.ntmps39
    go_wp2
    go_ret
    exact ⟨rfl, HK.out.setS _, (Only.refl p w).set 2 _⟩

set_option maxHeartbeats 400000 in
theorem rresume_any (w : World) (p : Nat) (s : St) (h : Tk w 56 p s) (hg : Good s) (all : Bool) (s' : St) (r : Bool) (c : Int) (hr : resume s all = (s', r, c)) :
    Calls Try.prog 40 #[.pointer (some ⟨p, 0, none⟩), .bool all] w fun e w' => e = .returned (.tuple #[.bool r, .int .i64 c]) ∧ Tk w' 56 p s' ∧ Only p w w' := by
  obtain ⟨c0, c1, c2, c3, c4⟩ := h.at_
  have f := h.frozen
  have HK := Lib.hid h
  obtain ⟨h0, h7⟩ := hg.2.2.1
  have hx := hg.2.2.2
  have hs1 : s.X = 8 ∨ s.X = 12 → 1 ≤ s.S := by
    rintro (e | e) <;> rcases hx with hx | hx | hx | hx | hx <;> omega
  unfold resume at hr
  clear hg h hx
  by_cases e : s.X = 8
  · rw [if_pos e] at hr
    have h1 := hs1 (.inl e)
    rw [e] at c3
    clear e hs1
    cases all
    · by_cases c1 : s.S = 1
      · rw [if_pos (.inr c1)] at hr; cases hr
        rw [c1] at c2
        clear c1 h0 h1 h7
        go_enter Try.func40, Try.ntmps40
        go_wp2
        go_ret2
        exact ⟨rfl, (HK.out.setS _).setX _, ((Only.refl p w).set 2 _).set 3 _⟩
      · rw [if_neg (by simp [c1])] at hr; cases hr
        have g : 0 < s.S - 1 := by omega
        go_enter Try.func40, Try.ntmps40
        go_wp2
        go_ret2
        exact ⟨rfl, HK.out.setS _, (Only.refl p w).set 2 _⟩
    · rw [if_pos (.inl rfl)] at hr; cases hr
      go_enter Try.func40, Try.ntmps40
      go_wp2
      go_ret2
      exact ⟨rfl, ((HK.out.setS _).setS 0).setX _, (((Only.refl p w).set 2 _).set 2 _).set 3 _⟩
  rw [if_neg e] at hr
  have t : decide (s.X = 8) = false := by simpa using e
  have t' : (s.X == 8) = false := by simpa using e
  by_cases e2 : s.X = 12
  · rw [if_pos e2] at hr
    have h1 := hs1 (.inr e2)
    rw [e2] at c3
    clear e2 hs1 e t t'
    cases all
    · by_cases c1 : s.S = 1
      · rw [if_pos (.inr c1)] at hr; cases hr
        rw [c1] at c2
        clear c1 h0 h1 h7
        go_enter Try.func40, Try.ntmps40
        go_wp2
        go_ret2
        exact ⟨rfl, (HK.out.setS _).setX _, ((Only.refl p w).set 2 _).set 3 _⟩
      · rw [if_neg (by simp [c1])] at hr; cases hr
        have g : 0 < s.S - 1 := by omega
        go_enter Try.func40, Try.ntmps40
        go_wp2
        go_ret2
        exact ⟨rfl, HK.out.setS _, (Only.refl p w).set 2 _⟩
    · rw [if_pos (.inl rfl)] at hr; cases hr
      go_enter Try.func40, Try.ntmps40
      go_wp2
      go_ret2
      exact ⟨rfl, ((HK.out.setS _).setS 0).setX _, (((Only.refl p w).set 2 _).set 2 _).set 3 _⟩
  · rw [if_neg e2] at hr; cases hr
    clear hs1
    have n1 : (s.X != 8) = true := by simpa using e
    have n2 : (s.X != 12) = true := by simpa using e2
    go_enter Try.func40, Try.ntmps40
    go_wp2
    go_ret2
    exact ⟨rfl, HK.out, Only.refl p w⟩
end Go.Proofs.Ytjiiopnlcohilaa
