/- Contracts of package bits: Has, After, First, Len. -/
import Derived.Test.YtfilggkdhcjpbaaDoorMem
import Derived.WalkSpells
import Derived.WalkLawsBesides
import Derived.OwnWalk
import Derived.Deep.QuietTactic
import Derived.BigQuiet
import Derived.StillTailTactics
namespace Go.Proofs.YtfilggkdhcjpbaaDoor
open Go.RowKit
variable {X : Nat → Int}

theorem ret_bool {a b : Bool} (h : a = b) : Ending.returned (.bool a) = .returned (.bool b) := by rw [h]
theorem call_sym {f : FuncId} {args : Array Value} {w : World} {v : Value} (h : Calls Tryd.prog f args w fun e w' => e = .returned v ∧ w = w') : Calls Tryd.prog f args w fun e w' => e = .returned v ∧ w' = w := h.mono fun _ _ ⟨a, b⟩ => ⟨a, b.symm⟩

set_option maxHeartbeats 400000 in
theorem has_no (p : Option Addr) (x : Int) (w : World) (hx : ¬ (1 ≤ x ∧ x ≤ 256)) :
    Calls Tryd.prog 31 #[.pointer p, .int .i64 x] w fun e w' => e = .returned (.bool false) ∧ ∃ n, w' = w.drewN n := by
  have hp := permitted_any x
  have e : decide (1 ≤ x ∧ x ≤ 256) = false := by simp only [hx, decide_false]
  clear hx
  have HE := Lib.hid e
  clear e
  go_enter Tryd.func31, Tryd.ntmps31
  go_wp2
  go_quiet ((go_at_call 40; exact Calls.quiet_of_same (call_sym (hp _ _ HE.out))))
  go_wp2
  go_ret
  exact ⟨rfl, nq, rfl⟩

set_option maxHeartbeats 400000 in
theorem has_yes (p : Nat) (f : Nat → Nat) (x : Int) (j k : Nat) (w : World) (hm : Wd w p X f) (h1 : 1 ≤ x) (h2 : x ≤ 256) (hj : (x - 1) / 64 = (j : Int)) (hk : (x - 1) % 64 = (k : Int)) (hf : f j < 18446744073709551616) :
    Calls Tryd.prog 31 #[.pointer (some ⟨p, 0, none⟩), .int .i64 x] w fun e w' => e = .returned (.bool (decide (f j &&& 2 ^ k ≠ 0))) ∧ ∃ n, w' = w.drewN n := by
  have hj4 : j < 4 := by omega
  have hji : (j : Int) < 4 := by omega
  have hk64 : k < 64 := by omega
  have hp64 := pow_lt64 k hk64
  have hc := hm.at_ hj4
  have HA := Lib.hid (bits_and_u64_nat (f j) (2 ^ k) hf hp64)
  have hp := permitted_any x
  have hw := fun w => word_any x h1 h2 w j hj
  have hma := fun w => mask_any x h1 h2 w k hk
  have e : decide (1 ≤ x ∧ x ≤ 256) = true := by simp only [h1, h2, and_self, decide_true]
  have HE := Lib.hid e
  clear e hk hj
  generalize 2 ^ k = m at *
  generalize f j = y at *
  go_enter Tryd.func31, Tryd.ntmps31
  go_wp2
  go_quiet (first | ((go_at_call 40; exact Calls.quiet_of_same (call_sym (hp _ _ HE.out)))) | ((go_at_call 41; exact Calls.quiet_of_same (call_sym (hw _)))) | ((go_at_call 42; exact Calls.quiet_of_same (call_sym (hma _)))))
  go_wp2
  go_ret
  refine ⟨ret_bool ?_, nq, rfl⟩
  rw [HA.out, Bool.eq_iff_iff]
  simp only [bne_iff_ne, ne_eq, decide_eq_true_eq]
  omega

/-- Has -/
theorem has_any (p : Nat) (B : Nat → Bool) (x : Int) (w : World) (hm : Mp w p X B) (r : Bool) (hr : has B x = r) :
    Calls Tryd.prog 31 #[.pointer (some ⟨p, 0, none⟩), .int .i64 x] w fun e w' => e = .returned (.bool r) ∧ ∃ n, w' = w.drewN n := by
  subst hr
  by_cases c : 1 ≤ x ∧ x ≤ 256
  · obtain ⟨_, f, hw, hr⟩ := hm
    have e := rep_has hr x.toNat (by omega) (by omega)
    rw [has_in c.1 c.2, ← e]
    exact has_yes p f x ((x.toNat - 1) / 64) ((x.toNat - 1) % 64) w hw c.1 c.2 (by omega) (by omega) (hr.lt _ (by omega))
  · rw [has_out c]
    exact has_no _ x w c

/-- what After tells -/
def tell (n : Nat) : Ending := .returned (.tuple #[.int .i64 (n : Int), .bool (decide (0 < n))])

theorem tell_mk {a : Int} {n : Nat} (h : a = (n : Int)) (h0 : 0 < n) : Ending.returned (.tuple #[.int .i64 a, .bool true]) = tell n := by
  subst h; simp [tell, h0]

set_option maxRecDepth 100000 in
set_option maxHeartbeats 800000 in
theorem after_from (p : Nat) (B : Nat → Bool) (x : Int) (a0 : Nat) (w : World) (hm : Mp w p X B) (hT : Tab w) (hx : (x < 0 ∧ a0 = 0) ∨ (0 ≤ x ∧ x = (a0 : Int))) :
    Calls Tryd.prog 35 #[.pointer (some ⟨p, 0, none⟩), .int .i64 x] w fun e w' => e = tell (nxt B a0) ∧ w = w' := by
  obtain ⟨_, f, hw, hr⟩ := hm
  have HR := Lib.hid hr
  have HT := Lib.hid hT
  clear hr hT
  rcases hx with ⟨hx, h0⟩ | ⟨hx, h0⟩
  all_goals
    have H0 := Lib.hid h0
    clear h0
    go_enter Tryd.func35, Tryd.ntmps35
    go_wp2
    go_loop [6] (fun v => ∃ n : Nat, v = .int .i64 (n : Int) ∧ nxt B n = nxt B a0) (fun v => 256 - (intOf v).toNat)
    case atStart => first | exact ⟨0, rfl, by rw [H0.out]⟩ | exact ⟨a0, by rw [H0.out], rfl⟩
    case round =>
      obtain ⟨n, rfl, hn⟩ := hrel
      have HN := Lib.hid hn
      clear hn
      by_cases hlt : n < 256
      · have hlt' : decide ((n : Int) < 256) = true := by simp; omega
        obtain ⟨j, hj⟩ : ∃ j, n / 64 = j := ⟨_, rfl⟩
        obtain ⟨k, hk⟩ : ∃ k, n % 64 = k := ⟨_, rfl⟩
        have ej : (n : Int) / 64 = (j : Int) := by omega
        have ek : (n : Int) % 64 = (k : Int) := by omega
        have hj4 : j < 4 := by omega
        have hj5 : (j : Int) < 4 := by omega
        have hk2 : (k : Int) ≤ 64 := by omega
        have hc := hw.at_ hj4
        have HJ := Lib.hid hj
        have HK := Lib.hid hk
        have HLT := Lib.hid hlt
        clear hj hk hlt
        obtain ⟨y, hy⟩ : ∃ y, f j / 2 ^ k = y := ⟨_, rfl⟩
        have ey : ((f j : Nat) : Int) / 2 ^ k = (y : Int) := by rw [← hy]; simp
        have HY := Lib.hid hy
        clear hy
        by_cases hy0 : y = 0
        · have t0 : ((y : Int) != 0) = false := by simp [hy0]
          have HZ := Lib.hid hy0
          clear hy0
          have ea : (n : Int) + (64 - (k : Int)) = ((n + (64 - n % 64) : Nat) : Int) := by omega
          have EA := Lib.hid ea
          have hn3 : n < 256 := HLT.out
          have hk3 : (k : Int) < 64 := by omega
          clear ea
          go_wp2
          go_round
          case rel =>
            refine ⟨n + (64 - n % 64), by rw [← EA.out], ?_⟩
            have h0 : f (n / 64) / 2 ^ (n % 64) = 0 := by rw [HJ.out, HK.out, HY.out, HZ.out]
            rw [← rest_zero HR.out n HLT.out h0]; exact HN.out
          case measure => simp [intOf]; omega
        · have t0 : ((y : Int) != 0) = true := by simp [hy0]
          have hs := rest_some HR.out n HLT.out (by rw [HJ.out, HK.out, HY.out]; exact hy0)
          rw [HJ.out, HK.out, HY.out] at hs
          have hyl : y < 18446744073709551616 := by
            rw [← HY.out]; exact Nat.lt_of_le_of_lt (Nat.div_le_self _ _) (HR.out.lt j hj4)
          have hc64 := hs.2
          have HS := Lib.hid hs.1
          have hn3 : n < 256 := HLT.out
          clear hs
          have HTZ := Lib.hid (tz_any y hyl hy0 w HT.out)
          clear hy0 hyl
          generalize Lib.ctz 64 y = c at *
          go_wp2_with fail
          refine HTZ.out.mono ?_
          rintro e w' ⟨rfl, rfl⟩
          go_wp2
          go_ret2
          refine ⟨?_, rfl⟩
          rw [← HN.out, HS.out]
          exact tell_mk (by omega) (by omega)
      · have hlt' : decide ((n : Int) < 256) = false := by simp; omega
        have he := nxt_end B n (by omega)
        rw [HN.out] at he
        have HE := Lib.hid he
        clear he
        go_wp2
        go_ret2
        refine ⟨?_, rfl⟩
        rw [HE.out]
        rfl

/-- After: for any number -/
theorem after_any (p : Nat) (B : Nat → Bool) (x : Int) (w : World) (hm : Mp w p X B) (hT : Tab w) (r : Nat) (hr : nxt B x.toNat = r) :
    Calls Tryd.prog 35 #[.pointer (some ⟨p, 0, none⟩), .int .i64 x] w fun e w' => e = tell r ∧ w = w' := by
  subst hr
  by_cases c : 0 ≤ x
  · exact after_from p B x x.toNat w hm hT (.inr ⟨c, by omega⟩)
  · exact after_from p B x x.toNat w hm hT (.inl ⟨by omega, by omega⟩)

theorem first_any (p : Nat) (B : Nat → Bool) (w : World) (hm : Mp w p X B) (hT : Tab w) (r : Nat) (hr : nxt B 0 = r) :
    Calls Tryd.prog 34 #[.pointer (some ⟨p, 0, none⟩)] w fun e w' => e = tell r ∧ w = w' := by
  have HC := Lib.hid (after_any p B 0 w hm hT r hr)
  clear hr
  unfold tell at HC ⊢
  go_enter Tryd.func34, Tryd.ntmps34
  go_wp2_with fail
  refine HC.out.mono ?_
  rintro e w' ⟨rfl, rfl⟩
  go_wp2
  go_ret2
  exact ⟨rfl, rfl⟩

end Go.Proofs.YtfilggkdhcjpbaaDoor
