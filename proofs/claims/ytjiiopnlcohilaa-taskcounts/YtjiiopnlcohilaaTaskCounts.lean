/-
  PROVED: the Go function detentlaw10.TaskCounts returns true for every input, and each argument reads behind the call as it read before (Rows.TaskCountsSaid). No condition.
-/
import Derived.Test.YtjiiopnlcohilaaRows
import Derived.Test.YtjiiopnlcohilaaConF
import Derived.WalkKit
import Derived.ProofKit
import Derived.OpenShut
import Derived.ShutString
import Derived.ChangeOld
import Derived.Below
namespace Go.Proofs.Ytjiiopnlcohilaa.taskCounts
open Go.ChangeShapes Go.WideShapes Go.ChangeAt Go.RowKit
open Go.ChangeMaps (open_string shut_string)
set_option linter.unusedVariables false      -- a walk need not use every 'w<i>' (that an integer argument fits its kind)

theorem own : ownKnob Try.prog.godebug = none := by kernel_rfl

set_option maxRecDepth 100000 in
theorem walkOut (a0 a1 a2 : Int) (w : World) (h : (a0 < 0 ∨ a1 < 0 ∨ a2 < 0 ∨ 20 < a0 ∨ 20 < a1 ∨ 20 < a2)) :
    Calls Try.prog 4 #[.int .i64 a0, .int .i64 a1, .int .i64 a2] w fun e w' => e = .returned (.bool true) ∧ Below w.heap.size w w' := by
  by_cases h0 : a0 < 0
  · clear h
    go_enter Try.func4, Try.ntmps4
    go_wp2_with fail
    refine (known_any w).mono ?_
    rintro e w1 ⟨rfl, hb⟩
    go_wp2
    go_ret
    exact ⟨rfl, hb⟩
  by_cases h1 : a1 < 0
  · have e0 : decide (a0 < 0) = false := by simp; omega
    clear h
    go_enter Try.func4, Try.ntmps4
    go_wp2_with fail
    refine (known_any w).mono ?_
    rintro e w1 ⟨rfl, hb⟩
    go_wp2
    go_ret
    exact ⟨rfl, hb⟩
  by_cases h2 : a2 < 0
  · have e0 : decide (a0 < 0) = false := by simp; omega
    have e1 : decide (a1 < 0) = false := by simp; omega
    clear h
    go_enter Try.func4, Try.ntmps4
    go_wp2_with fail
    refine (known_any w).mono ?_
    rintro e w1 ⟨rfl, hb⟩
    go_wp2
    go_ret
    exact ⟨rfl, hb⟩
  by_cases h3 : 20 < a0
  · have e0 : decide (a0 < 0) = false := by simp; omega
    have e1 : decide (a1 < 0) = false := by simp; omega
    have e2 : decide (a2 < 0) = false := by simp; omega
    clear h
    go_enter Try.func4, Try.ntmps4
    go_wp2_with fail
    refine (known_any w).mono ?_
    rintro e w1 ⟨rfl, hb⟩
    go_wp2
    go_ret
    exact ⟨rfl, hb⟩
  by_cases h4 : 20 < a1
  · have e0 : decide (a0 < 0) = false := by simp; omega
    have e1 : decide (a1 < 0) = false := by simp; omega
    have e2 : decide (a2 < 0) = false := by simp; omega
    have e3 : decide (20 < a0) = false := by simp; omega
    clear h
    go_enter Try.func4, Try.ntmps4
    go_wp2_with fail
    refine (known_any w).mono ?_
    rintro e w1 ⟨rfl, hb⟩
    go_wp2
    go_ret
    exact ⟨rfl, hb⟩
  · have h5 : 20 < a2 := by omega
    have e0 : decide (a0 < 0) = false := by simp; omega
    have e1 : decide (a1 < 0) = false := by simp; omega
    have e2 : decide (a2 < 0) = false := by simp; omega
    have e3 : decide (20 < a0) = false := by simp; omega
    have e4 : decide (20 < a1) = false := by simp; omega
    clear h
    go_enter Try.func4, Try.ntmps4
    go_wp2_with fail
    refine (known_any w).mono ?_
    rintro e w1 ⟨rfl, hb⟩
    go_wp2
    go_ret
    exact ⟨rfl, hb⟩

theorem act_cap (k : Int) (h0 : 0 ≤ k) : act ⟨min k 7, 0, 0, 2, false⟩ = (⟨min (k + 1) 7, 0, 0, 2, false⟩, false, if k < 7 then 0 else -43) := by
  unfold act
  dsimp only
  rw [if_neg (by decide)]
  by_cases h : k < 7
  · have e1 : min k 7 = k := by omega
    have e2 : min (k + 1) 7 = k + 1 := by omega
    rw [if_pos h, e1, e2, if_neg (by omega)]
  · have e1 : min k 7 = 7 := by omega
    have e2 : min (k + 1) 7 = 7 := by omega
    rw [if_neg h, e1, e2, if_pos (by omega)]
theorem wake_cap (A k : Int) (h0 : 0 ≤ k) : wake ⟨A, min k 7, 0, 2, false⟩ = (⟨A, min (k + 1) 7, 0, 2, false⟩, false, if k < 7 then 0 else -43) := by
  unfold wake
  dsimp only
  rw [if_neg (by decide), if_neg (by decide)]
  by_cases h : k < 7
  · have e1 : min k 7 = k := by omega
    have e2 : min (k + 1) 7 = k + 1 := by omega
    rw [if_pos h, e1, e2, if_neg (by omega)]
  · have e1 : min k 7 = 7 := by omega
    have e2 : min (k + 1) 7 = 7 := by omega
    rw [if_neg h, e1, e2, if_pos (by omega)]
theorem sleep_one (A k : Int) (h0 : 0 < k) (k' : Int) (hk : k - 1 = k') : sleep ⟨A, k, 0, 2, false⟩ = (⟨A, k', 0, 2, false⟩, false, 0) := by
  subst hk
  unfold sleep
  dsimp only
  rw [if_pos rfl, if_pos h0]
/-- suspended j times -/
def sus (A j : Int) : St := if j ≤ 0 then ⟨A, 0, 0, 2, false⟩ else ⟨A, 0, j, 8, false⟩
theorem susp_cap (A k : Int) (h0 : 0 ≤ k) : suspend (sus A (min k 7)) = (sus A (min (k + 1) 7), if k < 7 then 0 else -43) := by
  by_cases h : k < 7
  · have e1 : min k 7 = k := by omega
    have e2 : min (k + 1) 7 = k + 1 := by omega
    rw [if_pos h, e1, e2]
    unfold sus
    rw [if_neg (show ¬ k + 1 ≤ 0 by omega)]
    by_cases hk : k ≤ 0
    · rw [if_pos hk]
      have : k = 0 := by omega
      subst this
      rfl
    · rw [if_neg hk]
      unfold suspend
      dsimp only
      rw [if_neg (by decide), if_neg (by omega), if_neg (by decide), if_neg (by decide)]
  · have e1 : min k 7 = 7 := by omega
    have e2 : min (k + 1) 7 = 7 := by omega
    rw [if_neg h, e1, e2]
    rfl
theorem resume_sus (A j : Int) (h0 : 0 < j) (j' : Int) (hj : j - 1 = j') : resume (sus A j) false = (sus A j', decide (j' = 0), 0) := by
  subst hj
  unfold sus
  rw [if_neg (by omega)]
  unfold resume
  dsimp only
  rw [if_pos rfl]
  by_cases h : j = 1
  · subst h
    rw [if_pos (.inr rfl)]; rfl
  · rw [if_neg (by simp [h]), if_neg (by omega)]
    have : decide (j - 1 = 0) = false := by simp; omega
    rw [this]
theorem kill_any7 (A : Int) (h0 : 0 ≤ A) : kill ⟨A, 0, 0, 4, true⟩ = (if A ≤ 0 then ⟨A, 0, 0, 16, false⟩ else ⟨A - 1, 0, 0, 2, false⟩, decide (0 < A), 0) := by
  unfold kill over
  dsimp only
  rw [if_neg (by decide)]

set_option maxRecDepth 100000 in
set_option maxHeartbeats 6400000 in
theorem walkIn (P Q R : Nat) (hP : P ≤ 20) (hQ : Q ≤ 20) (hR : R ≤ 20) (w : World) :
    Calls Try.prog 4 #[.int .i64 (P : Int), .int .i64 (Q : Int), .int .i64 (R : Int)] w fun e w' => e = .returned (.bool true) ∧ Below w.heap.size w w' := by
  have sP : decide ((P : Int) < 0) = false := by simp
  have tP : decide ((20 : Int) < (P : Int)) = false := by simp; omega
  have tP' : decide (20 < P) = false := by simp; omega
  have sQ : decide ((Q : Int) < 0) = false := by simp
  have tQ : decide ((20 : Int) < (Q : Int)) = false := by simp; omega
  have tQ' : decide (20 < Q) = false := by simp; omega
  have sR : decide ((R : Int) < 0) = false := by simp
  have tR : decide ((20 : Int) < (R : Int)) = false := by simp; omega
  have tR' : decide (20 < R) = false := by simp; omega
  go_enter Try.func4, Try.ntmps4
  go_wp2_with fail
  refine (known_any w).mono ?_
  rintro e w1 ⟨rfl, hb⟩
  have H0 := Lib.hid hb
  clear hb
  go_wp2_with fail
  refine (new_at w w1 H0.out).mono ?_
  rintro e w2 ⟨p, rfl, h2⟩
  have H2 := Lib.hid h2
  clear h2 H0
  go_wp2_with fail
  refine (act_at H2.out ⟨min ((0 : Nat) : Int) 7, 0, 0, 2, false⟩ true 0 rfl).mono ?_
  rintro e w3 ⟨rfl, h3⟩
  have H3 := Lib.hid h3
  clear h3 H2
  go_wp2
  go_loopw [8] (fun i wr => ∃ t : Nat, t ≤ P ∧ i = .int .i64 (t : Int) ∧ Hid (At w wr p ⟨min (t : Int) 7, 0, 0, 2, false⟩)) (fun i _ => P - (intOf i).toNat)
  case atStart => exact ⟨0, by omega, rfl, H3.out⟩
  case round =>
    clear H3
    obtain ⟨t, ht, rfl, HTL⟩ := hrel
    by_cases qt : t < P
    · have it : (t : Int) < (P : Int) := by omega
      have HC := Lib.hid (act_at HTL.out _ _ _ (act_cap t (by omega)) )
      by_cases g : (t : Int) < 7
      · rw [if_pos g] at HC
        have g2 : t < 7 := by omega
        go_wp2_with fail
        refine HC.out.mono ?_
        rintro e w5 ⟨rfl, h5⟩
        have H5 := Lib.hid h5
        clear h5 HC HTL
        go_wp2
        go_roundw
        case rel => exact ⟨t + 1, by omega, by go_num, H5.out⟩
        case measure => simp [intOf]; omega
      · rw [if_neg g] at HC
        have g1 : decide ((t : Int) < 7) = false := by simpa using g
        have g2 : decide (t < 7) = false := by simp; omega
        go_wp2_with fail
        refine HC.out.mono ?_
        rintro e w5 ⟨rfl, h5⟩
        have H5 := Lib.hid h5
        clear h5 HC HTL
        go_wp2
        go_roundw
        case rel => exact ⟨t + 1, by omega, by go_num, H5.out⟩
        case measure => simp [intOf]; omega
    · have it : decide ((t : Int) < (P : Int)) = false := by simp; omega
      obtain ⟨A, hA⟩ : ∃ A : Int, min (P : Int) 7 = A := ⟨_, rfl⟩
      have HU : Hid (At w wr p ⟨A, min ((0 : Nat) : Int) 7, 0, 2, false⟩) := by
        have e : t = P := by omega
        rw [e, hA] at HTL; exact HTL
      have HA := Lib.hid hA
      clear HTL hA
      go_wp2
      go_loopw [11] (fun i wr => ∃ u : Nat, u ≤ Q ∧ i = .int .i64 (u : Int) ∧ Hid (At w wr p ⟨A, min (u : Int) 7, 0, 2, false⟩)) (fun i _ => Q - (intOf i).toNat)
      case atStart => exact ⟨0, by omega, rfl, HU.out⟩
      case round =>
        clear HU
        obtain ⟨u, hu, rfl, HUL⟩ := hrel
        by_cases qu : u < Q
        · have iu : (u : Int) < (Q : Int) := by omega
          have HC := Lib.hid (wake_at HUL.out _ _ _ (wake_cap A u (by omega)) )
          by_cases g : (u : Int) < 7
          · rw [if_pos g] at HC
            have g2 : u < 7 := by omega
            go_wp2_with fail
            refine HC.out.mono ?_
            rintro e w5 ⟨rfl, h5⟩
            have H5 := Lib.hid h5
            clear h5 HC HUL
            go_wp2
            go_roundw
            case rel => exact ⟨u + 1, by omega, by go_num, H5.out⟩
            case measure => simp [intOf]; omega
          · rw [if_neg g] at HC
            have g1 : decide ((u : Int) < 7) = false := by simpa using g
            have g2 : decide (u < 7) = false := by simp; omega
            go_wp2_with fail
            refine HC.out.mono ?_
            rintro e w5 ⟨rfl, h5⟩
            have H5 := Lib.hid h5
            clear h5 HC HUL
            go_wp2
            go_roundw
            case rel => exact ⟨u + 1, by omega, by go_num, H5.out⟩
            case measure => simp [intOf]; omega
        · have iu : decide ((u : Int) < (Q : Int)) = false := by simp; omega
          obtain ⟨B, hB⟩ : ∃ B : Nat, min Q 7 = B := ⟨_, rfl⟩
          have HV : Hid (At w wr p ⟨A, ((B - 0 : Nat) : Int), 0, 2, false⟩) := by
            have e : min (u : Int) 7 = ((B - 0 : Nat) : Int) := by omega
            rw [e] at HUL; exact HUL
          have HB := Lib.hid hB
          clear HUL
          go_wp2
          go_loopw [14] (fun i wr => ∃ v : Nat, v ≤ B ∧ i = .int .i64 (v : Int) ∧ Hid (At w wr p ⟨A, ((B - v : Nat) : Int), 0, 2, false⟩)) (fun i _ => B - (intOf i).toNat)
          case atStart => exact ⟨0, by omega, rfl, HV.out⟩
          case round =>
            clear HV
            obtain ⟨v, hv, rfl, HVL⟩ := hrel
            by_cases qv : v < B
            · have i1 : (v : Int) < (Q : Int) := by omega
              have i2 : (v : Int) < 7 := by omega
              have i3 : v < Q := by omega
              have i4 : v < 7 := by omega
              have HC := Lib.hid (sleep_at HVL.out _ _ _ (sleep_one A ((B - v : Nat) : Int) (by omega) ((B - (v + 1) : Nat) : Int) (by omega)))
              clear hB
              go_wp2_with fail
              refine HC.out.mono ?_
              rintro e w5 ⟨rfl, h5⟩
              have H5 := Lib.hid h5
              clear h5 HC HVL
              go_wp2
              go_roundw
              case rel => exact ⟨v + 1, by omega, by go_num, H5.out⟩
              case measure => simp [intOf]; omega
            · have HW : Hid (At w wr p (sus A (min ((0 : Nat) : Int) 7))) := by
                have e : B - v = 0 := by omega
                rw [e] at HVL; exact HVL
              clear HVL
              have key : (decide ((v : Int) < (Q : Int)) = false ∧ decide (v < Q) = false) ∨ ((v : Int) < (Q : Int) ∧ v < Q ∧ decide ((v : Int) < 7) = false ∧ decide (v < 7) = false) := by
                by_cases c : v < Q
                · right; refine ⟨by omega, c, ?_, ?_⟩ <;> simp <;> omega
                · left; constructor <;> simp <;> omega
              clear hB qv hv
              obtain ⟨F, HF⟩ : ∃ F : Nat, Hid (F = min R 7) := ⟨_, Lib.hid rfl⟩
              rcases key with ⟨k1, k2⟩ | ⟨k1, k2, k3, k4⟩
              all_goals
                go_wp2
                go_loopw [17] (fun i wr => ∃ x : Nat, x ≤ R ∧ i = .int .i64 (x : Int) ∧ Hid (At w wr p (sus A (min (x : Int) 7)))) (fun i _ => R - (intOf i).toNat)
                case atStart => exact ⟨0, by omega, rfl, HW.out⟩
                case round =>
                  clear HW
                  obtain ⟨x, hx, rfl, HXL⟩ := hrel
                  by_cases qx : x < R
                  · have ix : (x : Int) < (R : Int) := by omega
                    have HC := Lib.hid (suspend_at HXL.out _ _ (susp_cap A x (by omega)) )
                    by_cases g : (x : Int) < 7
                    · rw [if_pos g] at HC
                      have g2 : x < 7 := by omega
                      go_wp2_with fail
                      refine HC.out.mono ?_
                      rintro e w5 ⟨rfl, h5⟩
                      have H5 := Lib.hid h5
                      clear h5 HC HXL
                      go_wp2
                      go_roundw
                      case rel => exact ⟨x + 1, by omega, by go_num, H5.out⟩
                      case measure => simp [intOf]; omega
                    · rw [if_neg g] at HC
                      have g1 : decide ((x : Int) < 7) = false := by simpa using g
                      have g2 : decide (x < 7) = false := by simp; omega
                      go_wp2_with fail
                      refine HC.out.mono ?_
                      rintro e w5 ⟨rfl, h5⟩
                      have H5 := Lib.hid h5
                      clear h5 HC HXL
                      go_wp2
                      go_roundw
                      case rel => exact ⟨x + 1, by omega, by go_num, H5.out⟩
                      case measure => simp [intOf]; omega
                  · have ix : decide ((x : Int) < (R : Int)) = false := by simp; omega
                    obtain ⟨F, hF⟩ : ∃ F : Nat, min R 7 = F := ⟨_, rfl⟩
                    have HY : Hid (At w wr p (sus A ((F - 0 : Nat) : Int))) := by
                      have e : min (x : Int) 7 = ((F - 0 : Nat) : Int) := by omega
                      rw [e] at HXL; exact HXL
                    clear HXL
                    have hF7 : F ≤ 7 := by omega
                    have key2 : ((7 : Int) < (R : Int) ∧ 7 < R ∧ F = 7) ∨ (decide ((7 : Int) < (R : Int)) = false ∧ decide (7 < R) = false ∧ F = R) := by
                      by_cases c : 7 < R
                      · left; refine ⟨by omega, c, by omega⟩
                      · right; refine ⟨?_, ?_, by omega⟩ <;> simp <;> omega
                    clear hF
                    rcases key2 with ⟨k5, k6, k7⟩ | ⟨k5, k6, k7⟩
                    · subst k7
                      go_wp2
                      go_loopw [20] (fun i wr => ∃ y : Nat, y ≤ 7 ∧ i = .int .i64 (y : Int) ∧ Hid (At w wr p (sus A ((7 - y : Nat) : Int)))) (fun i _ => 7 - (intOf i).toNat)
                      case atStart => exact ⟨0, by omega, rfl, HY.out⟩
                      case round =>
                        clear HY
                        obtain ⟨y, hy, rfl, HYL⟩ := hrel
                        by_cases qy : y < 7
                        · have iy : (y : Int) < (7 : Int) := by omega
                          have HC := Lib.hid (resume_at HYL.out false _ _ _ (resume_sus A ((7 - y : Nat) : Int) (by omega) ((7 - (y + 1) : Nat) : Int) (by omega)))
                          by_cases qz : y + 1 = 7
                          · have z1 : decide (((7 - (y + 1) : Nat) : Int) = 0) = true := by simp; omega
                            have z2 : ((y : Int) == (6 : Int)) = true := by simp; omega
                            have z3 : decide ((y : Int) = (6 : Int)) = true := by simp; omega
                            rw [z1] at HC
                            clear z1 qz
                            go_wp2_with fail
                            refine HC.out.mono ?_
                            rintro e w5 ⟨rfl, h5⟩
                            have H5 := Lib.hid h5
                            clear h5 HC HYL
                            go_wp2
                            go_roundw
                            case rel => exact ⟨y + 1, by omega, by go_num, H5.out⟩
                            case measure => simp [intOf]; omega
                          · have z1 : decide (((7 - (y + 1) : Nat) : Int) = 0) = false := by simp; omega
                            have z2 : ((y : Int) == (6 : Int)) = false := by simp; omega
                            have z3 : decide ((y : Int) = (6 : Int)) = false := by simp; omega
                            rw [z1] at HC
                            clear z1 qz
                            go_wp2_with fail
                            refine HC.out.mono ?_
                            rintro e w5 ⟨rfl, h5⟩
                            have H5 := Lib.hid h5
                            clear h5 HC HYL
                            go_wp2
                            go_roundw
                            case rel => exact ⟨y + 1, by omega, by go_num, H5.out⟩
                            case measure => simp [intOf]; omega
                        · have iy : decide ((y : Int) < (7 : Int)) = false := by simp; omega
                          have HZ : Hid (At w wr p ⟨A, 0, 0, 2, false⟩) := by
                            have e : 7 - y = 0 := by omega
                            rw [e] at HYL; exact HYL
                          clear HYL
                          go_wp2_with fail
                          refine (sleep_at HZ.out ⟨A, 0, 0, 4, true⟩ true 0 rfl).mono ?_
                          rintro e w6 ⟨rfl, h6⟩
                          have HS := Lib.hid h6
                          clear h6 HZ
                          have hA7 := HA.out
                          by_cases qp : 7 < P
                          · have p1 : (7 : Int) < (P : Int) := by omega
                            obtain rfl : A = 7 := by omega
                            have HKL := Lib.hid (kill_any7 7 (by omega))
                            clear hA7
                            go_wp2_with fail
                            refine (kill_at HS.out ⟨6, 0, 0, 2, false⟩ true 0 HKL.out).mono ?_
                            rintro e w7 ⟨rfl, h7⟩
                            have H7 := Lib.hid h7
                            clear h7 HS HKL
                            go_wp2_with fail
                            refine (canAct_at H7.out _ 6 rfl rfl).mono ?_
                            rintro e w8 ⟨rfl, h8⟩
                            have H8 := Lib.hid h8
                            clear h8 H7
                            go_wp2_with fail
                            refine (flag_any w8 true).mono ?_
                            rintro e w9 ⟨rfl, rfl⟩
                            have hfl : flagOf true = 1 := rfl
                            rw [hfl]
                            go_wp2
                            go_ret
                            exact ⟨by first | rfl | simp, H8.out.be⟩
                          · have p1 : decide ((7 : Int) < (P : Int)) = false := by simp; omega
                            have p2 : decide (7 < P) = false := by simp; omega
                            obtain rfl : A = (P : Int) := by omega
                            have hkl := kill_any7 (P : Int) (by omega)
                            clear hA7
                            by_cases q0 : 0 < P
                            · have p3 : (0 : Int) < (P : Int) := by omega
                              have p4 : decide ((0 : Int) < (P : Int)) = true := by simpa using q0
                              rw [if_neg (by omega), p4] at hkl
                              have HKL := Lib.hid hkl
                              clear hkl p4
                              go_wp2_with fail
                              refine (kill_at HS.out ⟨(P : Int) - 1, 0, 0, 2, false⟩ true 0 HKL.out).mono ?_
                              rintro e w7 ⟨rfl, h7⟩
                              have H7 := Lib.hid h7
                              clear h7 HS HKL
                              go_wp2_with fail
                              refine (canAct_at H7.out _ ((P : Int) - 1) rfl rfl).mono ?_
                              rintro e w8 ⟨rfl, h8⟩
                              have H8 := Lib.hid h8
                              clear h8 H7
                              go_wp2_with fail
                              refine (flag_any w8 true).mono ?_
                              rintro e w9 ⟨rfl, rfl⟩
                              have hfl : flagOf true = 1 := rfl
                              rw [hfl]
                              go_wp2
                              go_ret
                              exact ⟨by first | rfl | simp, H8.out.be⟩
                            · have p3 : decide ((0 : Int) < (P : Int)) = false := by simpa using q0
                              have p4 : decide (0 < P) = false := by simpa using q0
                              have p5 : (P : Int) = 0 := by omega
                              rw [if_pos (by omega), p3, p5] at hkl
                              have HKL := Lib.hid hkl
                              rw [p5] at HS
                              have HP0 := Lib.hid p5
                              clear hkl p5
                              go_wp2_with fail
                              refine (kill_at HS.out ⟨0, 0, 0, 16, false⟩ false 0 HKL.out).mono ?_
                              rintro e w7 ⟨rfl, h7⟩
                              have H7 := Lib.hid h7
                              clear h7 HS HKL
                              go_wp2_with fail
                              refine (canAct_at H7.out _ 0 rfl rfl).mono ?_
                              rintro e w8 ⟨rfl, h8⟩
                              have H8 := Lib.hid h8
                              clear h8 H7
                              go_wp2_with fail
                              refine (flag_any w8 false).mono ?_
                              rintro e w9 ⟨rfl, rfl⟩
                              have hfl : flagOf false = 0 := rfl
                              rw [hfl]
                              have p6 := HP0.out
                              go_wp2
                              go_ret
                              exact ⟨by first | rfl | simp, H8.out.be⟩
                    · subst k7
                      go_wp2
                      go_loopw [20] (fun i wr => ∃ y : Nat, y ≤ F ∧ i = .int .i64 (y : Int) ∧ Hid (At w wr p (sus A ((F - y : Nat) : Int)))) (fun i _ => F - (intOf i).toNat)
                      case atStart => exact ⟨0, by omega, rfl, HY.out⟩
                      case round =>
                        clear HY
                        obtain ⟨y, hy, rfl, HYL⟩ := hrel
                        by_cases qy : y < F
                        · have iy : (y : Int) < (F : Int) := by omega
                          have HC := Lib.hid (resume_at HYL.out false _ _ _ (resume_sus A ((F - y : Nat) : Int) (by omega) ((F - (y + 1) : Nat) : Int) (by omega)))
                          by_cases qz : y + 1 = F
                          · have z1 : decide (((F - (y + 1) : Nat) : Int) = 0) = true := by simp; omega
                            have z2 : ((y : Int) == (F : Int) - 1) = true := by simp; omega
                            have z3 : decide ((y : Int) = (F : Int) - 1) = true := by simp; omega
                            rw [z1] at HC
                            clear z1 qz
                            go_wp2_with fail
                            refine HC.out.mono ?_
                            rintro e w5 ⟨rfl, h5⟩
                            have H5 := Lib.hid h5
                            clear h5 HC HYL
                            go_wp2
                            go_roundw
                            case rel => exact ⟨y + 1, by omega, by go_num, H5.out⟩
                            case measure => simp [intOf]; omega
                          · have z1 : decide (((F - (y + 1) : Nat) : Int) = 0) = false := by simp; omega
                            have z2 : ((y : Int) == (F : Int) - 1) = false := by simp; omega
                            have z3 : decide ((y : Int) = (F : Int) - 1) = false := by simp; omega
                            rw [z1] at HC
                            clear z1 qz
                            go_wp2_with fail
                            refine HC.out.mono ?_
                            rintro e w5 ⟨rfl, h5⟩
                            have H5 := Lib.hid h5
                            clear h5 HC HYL
                            go_wp2
                            go_roundw
                            case rel => exact ⟨y + 1, by omega, by go_num, H5.out⟩
                            case measure => simp [intOf]; omega
                        · have iy : decide ((y : Int) < (F : Int)) = false := by simp; omega
                          have HZ : Hid (At w wr p ⟨A, 0, 0, 2, false⟩) := by
                            have e : F - y = 0 := by omega
                            rw [e] at HYL; exact HYL
                          clear HYL
                          go_wp2_with fail
                          refine (sleep_at HZ.out ⟨A, 0, 0, 4, true⟩ true 0 rfl).mono ?_
                          rintro e w6 ⟨rfl, h6⟩
                          have HS := Lib.hid h6
                          clear h6 HZ
                          have hA7 := HA.out
                          by_cases qp : 7 < P
                          · have p1 : (7 : Int) < (P : Int) := by omega
                            obtain rfl : A = 7 := by omega
                            have HKL := Lib.hid (kill_any7 7 (by omega))
                            clear hA7
                            go_wp2_with fail
                            refine (kill_at HS.out ⟨6, 0, 0, 2, false⟩ true 0 HKL.out).mono ?_
                            rintro e w7 ⟨rfl, h7⟩
                            have H7 := Lib.hid h7
                            clear h7 HS HKL
                            go_wp2_with fail
                            refine (canAct_at H7.out _ 6 rfl rfl).mono ?_
                            rintro e w8 ⟨rfl, h8⟩
                            have H8 := Lib.hid h8
                            clear h8 H7
                            go_wp2_with fail
                            refine (flag_any w8 true).mono ?_
                            rintro e w9 ⟨rfl, rfl⟩
                            have hfl : flagOf true = 1 := rfl
                            rw [hfl]
                            go_wp2
                            go_ret
                            exact ⟨by first | rfl | simp, H8.out.be⟩
                          · have p1 : decide ((7 : Int) < (P : Int)) = false := by simp; omega
                            have p2 : decide (7 < P) = false := by simp; omega
                            obtain rfl : A = (P : Int) := by omega
                            have hkl := kill_any7 (P : Int) (by omega)
                            clear hA7
                            by_cases q0 : 0 < P
                            · have p3 : (0 : Int) < (P : Int) := by omega
                              have p4 : decide ((0 : Int) < (P : Int)) = true := by simpa using q0
                              rw [if_neg (by omega), p4] at hkl
                              have HKL := Lib.hid hkl
                              clear hkl p4
                              go_wp2_with fail
                              refine (kill_at HS.out ⟨(P : Int) - 1, 0, 0, 2, false⟩ true 0 HKL.out).mono ?_
                              rintro e w7 ⟨rfl, h7⟩
                              have H7 := Lib.hid h7
                              clear h7 HS HKL
                              go_wp2_with fail
                              refine (canAct_at H7.out _ ((P : Int) - 1) rfl rfl).mono ?_
                              rintro e w8 ⟨rfl, h8⟩
                              have H8 := Lib.hid h8
                              clear h8 H7
                              go_wp2_with fail
                              refine (flag_any w8 true).mono ?_
                              rintro e w9 ⟨rfl, rfl⟩
                              have hfl : flagOf true = 1 := rfl
                              rw [hfl]
                              go_wp2
                              go_ret
                              exact ⟨by first | rfl | simp, H8.out.be⟩
                            · have p3 : decide ((0 : Int) < (P : Int)) = false := by simpa using q0
                              have p4 : decide (0 < P) = false := by simpa using q0
                              have p5 : (P : Int) = 0 := by omega
                              rw [if_pos (by omega), p3, p5] at hkl
                              have HKL := Lib.hid hkl
                              rw [p5] at HS
                              have HP0 := Lib.hid p5
                              clear hkl p5
                              go_wp2_with fail
                              refine (kill_at HS.out ⟨0, 0, 0, 16, false⟩ false 0 HKL.out).mono ?_
                              rintro e w7 ⟨rfl, h7⟩
                              have H7 := Lib.hid h7
                              clear h7 HS HKL
                              go_wp2_with fail
                              refine (canAct_at H7.out _ 0 rfl rfl).mono ?_
                              rintro e w8 ⟨rfl, h8⟩
                              have H8 := Lib.hid h8
                              clear h8 H7
                              go_wp2_with fail
                              refine (flag_any w8 false).mono ?_
                              rintro e w9 ⟨rfl, rfl⟩
                              have hfl : flagOf false = 0 := rfl
                              rw [hfl]
                              have p6 := HP0.out
                              go_wp2
                              go_ret
                              exact ⟨by first | rfl | simp, H8.out.be⟩

/-! ### the walk -/
theorem walk (a0 : Int) (a1 : Int) (a2 : Int) (w0 : (Lit.int .i64 a0).wf = true) (w1 : (Lit.int .i64 a1).wf = true) (w2 : (Lit.int .i64 a2).wf = true) (w : World) :
    Calls Try.prog 4 #[.int .i64 a0, .int .i64 a1, .int .i64 a2] w fun e w' => e = .returned (.bool true) ∧ Below w.heap.size w w' := by
  by_cases h : a0 < 0 ∨ a1 < 0 ∨ a2 < 0 ∨ 20 < a0 ∨ 20 < a1 ∨ 20 < a2
  · exact walkOut a0 a1 a2 w h
  · obtain ⟨P, rfl⟩ : ∃ n : Nat, a0 = (n : Int) := ⟨a0.toNat, by omega⟩
    obtain ⟨Q, rfl⟩ : ∃ n : Nat, a1 = (n : Int) := ⟨a1.toNat, by omega⟩
    obtain ⟨R, rfl⟩ : ∃ n : Nat, a2 = (n : Int) := ⟨a2.toNat, by omega⟩
    exact walkIn P Q R (by omega) (by omega) (by omega) w

/-! ### THE ROW's STEP: WRITTEN OUT: LEAVE IT -/
set_option maxRecDepth 100000 in
theorem lifted (os : Os) (started : os.Started) (H : Type) (enc : TypeId × Value → H) :
    ReturnsInHanded {} Try.checked os 4 .any (Rows.taskCountsSpec.pre6 enc Try.prog Try.f4 Rows.taskCountsRow.domain false) (Rows.taskCountsSpec.post enc Try.prog Try.f4 false true false false) := by
  refine returnsInHanded_of_change (C := Try.checked) own started (by kernel_rfl) Try.func4
    (ChangeSpec.witness6 (enc := enc) (C := Try.checked) false ⟨#[], #[.int .i64 0, .int .i64 0, .int .i64 0], []⟩ 8 (by kernel_rfl) (by kernel_rfl) (by kernel_rfl) (by kernel_rfl)) ?_
  intro W base args ds gs before hval0 hW hcnd _
  have hval : ∀ (j : Nat) t v, Try.f4.params[j]? = some t → args[j]? = some v → Value.okWide Try.prog W .any base t v := hval0
  have hW' := hW
  obtain ⟨p, q, hA0, hV, rfl, hfz, hnd⟩ := hW
  have hA : DataW.TrodAll enc Try.prog W 0 (fun _ => true) true Try.f4.params.toList args.toList ds p := hA0
  rw [Try.params4] at hA hval
  obtain ⟨v0, vs0, d0, ds0, p0, q0, hargs, rfl, rfl, h0, r0⟩ := trodAll_cons hA
  obtain ⟨v1, vs1, d1, ds1, p1, q1, rfl, rfl, rfl, h1, r1⟩ := trodAll_cons r0
  obtain ⟨v2, vs2, d2, ds2, p2, q2, rfl, rfl, rfl, h2, r2⟩ := trodAll_cons r1
  obtain ⟨rfl, rfl, rfl⟩ := trodAll_nil r2
  obtain rfl : args = #[v0, v1, v2] := by cases args; simp_all
  obtain ⟨rfl, rfl⟩ := trodVars_none hV
  obtain ⟨a0, rfl, rfl, rfl, w0⟩ := open_int Try.underlying3 (hval 0 3 v0 rfl rfl) h0
  obtain ⟨a1, rfl, rfl, rfl, w1⟩ := open_int Try.underlying3 (hval 1 3 v1 rfl rfl) h1
  obtain ⟨a2, rfl, rfl, rfl, w2⟩ := open_int Try.underlying3 (hval 2 3 v2 rfl rfl) h2
  clear hA0 hval0
  simp only [List.append_nil] at hW'
  refine (walk a0 a1 a2 w0 w1 w2 W).mono fun e W' ⟨he, hg⟩ => ?_
  subst he
  exact ⟨_, rfl, _, _, _, [], [], [], hW', (trodAll_cons_mk (shut_bool Try.underlying4 _) trodAll_mk0), (trodAll_cons_mk (shut_int Try.underlying3 w0) (trodAll_cons_mk (shut_int Try.underlying3 w1) (trodAll_cons_mk (shut_int Try.underlying3 w2) trodAll_mk0))), rfl, hg.frame _, fun h => by cases h⟩

theorem over : Rows.taskCountsRow.holds Try.pinned (OpenSpec.ofChange Rows.taskCountsSpec) :=
  OpenClaim.holds_of_wide 4 Try.f4 rfl rfl rfl rfl rfl rfl rfl ⟨rfl, rfl, rfl, rfl, rfl⟩ rfl rfl rfl rfl rfl (by kernel_rfl) Try.func4 (by kernel_rfl)
    (of_decide_eq_true (by kernel_rfl)) (by unfold Func.isWrapper; first | (rw [if_pos (by decide +kernel)]; kernel_rfl) | (rw [if_neg (by decide +kernel)]; exact ⟨rfl, rfl⟩))
    (fun os started H enc _ => lifted os started H enc)

/-- ████ THE STATEMENT ████ -/
theorem proved : Rows.TaskCountsSaid :=
  over
#print axioms proved
end Go.Proofs.Ytjiiopnlcohilaa.taskCounts
namespace Go.Proofs.Ytjiiopnlcohilaa
theorem taskCounts_holds : Rows.TaskCountsSaid := taskCounts.proved
end Go.Proofs.Ytjiiopnlcohilaa
