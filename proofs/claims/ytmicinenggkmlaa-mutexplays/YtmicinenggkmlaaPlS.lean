/-
  detentlaw15.MutexPlays: the law's same.
-/
import Derived.Test.YtmicinenggkmlaaPlT
namespace Go.Proofs.Ytmicinenggkmlaa.mutexPlays
open Go.RowKit
set_option linter.unusedVariables false
set_option maxRecDepth 100000

set_option maxHeartbeats 6400000 in
theorem same_all (w0 : World) (a g : Nat) (q : Nat → Nat) (m gk go gq : Nat) (r : Nat → Nat) (S : St) (w : World) (ha : At w0 a g q S w) (hr : Rd w m gk go gq r S) :
    Calls Try.prog 28 #[PtrV a, PtrV m] w fun e w' => e = .returned (.bool true) ∧ Below w.heap.size w w' := by
  obtain ⟨N, hx, hN⟩ := hr
  have hf := ha.f
  have hn8 := hf.n8
  have HA := Lib.hid ha
  have HX := Lib.hid hx
  have HF := Lib.hid hf
  obtain ⟨n, hn⟩ : ∃ n, S.n = n := ⟨_, rfl⟩
  have HN := Lib.hid hn
  rw [hn] at hn8
  clear ha hx hf hN hn
  go_enter Try.func28, Try.ntmps28
  go_wp2
  go_loopw [5] (fun i wr => ∃ v : Nat, v ≤ n + 2 ∧ i = .int .i64 (v : Int) ∧ Below w.heap.size w wr) (fun i _ => n + 2 - (intOf i).toNat)
  case atStart => exact ⟨0, Nat.zero_le _, rfl, Below.refl _ _⟩
  case round =>
    obtain ⟨v, hv, rfl, hb⟩ := hrel
    have HB := Lib.hid hb
    have hxr := HX.out.below hb
    have har := HA.out.below hb
    have HXR := Lib.hid hxr
    have HAR := Lib.hid har
    obtain ⟨XK, XO, XQ, kK, kO, kQ, k0, k1, k2, hX⟩ := hxr.rows
    rw [HN.out] at k0 k1 k2
    clear hb hxr har
    by_cases hlt : v ≤ n + 1
    · have hlt' : (v : Int) ≤ (n : Int) + 1 := by omega
      by_cases hin : 1 ≤ v ∧ v ≤ n
      · obtain ⟨i, hi⟩ : ∃ i, v = i + 1 := ⟨v - 1, by omega⟩
        have hiS : i < S.n := by rw [HN.out]; omega
        obtain ⟨rfl, rfl, rfl⟩ := hX (by omega)
        have d2 := HXR.out.own hiS
        have d3 := HXR.out.ptr hiS
        obtain ⟨p, hp⟩ : ∃ p, r i = p := ⟨_, rfl⟩
        rw [hp] at d3
        have HID := Lib.hid (rids_any p (S.bp i) (S.Q i) wr (HXR.out.rq hiS hp) (HF.out.gd i hiS).len)
        have hvi : ((v : Nat) : Int) = (i : Int) + 1 := by omega
        have HOW := Lib.hid (fun W (hW : At w0 a g q S W) => owner_at hW (m := (v : Int)) (r := S.O i) (by rw [hvi]; exact owns_in hiS))
        have HWT := Lib.hid (fun W (hW : At w0 a g q S W) => waiting_at hW (m := (v : Int)) (L := (S.Q i).map Prod.fst) (by rw [hvi]; exact wait_in hiS))
        obtain ⟨o, ho⟩ : ∃ o, S.O i = o := ⟨_, rfl⟩
        rw [ho] at d2 HOW
        obtain ⟨M, hM⟩ : ∃ M, (S.Q i).map Prod.fst = M := ⟨_, rfl⟩
        rw [hM] at HID HWT
        have e1 : (1 : Int) ≤ (v : Int) := by omega
        have e2 : (v : Int) ≤ (n : Int) := by omega
        have e3 : (v : Int) - 1 = (i : Int) := by omega
        have e4 : (i : Int) < (n : Int) := by omega
        have e5 : i < n := by omega
        have toe : (o != o) = false := by simp
        clear hX hp ho hM hiS hi hvi hin
        go_wp2_with fail
        refine HID.out.mono ?_
        rintro e w1 ⟨vi, rfl, hoi, hb1⟩
        have HO1 := Lib.hid hoi
        have HB1 := Lib.hid hb1
        have HA1 := Lib.hid (HAR.out.below hb1)
        clear hoi hb1 d2 d3 k0 k1 k2
        go_wp2_with fail
        refine (HOW.out _ HA1.out).mono ?_
        rintro e w2 ⟨rfl, rfl⟩
        go_wp2_with fail
        refine (HWT.out _ HA1.out).mono ?_
        rintro e w2 ⟨XW, kW, rfl, how, hb2⟩
        have HNW := Lib.hid (Nr.of_own how)
        have HNI := Lib.hid ((Nr.of_own HO1.out).below hb2)
        have HB2 := Lib.hid (below_trans HB1.out hb2)
        clear how hb2
        go_wp2_with fail
        refine (same_true _ _ M w2 HNW.out HNI.out).mono ?_
        rintro e w3 ⟨rfl, hb3⟩
        have HB3 := Lib.hid (below_trans HB.out (below_trans HB2.out hb3))
        clear hb3
        go_wp2
        go_roundw
        case rel => exact ⟨v + 1, by omega, by go_num, HB3.out⟩
        case measure => simp [intOf]; omega
      · have hnm : ¬ isM S (v : Int) := by unfold isM; rw [HN.out]; omega
        have HOW := Lib.hid (owner_at HAR.out (m := (v : Int)) (r := 0) (wait_out hnm).2)
        have HWT := Lib.hid (waiting_at HAR.out (m := (v : Int)) (L := []) (wait_out hnm).1)
        clear hnm hX k1 k2
        by_cases c1 : v = 0
        · have t1 : decide ((1 : Int) ≤ (v : Int)) = false := by simp; omega
          have t2 : ¬ (1 : Int) ≤ (v : Int) := by omega
          clear hin c1
          go_wp2_with fail
          refine HOW.out.mono ?_
          rintro e w2 ⟨rfl, rfl⟩
          go_wp2_with fail
          refine HWT.out.mono ?_
          rintro e w2 ⟨XW, kW, rfl, how, hb2⟩
          have HNW := Lib.hid (Nr.of_own how)
          have HB2 := Lib.hid (below_trans HB.out hb2)
          clear how hb2
          go_wp2_with fail
          refine (same_true _ _ [] w2 HNW.out ⟨none, 0, rfl, by simp, fun h => absurd h (by simp)⟩).mono ?_
          rintro e w3 ⟨rfl, hb3⟩
          have HB3 := Lib.hid (below_trans HB2.out hb3)
          clear hb3
          go_wp2
          go_roundw
          case rel => exact ⟨v + 1, by omega, by go_num, HB3.out⟩
          case measure => simp [intOf]; omega
        · have t1 : (1 : Int) ≤ (v : Int) := by omega
          have t2 : decide ((v : Int) ≤ (n : Int)) = false := by simp; omega
          have t3 : ¬ (v : Int) ≤ (n : Int) := by omega
          have t4 : ¬ v ≤ n := by omega
          clear hin c1
          go_wp2_with fail
          refine HOW.out.mono ?_
          rintro e w2 ⟨rfl, rfl⟩
          go_wp2_with fail
          refine HWT.out.mono ?_
          rintro e w2 ⟨XW, kW, rfl, how, hb2⟩
          have HNW := Lib.hid (Nr.of_own how)
          have HB2 := Lib.hid (below_trans HB.out hb2)
          clear how hb2
          go_wp2_with fail
          refine (same_true _ _ [] w2 HNW.out ⟨none, 0, rfl, by simp, fun h => absurd h (by simp)⟩).mono ?_
          rintro e w3 ⟨rfl, hb3⟩
          have HB3 := Lib.hid (below_trans HB2.out hb3)
          clear hb3
          go_wp2
          go_roundw
          case rel => exact ⟨v + 1, by omega, by go_num, HB3.out⟩
          case measure => simp [intOf]; omega
    · have tl : decide ((v : Int) ≤ (n : Int) + 1) = false := by simp; omega
      have tl2 : ¬ (v : Int) ≤ (n : Int) + 1 := by omega
      obtain ⟨w1, hw1⟩ : ∃ w1, wr = w1 := ⟨_, rfl⟩
      rw [hw1] at HB HXR HAR k0 k1 k2 ⊢
      clear hw1 hX
      go_wp2
      clear k0 k1 k2
      go_loopw [8] (fun i wr => ∃ t : Nat, t ≤ 18 ∧ i = .int .i64 (t : Int) ∧ Below w1.heap.size w1 wr) (fun i _ => 18 - (intOf i).toNat)
      case atStart => exact ⟨0, Nat.zero_le _, rfl, Below.refl _ _⟩
      case round =>
        obtain ⟨t, ht, rfl, hb⟩ := hrel
        have HBT := Lib.hid hb
        have HXT := Lib.hid (HXR.out.below hb)
        have HAT := Lib.hid (HAR.out.below hb)
        clear hb
        by_cases hlt2 : t ≤ 17
        · have hlt3 : (t : Int) ≤ 17 := by omega
          have HPD := Lib.hid (fun W (hW : Rx W m gk go gq r S N) => rpri_any m gk go gq r S N (t : Int) W hW HF.out.toFine0 _ rfl)
          have HPP := Lib.hid (pri_at HAT.out (t := (t : Int)) rfl)
          obtain ⟨y, hy⟩ : ∃ y, pri S (t : Int) = y := ⟨_, rfl⟩
          rw [hy] at HPD HPP
          have HBS := Lib.hid (base_at HAT.out (t := (t : Int)) rfl)
          obtain ⟨z, hz⟩ : ∃ z, bas S (t : Int) = z := ⟨_, rfl⟩
          rw [hz] at HBS
          have HHP := Lib.hid (fun W (hW : At w0 a g q S W) => held_at hW (t := (t : Int)) rfl)
          have HHD := Lib.hid (fun W (hW : Rx W m gk go gq r S N) => rheld_any m gk go gq r S N (t : Int) W hW HF.out.toFine0)
          obtain ⟨M, hM⟩ : ∃ M, held S (t : Int) = M := ⟨_, rfl⟩
          rw [hM] at HHP HHD
          have ty : (y != y) = false := by simp
          have tz : (z != z) = false := by simp
          clear hy hM
          by_cases hin : 1 ≤ t ∧ t ≤ 16
          · have d1 := HXT.out.base (u := t) (by omega) (by omega)
            have hbz : S.B (t : Int) = z := by rw [← hz]; unfold bas; rw [if_pos ⟨by omega, by omega⟩]
            rw [hbz] at d1
            have e1 : (1 : Int) ≤ (t : Int) := by omega
            have e2 : (t : Int) ≤ 16 := by omega
            have e3 : (t : Int) < 17 := by omega
            clear hz hbz hin
            go_wp2_with fail
            refine HBS.out.mono ?_
            rintro e w2 ⟨rfl, rfl⟩
            clear d1
            go_wp2_with fail
            refine HPP.out.mono ?_
            rintro e w3 ⟨rfl, hb3⟩
            have HB3 := Lib.hid hb3
            have HX3 := Lib.hid (HXT.out.below hb3)
            have HA3 := Lib.hid (HAT.out.below hb3)
            clear hb3
            go_wp2_with fail
            refine (HPD.out _ HX3.out).mono ?_
            rintro e w4 ⟨rfl, rfl⟩
            go_wp2_with fail
            refine (HHP.out _ HA3.out).mono ?_
            rintro e w4 ⟨XH, kH, rfl, hoh, hb4⟩
            have HB4 := Lib.hid (below_trans HB3.out hb4)
            have HX4 := Lib.hid (HX3.out.below hb4)
            have HOH := Lib.hid hoh
            clear hoh hb4
            go_wp2_with fail
            refine (HHD.out _ HX4.out).mono ?_
            rintro e w5 ⟨vd, rfl, hod, hb5⟩
            have HN1 := Lib.hid ((Nr.of_own HOH.out).below hb5)
            have HN2 := Lib.hid (Nr.of_own hod)
            have HB5 := Lib.hid (below_trans HB4.out hb5)
            clear hod hb5
            go_wp2_with fail
            refine (same_true _ _ M w5 HN1.out HN2.out).mono ?_
            rintro e w6 ⟨rfl, hb6⟩
            have HB6 := Lib.hid (below_trans HBT.out (below_trans HB5.out hb6))
            clear hb6
            go_wp2
            go_roundw
            case rel => exact ⟨t + 1, by omega, by go_num, HB6.out⟩
            case measure => simp [intOf]; omega
          · have hz0 : z = 0 := by rw [← hz]; unfold bas; rw [if_neg (by unfold isT; omega)]
            subst hz0
            by_cases c1 : t = 0
            · have t1 : decide ((1 : Int) ≤ (t : Int)) = false := by simp; omega
              have t2 : ¬ (1 : Int) ≤ (t : Int) := by omega
              clear hin hz c1
              go_wp2_with fail
              refine HBS.out.mono ?_
              rintro e w2 ⟨rfl, rfl⟩
              go_wp2_with fail
              refine HPP.out.mono ?_
              rintro e w3 ⟨rfl, hb3⟩
              have HB3 := Lib.hid hb3
              have HX3 := Lib.hid (HXT.out.below hb3)
              have HA3 := Lib.hid (HAT.out.below hb3)
              clear hb3
              go_wp2_with fail
              refine (HPD.out _ HX3.out).mono ?_
              rintro e w4 ⟨rfl, rfl⟩
              go_wp2_with fail
              refine (HHP.out _ HA3.out).mono ?_
              rintro e w4 ⟨XH, kH, rfl, hoh, hb4⟩
              have HB4 := Lib.hid (below_trans HB3.out hb4)
              have HX4 := Lib.hid (HX3.out.below hb4)
              have HOH := Lib.hid hoh
              clear hoh hb4
              go_wp2_with fail
              refine (HHD.out _ HX4.out).mono ?_
              rintro e w5 ⟨vd, rfl, hod, hb5⟩
              have HN1 := Lib.hid ((Nr.of_own HOH.out).below hb5)
              have HN2 := Lib.hid (Nr.of_own hod)
              have HB5 := Lib.hid (below_trans HB4.out hb5)
              clear hod hb5
              go_wp2_with fail
              refine (same_true _ _ M w5 HN1.out HN2.out).mono ?_
              rintro e w6 ⟨rfl, hb6⟩
              have HB6 := Lib.hid (below_trans HBT.out (below_trans HB5.out hb6))
              clear hb6
              go_wp2
              go_roundw
              case rel => exact ⟨t + 1, by omega, by go_num, HB6.out⟩
              case measure => simp [intOf]; omega
            · have t1 : (1 : Int) ≤ (t : Int) := by omega
              have t2 : decide ((t : Int) ≤ 16) = false := by simp; omega
              have t3 : ¬ (t : Int) ≤ 16 := by omega
              clear hin c1 hz
              go_wp2_with fail
              refine HBS.out.mono ?_
              rintro e w2 ⟨rfl, rfl⟩
              go_wp2_with fail
              refine HPP.out.mono ?_
              rintro e w3 ⟨rfl, hb3⟩
              have HB3 := Lib.hid hb3
              have HX3 := Lib.hid (HXT.out.below hb3)
              have HA3 := Lib.hid (HAT.out.below hb3)
              clear hb3
              go_wp2_with fail
              refine (HPD.out _ HX3.out).mono ?_
              rintro e w4 ⟨rfl, rfl⟩
              go_wp2_with fail
              refine (HHP.out _ HA3.out).mono ?_
              rintro e w4 ⟨XH, kH, rfl, hoh, hb4⟩
              have HB4 := Lib.hid (below_trans HB3.out hb4)
              have HX4 := Lib.hid (HX3.out.below hb4)
              have HOH := Lib.hid hoh
              clear hoh hb4
              go_wp2_with fail
              refine (HHD.out _ HX4.out).mono ?_
              rintro e w5 ⟨vd, rfl, hod, hb5⟩
              have HN1 := Lib.hid ((Nr.of_own HOH.out).below hb5)
              have HN2 := Lib.hid (Nr.of_own hod)
              have HB5 := Lib.hid (below_trans HB4.out hb5)
              clear hod hb5
              go_wp2_with fail
              refine (same_true _ _ M w5 HN1.out HN2.out).mono ?_
              rintro e w6 ⟨rfl, hb6⟩
              have HB6 := Lib.hid (below_trans HBT.out (below_trans HB5.out hb6))
              clear hb6
              go_wp2
              go_roundw
              case rel => exact ⟨t + 1, by omega, by go_num, HB6.out⟩
              case measure => simp [intOf]; omega
        · have tl3 : decide ((t : Int) ≤ 17) = false := by simp; omega
          go_wp2
          go_ret
          exact ⟨rfl, below_trans HB.out HBT.out⟩

end Go.Proofs.Ytmicinenggkmlaa.mutexPlays
