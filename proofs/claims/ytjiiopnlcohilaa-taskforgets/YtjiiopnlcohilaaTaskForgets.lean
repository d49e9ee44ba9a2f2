/-
  PROVED: the Go function detentlaw10.TaskForgets returns true for every input, and each argument reads behind the call as it read before (Rows.TaskForgetsSaid). No condition.
-/
import Derived.Test.YtjiiopnlcohilaaRows
import Derived.Test.YtjiiopnlcohilaaConF
import Derived.WalkKit
import Derived.ProofKit
import Derived.OpenShut
import Derived.ShutString
import Derived.ChangeOld
import Derived.Below
namespace Go.Proofs.Ytjiiopnlcohilaa.taskForgets
open Go.ChangeShapes Go.WideShapes Go.ChangeAt Go.RowKit
open Go.ChangeMaps (open_string shut_string)
set_option linter.unusedVariables false      -- a walk need not use every 'w<i>' (that an integer argument fits its kind)

theorem own : ownKnob Try.prog.godebug = none := by kernel_rfl

theorem keep_wake {s : St} (h : s.X ≠ 16) : (wake s).1.X ≠ 16 ∧ (wake s).1.A = s.A := by
  unfold wake
  rw [if_neg h]
  split
  · unfold release
    split
    · exact ⟨by dsimp only; decide, rfl⟩
    · split
      · exact ⟨by dsimp only; decide, rfl⟩
      · exact ⟨h, rfl⟩
  · split
    · exact ⟨h, rfl⟩
    · exact ⟨h, rfl⟩
theorem keep_suspend {s : St} (h : s.X ≠ 16) : (suspend s).1.X ≠ 16 ∧ (suspend s).1.A = s.A := by
  unfold suspend
  rw [if_neg h]
  split
  · exact ⟨h, rfl⟩
  · split
    · exact ⟨by dsimp only; decide, rfl⟩
    · split
      · exact ⟨by dsimp only; decide, rfl⟩
      · exact ⟨h, rfl⟩
/-- alive, with k activations that wait -/
def Al (w0 w : World) (p : Nat) (k : Int) : Prop := ∃ s, At w0 w p s ∧ s.X ≠ 16 ∧ s.A = k
theorem wake_al {w0 w : World} {p : Nat} {k : Int} (h : Al w0 w p k) :
    Calls Try.prog 17 #[.pointer (some ⟨p, 0, none⟩)] w fun e w' => ∃ r c, e = .returned (.tuple #[.bool r, .int .i64 c]) ∧ Al w0 w' p k := by
  obtain ⟨s, h, hx, rfl⟩ := h
  refine (wake_at h _ _ _ rfl).mono ?_
  rintro e w1 ⟨rfl, h1⟩
  exact ⟨_, _, rfl, _, h1, (keep_wake hx).1, (keep_wake hx).2⟩
theorem suspend_al {w0 w : World} {p : Nat} {k : Int} (h : Al w0 w p k) :
    Calls Try.prog 19 #[.pointer (some ⟨p, 0, none⟩)] w fun e w' => ∃ c, e = .returned (.int .i64 c) ∧ Al w0 w' p k := by
  obtain ⟨s, h, hx, rfl⟩ := h
  refine (suspend_at h _ _ rfl).mono ?_
  rintro e w1 ⟨rfl, h1⟩
  exact ⟨_, rfl, _, h1, (keep_suspend hx).1, (keep_suspend hx).2⟩
theorem act_al {w0 w : World} {p : Nat} {k : Int} (h : Al w0 w p k) (hk : k < 7) :
    Calls Try.prog 16 #[.pointer (some ⟨p, 0, none⟩)] w fun e w' => ∃ r c, e = .returned (.tuple #[.bool r, .int .i64 c]) ∧ Al w0 w' p (k + 1) := by
  obtain ⟨s, h, hx, rfl⟩ := h
  refine (act_at h { s with A := s.A + 1 } false 0 (by unfold act; rw [if_neg hx, if_neg (by omega)])).mono ?_
  rintro e w1 ⟨rfl, h1⟩
  exact ⟨_, _, rfl, _, h1, hx, rfl⟩
/-- what is left behind a kill -/
def left (k : Int) : St := if k ≤ 0 then ⟨k, 0, 0, 16, false⟩ else ⟨k - 1, 0, 0, 2, false⟩
theorem kill_al {w0 w : World} {p : Nat} {k : Int} (h : Al w0 w p k) (r : Bool) (hr : decide (0 < k) = r) (s' : St) (hs : left k = s') :
    Calls Try.prog 21 #[.pointer (some ⟨p, 0, none⟩)] w fun e w' => e = .returned (.tuple #[.bool r, .int .i64 0]) ∧ At w0 w' p s' := by
  obtain ⟨s, h, hx, rfl⟩ := h
  subst hr hs
  exact kill_at h (left s.A) (decide (0 < s.A)) 0 (if_neg hx)

theorem mod8 {a : Int} (h : 0 ≤ a) : a.tmod 8 = a % 8 := Int.tmod_eq_emod_of_nonneg h

set_option maxHeartbeats 1600000 in
theorem walkS (a0 a1 a2 : Int) (W S A : Nat) (hW : a0.tmod 8 = (W : Int)) (hS : a1.tmod 8 = (S : Int)) (hA7 : a2.tmod 8 = (A : Int)) (lW : W < 8) (lS : S < 8) (lA : A < 8) (w : World) :
    Calls Try.prog 7 #[.int .u8 a0, .int .u8 a1, .int .u8 a2, .bool true] w fun e w' => e = .returned (.bool true) ∧ Below w.heap.size w w' := by
  go_enter Try.func7, Try.ntmps7
  go_wp2_with fail
  refine (known_any w).mono ?_
  rintro e w1 ⟨rfl, hb⟩
  have H0 := Lib.hid hb
  clear hb
  go_wp2_with fail
  refine (new_at w w1 H0.out).mono ?_
  rintro e w2 ⟨p, rfl, h2⟩
  have H2 := Lib.hid h2
  clear h2 H0
  go_wp2_with fail
  refine (act_at H2.out ⟨0, 0, 0, 2, false⟩ true 0 rfl).mono ?_
  rintro e w3 ⟨rfl, h3⟩
  have H3 := Lib.hid h3
  clear h3 H2
  go_wp2_with fail
  refine (sleep_at H3.out ⟨0, 0, 0, 4, true⟩ true 0 rfl).mono ?_
  rintro e w4 ⟨rfl, h4⟩
  have H4 := Lib.hid h4
  clear h4 H3
  have HL : Hid (Al w w4 p 0) := Lib.hid ⟨_, H4.out, by decide, rfl⟩
  clear H4
  go_wp2
  go_loopw [11] (fun i wr => ∃ t : Nat, t ≤ S ∧ i = .int .i64 (t : Int) ∧ Hid (Al w wr p 0)) (fun i _ => S - (intOf i).toNat)
  case atStart => exact ⟨0, by omega, rfl, HL.out⟩
  case round =>
    clear HL
    obtain ⟨t, ht, rfl, HT⟩ := hrel
    by_cases hlt : t < S
    · have i1 : (t : Int) < (S : Int) := by omega
      go_wp2_with fail
      refine (suspend_al HT.out).mono ?_
      rintro e w5 ⟨c5, rfl, h5⟩
      have H5 := Lib.hid h5
      clear h5 HT
      go_wp2
      go_roundw
      case rel => exact ⟨t + 1, by omega, by go_num, H5.out⟩
      case measure => simp [intOf]; omega
    · have i1 : decide ((t : Int) < (S : Int)) = false := by simp; omega
      go_wp2
      go_loopw [13] (fun i wr => ∃ k : Nat, k ≤ A ∧ i = .int .i64 (k : Int) ∧ Hid (Al w wr p (k : Int))) (fun i _ => A - (intOf i).toNat)
      case atStart => exact ⟨0, by omega, rfl, HT.out⟩
      case round =>
        clear HT
        obtain ⟨k, hk, rfl, HK⟩ := hrel
        by_cases hkl : k < A
        · have i2 : (k : Int) < (A : Int) := by omega
          go_wp2_with fail
          refine (act_al HK.out (by omega)).mono ?_
          rintro e w5 ⟨r5, c5, rfl, h5⟩
          have H5 := Lib.hid h5
          clear h5 HK
          go_wp2
          go_roundw
          case rel => exact ⟨k + 1, by omega, by go_num, H5.out⟩
          case measure => simp [intOf]; omega
        · have i2 : decide ((k : Int) < (A : Int)) = false := by simp; omega
          have HA : Hid (Al w wr p (A : Int)) := by
            have e : k = A := by omega
            rw [e] at HK; exact HK
          clear HK
          by_cases hA : 0 < A
          · have g1 : (0 : Int) < (A : Int) := by omega
            have g2 : decide ((0 : Int) < (A : Int)) = true := by simpa using hA
            go_wp2_with fail
            refine (kill_al HA.out true g2 ⟨(A : Int) - 1, 0, 0, 2, false⟩ (if_neg (by omega))).mono ?_
            rintro e w6 ⟨rfl, h6⟩
            obtain ⟨c0, c1, c2, c3, c4⟩ := h6.five
            dsimp only at c0 c1 c2 c3 c4
            have H6 := Lib.hid h6
            clear h6 HA
            go_wp2_with fail
            refine (is_at H6.out 2 true (by simp)).mono ?_
            rintro e w7 ⟨rfl, h7⟩
            obtain ⟨d0, d1, d2, d3, d4⟩ := h7.five
            dsimp only at d0 d1 d2 d3 d4
            have H7 := Lib.hid h7
            clear h7 H6 c0 c1 c2 c3 c4
            go_wp2
            go_ret
            exact ⟨rfl, H7.out.be⟩
          · have g2 : decide ((0 : Int) < (A : Int)) = false := by simpa using hA
            have g3 : decide (0 < A) = false := by simpa using hA
            have HA0 : Hid (Al w wr p 0) := by
              have e : (A : Int) = 0 := by omega
              rw [e] at HA; exact HA
            clear HA
            go_wp2_with fail
            refine (kill_al HA0.out false (by decide) ⟨0, 0, 0, 16, false⟩ rfl).mono ?_
            rintro e w6 ⟨rfl, h6⟩
            obtain ⟨c0, c1, c2, c3, c4⟩ := h6.five
            dsimp only at c0 c1 c2 c3 c4
            have H6 := Lib.hid h6
            clear h6 HA0
            go_wp2_with fail
            refine (is_at H6.out 16 true (by decide)).mono ?_
            rintro e w7 ⟨rfl, h7⟩
            obtain ⟨d0, d1, d2, d3, d4⟩ := h7.five
            dsimp only at d0 d1 d2 d3 d4
            have H7 := Lib.hid h7
            clear h7 H6 c0 c1 c2 c3 c4
            go_wp2
            go_ret
            exact ⟨rfl, H7.out.be⟩

set_option maxHeartbeats 1600000 in
theorem walkW (a0 a1 a2 : Int) (W S A : Nat) (hW : a0.tmod 8 = (W : Int)) (hS : a1.tmod 8 = (S : Int)) (hA7 : a2.tmod 8 = (A : Int)) (lW : W < 8) (lS : S < 8) (lA : A < 8) (w : World) :
    Calls Try.prog 7 #[.int .u8 a0, .int .u8 a1, .int .u8 a2, .bool false] w fun e w' => e = .returned (.bool true) ∧ Below w.heap.size w w' := by
  go_enter Try.func7, Try.ntmps7
  go_wp2_with fail
  refine (known_any w).mono ?_
  rintro e w1 ⟨rfl, hb⟩
  have H0 := Lib.hid hb
  clear hb
  go_wp2_with fail
  refine (new_at w w1 H0.out).mono ?_
  rintro e w2 ⟨p, rfl, h2⟩
  have H2 := Lib.hid h2
  clear h2 H0
  go_wp2_with fail
  refine (act_at H2.out ⟨0, 0, 0, 2, false⟩ true 0 rfl).mono ?_
  rintro e w3 ⟨rfl, h3⟩
  have H3 := Lib.hid h3
  clear h3 H2
  have HL0 : Hid (Al w w3 p 0) := Lib.hid ⟨_, H3.out, by decide, rfl⟩
  clear H3
  go_wp2
  go_loopw [10] (fun i wr => ∃ t : Nat, t ≤ W ∧ i = .int .i64 (t : Int) ∧ Hid (Al w wr p 0)) (fun i _ => W - (intOf i).toNat)
  case atStart => exact ⟨0, by omega, rfl, HL0.out⟩
  case round =>
    clear HL0
    obtain ⟨t, ht, rfl, HT⟩ := hrel
    by_cases hlt : t < W
    · have i1 : (t : Int) < (W : Int) := by omega
      go_wp2_with fail
      refine (wake_al HT.out).mono ?_
      rintro e w5 ⟨r5, c5, rfl, h5⟩
      have H5 := Lib.hid h5
      clear h5 HT
      go_wp2
      go_roundw
      case rel => exact ⟨t + 1, by omega, by go_num, H5.out⟩
      case measure => simp [intOf]; omega
    · have i1 : decide ((t : Int) < (W : Int)) = false := by simp; omega

      have HL : Hid (Al w wr p 0) := HT
      clear HT
      go_wp2
      go_loopw [11] (fun i wr => ∃ t : Nat, t ≤ S ∧ i = .int .i64 (t : Int) ∧ Hid (Al w wr p 0)) (fun i _ => S - (intOf i).toNat)
      case atStart => exact ⟨0, by omega, rfl, HL.out⟩
      case round =>
        clear HL
        obtain ⟨t, ht, rfl, HT⟩ := hrel
        by_cases hlt : t < S
        · have i1 : (t : Int) < (S : Int) := by omega
          go_wp2_with fail
          refine (suspend_al HT.out).mono ?_
          rintro e w5 ⟨c5, rfl, h5⟩
          have H5 := Lib.hid h5
          clear h5 HT
          go_wp2
          go_roundw
          case rel => exact ⟨t + 1, by omega, by go_num, H5.out⟩
          case measure => simp [intOf]; omega
        · have i1 : decide ((t : Int) < (S : Int)) = false := by simp; omega
          go_wp2
          go_loopw [13] (fun i wr => ∃ k : Nat, k ≤ A ∧ i = .int .i64 (k : Int) ∧ Hid (Al w wr p (k : Int))) (fun i _ => A - (intOf i).toNat)
          case atStart => exact ⟨0, by omega, rfl, HT.out⟩
          case round =>
            clear HT
            obtain ⟨k, hk, rfl, HK⟩ := hrel
            by_cases hkl : k < A
            · have i2 : (k : Int) < (A : Int) := by omega
              go_wp2_with fail
              refine (act_al HK.out (by omega)).mono ?_
              rintro e w5 ⟨r5, c5, rfl, h5⟩
              have H5 := Lib.hid h5
              clear h5 HK
              go_wp2
              go_roundw
              case rel => exact ⟨k + 1, by omega, by go_num, H5.out⟩
              case measure => simp [intOf]; omega
            · have i2 : decide ((k : Int) < (A : Int)) = false := by simp; omega
              have HA : Hid (Al w wr p (A : Int)) := by
                have e : k = A := by omega
                rw [e] at HK; exact HK
              clear HK
              by_cases hA : 0 < A
              · have g1 : (0 : Int) < (A : Int) := by omega
                have g2 : decide ((0 : Int) < (A : Int)) = true := by simpa using hA
                go_wp2_with fail
                refine (kill_al HA.out true g2 ⟨(A : Int) - 1, 0, 0, 2, false⟩ (if_neg (by omega))).mono ?_
                rintro e w6 ⟨rfl, h6⟩
                obtain ⟨c0, c1, c2, c3, c4⟩ := h6.five
                dsimp only at c0 c1 c2 c3 c4
                have H6 := Lib.hid h6
                clear h6 HA
                go_wp2_with fail
                refine (is_at H6.out 2 true (by simp)).mono ?_
                rintro e w7 ⟨rfl, h7⟩
                obtain ⟨d0, d1, d2, d3, d4⟩ := h7.five
                dsimp only at d0 d1 d2 d3 d4
                have H7 := Lib.hid h7
                clear h7 H6 c0 c1 c2 c3 c4
                go_wp2
                go_ret
                exact ⟨rfl, H7.out.be⟩
              · have g2 : decide ((0 : Int) < (A : Int)) = false := by simpa using hA
                have g3 : decide (0 < A) = false := by simpa using hA
                have HA0 : Hid (Al w wr p 0) := by
                  have e : (A : Int) = 0 := by omega
                  rw [e] at HA; exact HA
                clear HA
                go_wp2_with fail
                refine (kill_al HA0.out false (by decide) ⟨0, 0, 0, 16, false⟩ rfl).mono ?_
                rintro e w6 ⟨rfl, h6⟩
                obtain ⟨c0, c1, c2, c3, c4⟩ := h6.five
                dsimp only at c0 c1 c2 c3 c4
                have H6 := Lib.hid h6
                clear h6 HA0
                go_wp2_with fail
                refine (is_at H6.out 16 true (by decide)).mono ?_
                rintro e w7 ⟨rfl, h7⟩
                obtain ⟨d0, d1, d2, d3, d4⟩ := h7.five
                dsimp only at d0 d1 d2 d3 d4
                have H7 := Lib.hid h7
                clear h7 H6 c0 c1 c2 c3 c4
                go_wp2
                go_ret
                exact ⟨rfl, H7.out.be⟩


/-! ### the walk -/
theorem walk (a0 : Int) (a1 : Int) (a2 : Int) (a3 : Bool) (w0 : (Lit.int .u8 a0).wf = true) (w1 : (Lit.int .u8 a1).wf = true) (w2 : (Lit.int .u8 a2).wf = true) (w : World) :
    Calls Try.prog 7 #[.int .u8 a0, .int .u8 a1, .int .u8 a2, .bool a3] w fun e w' => e = .returned (.bool true) ∧ Below w.heap.size w w' := by
  obtain ⟨l0, u0⟩ := bounds_u8 w0
  obtain ⟨l1, u1⟩ := bounds_u8 w1
  obtain ⟨l2, u2⟩ := bounds_u8 w2
  obtain ⟨W, hW⟩ : ∃ n : Nat, a0 % 8 = (n : Int) := ⟨(a0 % 8).toNat, by omega⟩
  obtain ⟨S, hS⟩ : ∃ n : Nat, a1 % 8 = (n : Int) := ⟨(a1 % 8).toNat, by omega⟩
  obtain ⟨A, hA⟩ : ∃ n : Nat, a2 % 8 = (n : Int) := ⟨(a2 % 8).toNat, by omega⟩
  cases a3
  · exact walkW a0 a1 a2 W S A (by rw [mod8 l0]; exact hW) (by rw [mod8 l1]; exact hS) (by rw [mod8 l2]; exact hA) (by omega) (by omega) (by omega) w
  · exact walkS a0 a1 a2 W S A (by rw [mod8 l0]; exact hW) (by rw [mod8 l1]; exact hS) (by rw [mod8 l2]; exact hA) (by omega) (by omega) (by omega) w

/-! ### THE ROW's STEP: WRITTEN OUT: LEAVE IT -/
set_option maxRecDepth 100000 in
theorem lifted (os : Os) (started : os.Started) (H : Type) (enc : TypeId × Value → H) :
    ReturnsInHanded {} Try.checked os 7 .any (Rows.taskForgetsSpec.pre6 enc Try.prog Try.f7 Rows.taskForgetsRow.domain false) (Rows.taskForgetsSpec.post enc Try.prog Try.f7 false true false false) := by
  refine returnsInHanded_of_change (C := Try.checked) own started (by kernel_rfl) Try.func7
    (ChangeSpec.witness6 (enc := enc) (C := Try.checked) false ⟨#[], #[.int .u8 0, .int .u8 0, .int .u8 0, .bool false], []⟩ 8 (by kernel_rfl) (by kernel_rfl) (by kernel_rfl) (by kernel_rfl)) ?_
  intro W base args ds gs before hval0 hW hcnd _
  have hval : ∀ (j : Nat) t v, Try.f7.params[j]? = some t → args[j]? = some v → Value.okWide Try.prog W .any base t v := hval0
  have hW' := hW
  obtain ⟨p, q, hA0, hV, rfl, hfz, hnd⟩ := hW
  have hA : DataW.TrodAll enc Try.prog W 0 (fun _ => true) true Try.f7.params.toList args.toList ds p := hA0
  rw [Try.params7] at hA hval
  obtain ⟨v0, vs0, d0, ds0, p0, q0, hargs, rfl, rfl, h0, r0⟩ := trodAll_cons hA
  obtain ⟨v1, vs1, d1, ds1, p1, q1, rfl, rfl, rfl, h1, r1⟩ := trodAll_cons r0
  obtain ⟨v2, vs2, d2, ds2, p2, q2, rfl, rfl, rfl, h2, r2⟩ := trodAll_cons r1
  obtain ⟨v3, vs3, d3, ds3, p3, q3, rfl, rfl, rfl, h3, r3⟩ := trodAll_cons r2
  obtain ⟨rfl, rfl, rfl⟩ := trodAll_nil r3
  obtain rfl : args = #[v0, v1, v2, v3] := by cases args; simp_all
  obtain ⟨rfl, rfl⟩ := trodVars_none hV
  obtain ⟨a0, rfl, rfl, rfl, w0⟩ := open_int Try.underlying5 (hval 0 5 v0 rfl rfl) h0
  obtain ⟨a1, rfl, rfl, rfl, w1⟩ := open_int Try.underlying5 (hval 1 5 v1 rfl rfl) h1
  obtain ⟨a2, rfl, rfl, rfl, w2⟩ := open_int Try.underlying5 (hval 2 5 v2 rfl rfl) h2
  obtain ⟨a3, rfl, rfl, rfl⟩ := open_bool Try.underlying4 (hval 3 4 v3 rfl rfl) h3
  clear hA0 hval0
  simp only [List.append_nil] at hW'
  refine (walk a0 a1 a2 a3 w0 w1 w2 W).mono fun e W' ⟨he, hg⟩ => ?_
  subst he
  exact ⟨_, rfl, _, _, _, [], [], [], hW', (trodAll_cons_mk (shut_bool Try.underlying4 _) trodAll_mk0), (trodAll_cons_mk (shut_int Try.underlying5 w0) (trodAll_cons_mk (shut_int Try.underlying5 w1) (trodAll_cons_mk (shut_int Try.underlying5 w2) (trodAll_cons_mk (shut_bool Try.underlying4 _) trodAll_mk0)))), rfl, hg.frame _, fun h => by cases h⟩

theorem over : Rows.taskForgetsRow.holds Try.pinned (OpenSpec.ofChange Rows.taskForgetsSpec) :=
  OpenClaim.holds_of_wide 7 Try.f7 rfl rfl rfl rfl rfl rfl rfl ⟨rfl, rfl, rfl, rfl, rfl⟩ rfl rfl rfl rfl rfl (by kernel_rfl) Try.func7 (by kernel_rfl)
    (of_decide_eq_true (by kernel_rfl)) (by unfold Func.isWrapper; first | (rw [if_pos (by decide +kernel)]; kernel_rfl) | (rw [if_neg (by decide +kernel)]; exact ⟨rfl, rfl⟩))
    (fun os started H enc _ => lifted os started H enc)

/-- ████ THE STATEMENT ████ -/
theorem proved : Rows.TaskForgetsSaid :=
  over
#print axioms proved
end Go.Proofs.Ytjiiopnlcohilaa.taskForgets
namespace Go.Proofs.Ytjiiopnlcohilaa
theorem taskForgets_holds : Rows.TaskForgetsSaid := taskForgets.proved
end Go.Proofs.Ytjiiopnlcohilaa
