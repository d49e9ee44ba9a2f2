/-
  PROVED: the Go function detentlaw8.ClockRounds returns true for every input, and each argument reads behind the call as it read before (Rows.ClockRoundsSaid). No condition.
-/
import Derived.Test.YtpnhpgdidineaaaRows
import Derived.Test.YtpnhpgdidineaaaCkK
import Derived.WalkKit
import Derived.ProofKit
import Derived.OpenShut
import Derived.ShutString
import Derived.ChangeOld
import Derived.Below
namespace Go.Proofs.Ytpnhpgdidineaaa.clockRounds
open Go.ChangeShapes Go.WideShapes Go.ChangeAt Go.RowKit
open Go.ChangeMaps (open_string shut_string)
set_option linter.unusedVariables false      -- a walk need not use every 'w<i>' (that an integer argument fits its kind)

theorem own : ownKnob Try.prog.godebug = none := by kernel_rfl

set_option maxHeartbeats 800000 in
theorem walkOut (tic b n : Int) (w : World) (h : tic < 1 ∨ 1000 < tic ∨ n < 0 ∨ 100 < n) :
    Calls Try.prog 5 #[.int .i64 tic, .int .u16 b, .int .i64 n] w fun e w' => e = .returned (.bool true) ∧ Below w.heap.size w w' := by
  by_cases h1 : tic < 1
  · clear h
    go_enter Try.func5, Try.ntmps5
    go_wp2_with fail
    refine (known_any w).mono ?_
    rintro e w0 ⟨rfl, hb0⟩
    go_wp2
    go_ret
    exact ⟨rfl, hb0⟩
  by_cases h2 : 1000 < tic
  · clear h
    go_enter Try.func5, Try.ntmps5
    go_wp2_with fail
    refine (known_any w).mono ?_
    rintro e w0 ⟨rfl, hb0⟩
    go_wp2
    go_ret
    exact ⟨rfl, hb0⟩
  by_cases h3 : n < 0
  · clear h
    go_enter Try.func5, Try.ntmps5
    go_wp2_with fail
    refine (known_any w).mono ?_
    rintro e w0 ⟨rfl, hb0⟩
    go_wp2
    go_ret
    exact ⟨rfl, hb0⟩
  · have h4 : 100 < n := by omega
    clear h
    go_enter Try.func5, Try.ntmps5
    go_wp2_with fail
    refine (known_any w).mono ?_
    rintro e w0 ⟨rfl, hb0⟩
    go_wp2
    go_ret
    exact ⟨rfl, hb0⟩

theorem mod_add (a b : Int) : (a % 281474976710656 + b) % 281474976710656 = (a + b) % 281474976710656 := by omega

set_option maxHeartbeats 3200000 in
set_option maxRecDepth 100000 in
theorem walkIn (tic b : Int) (n : Nat) (w : World) (h1 : 1 ≤ tic) (h2 : tic ≤ 1000) (h3 : n ≤ 100) (hb0 : 0 ≤ b) (hb1 : b ≤ 65535) :
    Calls Try.prog 5 #[.int .i64 tic, .int .u16 b, .int .i64 (n : Int)] w fun e w' => e = .returned (.bool true) ∧ Below w.heap.size w w' := by
  have t1 : decide (tic < 1) = false := by simp; omega
  have t2 : decide (1000 < tic) = false := by simp; omega
  have t3 : decide ((n : Int) < 0) = false := by simp
  have t4 : decide ((100 : Int) < (n : Int)) = false := by simp; omega
  have t4' : decide (100 < n) = false := by simp; omega
  obtain ⟨x, hx⟩ : ∃ x : Int, 281474976710656 - b = x := ⟨_, rfl⟩
  have cb : IntKind.u64.wrap b = b := IntWalk.u64_in _ (by omega)
  have cx : IntKind.u64.wrap (281474976710656 - b) = x := by rw [IntWalk.u64_in _ (by omega)]; exact hx
  have hx0 : 0 ≤ x := by omega
  have HX : Hid (281474976710656 - b = x) := hx
  go_enter Try.func5, Try.ntmps5
  go_wp2_with fail
  refine (known_any w).mono ?_
  rintro e w0 ⟨rfl, hb⟩
  have HN := Lib.hid (new_at w w0 hb tic h1 h2)
  clear hb
  go_wp2_with fail
  refine HN.out.mono ?_
  rintro e w1 ⟨c, p, rfl, hk, hb1⟩
  have HT := Lib.hid (tick_at w1 w.heap.size c p p tic 0 0 [] 0 hk (by omega) tic tic (by omega) (by omega) 0 [] [] rfl rfl rfl)
  have HB := Lib.hid hb1
  clear hk hb1 HN
  go_wp2_with fail
  refine HT.out.mono ?_
  rintro e w2 ⟨X2, k2, rfl, _, hk, hb2⟩
  have HS := Lib.hid (set_at w2 w.heap.size c p p tic tic tic [] 0 hk x _ hx0 rfl)
  have HB2 := Lib.hid (HB.out.trans hb2)
  clear hk hb2 HT HB hx
  go_wp2_with fail
  refine HS.out.mono ?_
  rintro e w3 ⟨rfl, hk, hb3⟩
  have HK3 := Lib.hid hk
  have HB3 := Lib.hid (HB2.out.trans hb3)
  clear hk hb3 HS HB2
  go_wp2
  go_loopw [9] (fun i wr => ∃ t : Nat, t ≤ n ∧ i = .int .i64 (t : Int) ∧ Hid (∃ u v : Int, u = ((t : Int) + 1) * tic ∧ v = (x + (t : Int) * tic) % 281474976710656 ∧ Ck wr w.heap.size c p p tic u v [] 0) ∧ Below w.heap.size w wr) (fun i _ => n - (intOf i).toNat)
  case atStart => exact ⟨0, by omega, rfl, ⟨tic, x % 281474976710656, by simp, by simp, HK3.out⟩, HB3.out⟩
  case round =>
    clear HK3 HB3
    obtain ⟨t, ht, rfl, hH, hw⟩ := hrel
    obtain ⟨u, v, hu, hv, hk⟩ := hH.out
    have hP0 : 0 ≤ (t : Int) * tic := Int.mul_nonneg (by omega) (by omega)
    have hP1 : (t : Int) * tic ≤ 100 * 1000 := Int.mul_le_mul (by omega) (by omega) (by omega) (by omega)
    have hu' : u = (t : Int) * tic + tic := by rw [hu, Int.add_mul, Int.one_mul]
    by_cases hlt : t < n
    · have i1 : (t : Int) < (n : Int) := by omega
      have HT := Lib.hid (tick_at wr w.heap.size c p p tic u v [] 0 hk (by omega) (u + tic) _ rfl rfl 0 [] [] rfl rfl rfl)
      have HN : Hid (u + tic = ((t : Int) + 1 + 1) * tic ∧ (v + tic) % 281474976710656 = (x + ((t : Int) + 1) * tic) % 281474976710656) := by
        constructor
        · rw [hu, Int.add_mul ((t : Int) + 1), Int.one_mul]
        · rw [hv, mod_add, Int.add_mul, Int.one_mul, Int.add_assoc]
      clear hk hu hv hP0 hP1 hu' hH
      go_wp2_with fail
      refine HT.out.mono ?_
      rintro e w5 ⟨X5, k5, rfl, _, hk5, hb5⟩
      have HK5 := Lib.hid hk5
      have HB5 := Lib.hid (hw.trans hb5)
      clear hk5 hb5 HT hw
      go_wp2
      go_roundw
      case rel => exact ⟨t + 1, by omega, by go_num, ⟨_, _, by rw [HN.out.1]; simp, by rw [HN.out.2]; simp, HK5.out⟩, HB5.out⟩
      case measure => simp [intOf]; omega
    · have i1 : decide ((t : Int) < (n : Int)) = false := by simp; omega
      have etn : t = n := by omega
      rw [etn] at hv hP0 hP1 hu'
      obtain ⟨P, hP⟩ : ∃ P : Int, (n : Int) * tic = P := ⟨_, rfl⟩
      rw [hP] at hv hP0 hP1 hu'
      have hP2 : ((n : Int) + 1) * tic = P + tic := by rw [Int.add_mul, Int.one_mul, hP]
      have cP : IntKind.i64.wrap ((n : Int) * tic) = P := by rw [hP]; exact IntWalk.i64_in _ (by omega)
      have cP' : wrap64 ((n : Int) * tic) = P := by rw [hP]; unfold wrap64; omega
      have cQ : IntKind.i64.wrap (((n : Int) + 1) * tic) = u := by rw [hP2, hu']; exact IntWalk.i64_in _ (by omega)
      have cQ' : wrap64 (((n : Int) + 1) * tic) = u := by rw [hP2, hu']; unfold wrap64; omega
      have cu : IntKind.u64.wrap u = u := IntWalk.u64_in _ (by omega)
      have cp : IntKind.u64.wrap P = P := IntWalk.u64_in _ (by omega)
      have hx1 : x ≤ 281474976710656 := by have := HX.out; omega
      have cs : IntKind.u64.wrap (x + P) = x + P := IntWalk.u64_in _ (by omega)
      have cv : (x + P).tmod 281474976710656 = v := by rw [Int.tmod_eq_emod_of_nonneg (by omega)]; exact hv.symm
      have HNW := Lib.hid (now_any wr w.heap.size c p p tic u v [] 0 hk)
      have HUP := Lib.hid (up_any wr w.heap.size c p p tic u v [] 0 hk)
      clear hk hu hu' hv hP0 hP1 hH hP hP2 etn hx0 hx1
      go_wp2_with fail
      refine HNW.out.mono ?_
      rintro e w5 ⟨rfl, rfl⟩
      go_wp2_with fail
      refine HUP.out.mono ?_
      rintro e w5 ⟨rfl, rfl⟩
      go_wp2
      go_ret
      exact ⟨by first | rfl | simp, hw⟩


/-! ### the walk -/
theorem walk (a0 : Int) (a1 : Int) (a2 : Int) (w0 : (Lit.int .i64 a0).wf = true) (w1 : (Lit.int .u16 a1).wf = true) (w2 : (Lit.int .i64 a2).wf = true) (w : World) :
    Calls Try.prog 5 #[.int .i64 a0, .int .u16 a1, .int .i64 a2] w fun e w' => e = .returned (.bool true) ∧ Below w.heap.size w w' := by
  obtain ⟨u0, u1⟩ := bounds_u16 w1
  by_cases h : a0 < 1 ∨ 1000 < a0 ∨ a2 < 0 ∨ 100 < a2
  · exact walkOut a0 a1 a2 w h
  · obtain ⟨n, rfl⟩ : ∃ n : Nat, a2 = (n : Int) := ⟨a2.toNat, by omega⟩
    exact walkIn a0 a1 n w (by omega) (by omega) (by omega) u0 u1

/-! ### THE ROW's STEP: WRITTEN OUT: LEAVE IT -/
set_option maxRecDepth 100000 in
theorem lifted (os : Os) (started : os.Started) (H : Type) (enc : TypeId × Value → H) :
    ReturnsInHanded {} Try.checked os 5 .any (Rows.clockRoundsSpec.pre6 enc Try.prog Try.f5 Rows.clockRoundsRow.domain false) (Rows.clockRoundsSpec.post enc Try.prog Try.f5 false true false false) := by
  refine returnsInHanded_of_change (C := Try.checked) own started (by kernel_rfl) Try.func5
    (ChangeSpec.witness6 (enc := enc) (C := Try.checked) false ⟨#[], #[.int .i64 0, .int .u16 0, .int .i64 0], []⟩ 8 (by kernel_rfl) (by kernel_rfl) (by kernel_rfl) (by kernel_rfl)) ?_
  intro W base args ds gs before hval0 hW hcnd _
  have hval : ∀ (j : Nat) t v, Try.f5.params[j]? = some t → args[j]? = some v → Value.okWide Try.prog W .any base t v := hval0
  have hW' := hW
  obtain ⟨p, q, hA0, hV, rfl, hfz, hnd⟩ := hW
  have hA : DataW.TrodAll enc Try.prog W 0 (fun _ => true) true Try.f5.params.toList args.toList ds p := hA0
  rw [Try.params5] at hA hval
  obtain ⟨v0, vs0, d0, ds0, p0, q0, hargs, rfl, rfl, h0, r0⟩ := trodAll_cons hA
  obtain ⟨v1, vs1, d1, ds1, p1, q1, rfl, rfl, rfl, h1, r1⟩ := trodAll_cons r0
  obtain ⟨v2, vs2, d2, ds2, p2, q2, rfl, rfl, rfl, h2, r2⟩ := trodAll_cons r1
  obtain ⟨rfl, rfl, rfl⟩ := trodAll_nil r2
  obtain rfl : args = #[v0, v1, v2] := by cases args; simp_all
  obtain ⟨rfl, rfl⟩ := trodVars_none hV
  obtain ⟨a0, rfl, rfl, rfl, w0⟩ := open_int Try.underlying3 (hval 0 3 v0 rfl rfl) h0
  obtain ⟨a1, rfl, rfl, rfl, w1⟩ := open_int Try.underlying55 (hval 1 55 v1 rfl rfl) h1
  obtain ⟨a2, rfl, rfl, rfl, w2⟩ := open_int Try.underlying3 (hval 2 3 v2 rfl rfl) h2
  clear hA0 hval0
  simp only [List.append_nil] at hW'
  refine (walk a0 a1 a2 w0 w1 w2 W).mono fun e W' ⟨he, hg⟩ => ?_
  subst he
  exact ⟨_, rfl, _, _, _, [], [], [], hW', (trodAll_cons_mk (shut_bool Try.underlying4 _) trodAll_mk0), (trodAll_cons_mk (shut_int Try.underlying3 w0) (trodAll_cons_mk (shut_int Try.underlying55 w1) (trodAll_cons_mk (shut_int Try.underlying3 w2) trodAll_mk0))), rfl, hg.frame _, fun h => by cases h⟩

theorem over : Rows.clockRoundsRow.holds Try.pinned (OpenSpec.ofChange Rows.clockRoundsSpec) :=
  OpenClaim.holds_of_wide 5 Try.f5 rfl rfl rfl rfl rfl rfl rfl ⟨rfl, rfl, rfl, rfl, rfl⟩ rfl rfl rfl rfl rfl (by kernel_rfl) Try.func5 (by kernel_rfl)
    (of_decide_eq_true (by kernel_rfl)) (by unfold Func.isWrapper; first | (rw [if_pos (by decide +kernel)]; kernel_rfl) | (rw [if_neg (by decide +kernel)]; exact ⟨rfl, rfl⟩))
    (fun os started H enc _ => lifted os started H enc)

/-- ████ THE STATEMENT ████ -/
theorem proved : Rows.ClockRoundsSaid :=
  over
#print axioms proved
end Go.Proofs.Ytpnhpgdidineaaa.clockRounds
namespace Go.Proofs.Ytpnhpgdidineaaa
theorem clockRounds_holds : Rows.ClockRoundsSaid := clockRounds.proved
end Go.Proofs.Ytpnhpgdidineaaa
