/-
  PROVED: the Go function detentlaw1.TimesTicked returns true for every input, and each argument reads behind the call as it read before (Rows.TimesTickedSaid). No condition.
-/
import Derived.Test.YthmimbcdcbbaiaaRows
import Derived.Test.YthmimbcdcbbaiaaConK
import Derived.WalkKit
import Derived.ProofKit
import Derived.OpenShut
import Derived.ShutString
namespace Go.Proofs.Ythmimbcdcbbaiaa.timesTicked
open Go.ChangeShapes Go.WideShapes Go.ChangeAt Go.RowKit
open Go.ChangeMaps (open_string shut_string)
set_option linter.unusedVariables false      -- a walk need not use every 'w<i>' (that an integer argument fits its kind)

theorem own : ownKnob Try.prog.godebug = none := by kernel_rfl

theorem t1 (d b : Int) (h0 : 0 ≤ d) (h1 : d ≤ 4294967295) (hb : 0 < b) (hb2 : b ≤ 65535) :
    0 ≤ M.ticksZ d b ∧ M.ticksZ d b ≤ 4294967295 ∧ d ≤ M.ticksZ d b * b ∧ M.ticksZ d b * b ≤ 4295032830 ∧ (M.ticksZ d b = 0 ∨ (1 ≤ M.ticksZ d b ∧ (M.ticksZ d b - 1) * b < d)) := by
  unfold M.ticksZ; rw [if_neg (by omega)]
  have l := M.align_low d b (by omega)
  have l1 : 0 ≤ (d + b - 1) / b := Int.ediv_nonneg (by omega) (by omega)
  refine ⟨l1, ?_, l.1, by omega, ?_⟩
  · by_cases hd : d = 0
    · subst hd
      have : (0 + b - 1) / b = 0 := Int.ediv_eq_zero_of_lt (by omega) (by omega)
      omega
    · have : (d + b - 1) / b * 1 ≤ (d + b - 1) / b * b := Int.mul_le_mul_of_nonneg_left (by omega) l1
      have h2 : (d + b - 1) / b ≤ d := by
        rw [show d + b - 1 = (d - 1) + b * 1 from by omega, Int.add_mul_ediv_left _ _ (by omega)]
        have := Int.ediv_le_self b (show 0 ≤ d - 1 by omega)
        omega
      omega
  · by_cases hz : (d + b - 1) / b = 0
    · exact .inl hz
    · refine .inr ⟨by omega, ?_⟩
      rw [Int.sub_mul]; omega

/-! ### STEP 1: THE WALK: the Go text returns true. 'Grown w w'': the world has at most new blocks (Derived/RowKit3.lean). Part the cases AHEAD of 'go_enter' where a test parts the walk; take each callee by a contract of your own. -/
theorem walk (a0 : Int) (a1 : Int) (w0 : (Lit.int .u32 a0).wf = true) (w1 : (Lit.int .u16 a1).wf = true) (w : World) :
    Calls Try.prog 8 #[.int .u32 a0, .int .u16 a1] w fun e w' => e = .returned (.bool true) ∧ Grown w w' := by
  have b0 := bounds_u32 w0
  have b1 := bounds_u16 w1
  by_cases hz : a1 = 0
  · subst hz
    go_enter Try.func8, Try.ntmps8
    go_wp2_with fail
    refine (known_any _).mono ?_; rintro e w1 ⟨rfl, hg, _⟩
    go_wp2_with fail
    refine (ticks_any _ _ _ (by omega) (by omega) (by omega) (M.ticks_zero a0) _).mono ?_; rintro e w' ⟨rfl, rfl⟩
    go_wp2
    go_ret
    exact ⟨rfl, hg⟩
  · have hz' : (a1 == 0) = false := by simpa using hz
    obtain ⟨q0, q1, q2, q3, q4⟩ := t1 a0 a1 (by omega) (by omega) (by omega) (by omega)
    generalize hq : M.ticksZ a0 a1 = q at q0 q1 q2 q3 q4
    have HQ := Lib.hid hq
    clear hq
    rcases q4 with rfl | ⟨q4, q5⟩
    · go_enter Try.func8, Try.ntmps8
      go_wp2_with fail
      refine (known_any _).mono ?_; rintro e w1 ⟨rfl, hg, _⟩
      go_wp2_with fail
      refine (ticks_any _ _ _ (by omega) (by omega) (by omega) HQ.out _).mono ?_; rintro e w' ⟨rfl, rfl⟩
      go_wp2
      go_ret
      exact ⟨rfl, hg⟩
    · have q6 : (q == 0) = false := by simp; omega
      have q7 : 0 ≤ (q - 1) * a1 := Int.mul_nonneg (by omega) (by omega)
      have q8 : (q - 1) * a1 ≤ 4294967295 := by omega
      go_enter Try.func8, Try.ntmps8
      go_wp2_with fail
      refine (known_any _).mono ?_; rintro e w1 ⟨rfl, hg, _⟩
      go_wp2_with fail
      refine (ticks_any _ _ _ (by omega) (by omega) (by omega) HQ.out _).mono ?_; rintro e w' ⟨rfl, rfl⟩
      go_wp2
      go_ret
      exact ⟨rfl, hg⟩

/-! ### THE ROW's STEP: WRITTEN OUT: LEAVE IT -/
set_option maxRecDepth 100000 in
theorem lifted (os : Os) (started : os.Started) (H : Type) (enc : TypeId × Value → H) :
    ReturnsInHanded {} Try.checked os 8 .any (Rows.timesTickedSpec.pre6 enc Try.prog Try.f8 Rows.timesTickedRow.domain false) (Rows.timesTickedSpec.post enc Try.prog Try.f8 false true false false) := by
  refine returnsInHanded_of_change (C := Try.checked) own started (by kernel_rfl) Try.func8
    (ChangeSpec.witness6 (enc := enc) (C := Try.checked) false ⟨#[], #[.int .u32 0, .int .u16 0], []⟩ 8 (by kernel_rfl) (by kernel_rfl) (by kernel_rfl) (by kernel_rfl)) ?_
  intro W base args ds gs before hval0 hW hcnd _
  have hval : ∀ (j : Nat) t v, Try.f8.params[j]? = some t → args[j]? = some v → Value.okWide Try.prog W .any base t v := hval0
  have hW' := hW
  obtain ⟨p, q, hA0, hV, rfl, hfz, hnd⟩ := hW
  have hA : DataW.TrodAll enc Try.prog W 0 (fun _ => true) true Try.f8.params.toList args.toList ds p := hA0
  rw [Try.params8] at hA hval
  obtain ⟨v0, vs0, d0, ds0, p0, q0, hargs, rfl, rfl, h0, r0⟩ := trodAll_cons hA
  obtain ⟨v1, vs1, d1, ds1, p1, q1, rfl, rfl, rfl, h1, r1⟩ := trodAll_cons r0
  obtain ⟨rfl, rfl, rfl⟩ := trodAll_nil r1
  obtain rfl : args = #[v0, v1] := by cases args; simp_all
  obtain ⟨rfl, rfl⟩ := trodVars_none hV
  obtain ⟨a0, rfl, rfl, rfl, w0⟩ := open_int Try.underlying28 (hval 0 28 v0 rfl rfl) h0
  obtain ⟨a1, rfl, rfl, rfl, w1⟩ := open_int Try.underlying41 (hval 1 41 v1 rfl rfl) h1
  clear hA0 hval0
  simp only [List.append_nil] at hW'
  refine (walk a0 a1 w0 w1 W).mono fun e W' ⟨he, hg⟩ => ?_
  subst he
  exact ⟨_, rfl, post_of_same (pa := []) (pv := []) hW' (fun _ _ _ => (trodAll_cons_mk (shut_bool Try.underlying4 _) trodAll_mk0)) (fun sp _ => (trodAll_cons_mk (shut_int Try.underlying28 w0) (trodAll_cons_mk (shut_int Try.underlying41 w1) trodAll_mk0))) (fun _ _ => rfl) rfl
    (hg.frame _) hg.2.1 (ok_one (by kernel_rfl) rfl (okWide_bool_mk Try.underlying4 _))⟩

theorem over : Rows.timesTickedRow.holds Try.pinned (OpenSpec.ofChange Rows.timesTickedSpec) :=
  OpenClaim.holds_of_wide 8 Try.f8 rfl rfl rfl rfl rfl rfl rfl ⟨rfl, rfl, rfl, rfl, rfl⟩ rfl rfl rfl rfl rfl (by kernel_rfl) Try.func8 (by kernel_rfl)
    (of_decide_eq_true (by kernel_rfl)) (by unfold Func.isWrapper; first | (rw [if_pos (by decide +kernel)]; kernel_rfl) | (rw [if_neg (by decide +kernel)]; exact ⟨rfl, rfl⟩))
    (fun os started H enc _ => lifted os started H enc)

/-- ████ THE STATEMENT ████ -/
theorem proved : Rows.TimesTickedSaid :=
  over
#print axioms proved
end Go.Proofs.Ythmimbcdcbbaiaa.timesTicked
namespace Go.Proofs.Ythmimbcdcbbaiaa
theorem timesTicked_holds : Rows.TimesTickedSaid := timesTicked.proved
end Go.Proofs.Ythmimbcdcbbaiaa
