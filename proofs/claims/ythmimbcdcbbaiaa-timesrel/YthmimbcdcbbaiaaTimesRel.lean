/-
  PROVED: the Go function detentlaw1.TimesRel returns true for every input, and each argument reads behind the call as it read before (Rows.TimesRelSaid). No condition.
-/
import Derived.Test.YthmimbcdcbbaiaaRows
import Derived.Test.YthmimbcdcbbaiaaConK
import Derived.WalkKit
import Derived.ProofKit
import Derived.OpenShut
import Derived.ShutString
namespace Go.Proofs.Ythmimbcdcbbaiaa.timesRel
open Go.ChangeShapes Go.WideShapes Go.ChangeAt Go.RowKit
open Go.ChangeMaps (open_string shut_string)
set_option linter.unusedVariables false      -- a walk need not use every 'w<i>' (that an integer argument fits its kind)

theorem own : ownKnob Try.prog.godebug = none := by kernel_rfl

theorem in_ok (d u tic n a : Int) (r q : Int) (hu0 : 0 ≤ u) (hu1 : u ≤ 18446744073709551615) (ht : 0 ≤ tic)
    (hrel : ∀ w, Calls Try.prog 17 #[.int .i64 d] w fun e w' => e = .returned (.tuple #[.int .u64 r, .int .i64 q]) ∧ w = w')
    (hrrel : ∀ w, Calls Try.prog 18 #[.int .i64 d] w fun e w' => e = .returned (.tuple #[.int .u64 r, .int .i64 q]) ∧ w = w')
    (h0 : 0 ≤ n) (h1 : n ≤ 1073741824) (h2 : 1 ≤ a) (h3 : a ≤ 4096) (w : World) :
    Calls Try.prog 5 #[.int .i64 d, .int .u64 u, .int .u64 tic, .int .i64 n, .int .i64 a] w fun e w' => e = .returned (.bool true) ∧ Grown w w' := by
  obtain ⟨m1, m2, m3⟩ := M.align_in n a h0 h1 h2 h3
  generalize hm : M.alignZ n a = m at m1 m2 m3
  have HM := Lib.hid hm
  have HR := Lib.hid hrel
  have HRR := Lib.hid hrrel
  have HU := Lib.hid hu1
  have m4 : (m % a == 0) = true := by simpa using m3
  have m5 : ¬ a = 0 := by omega
  clear hm hrel hrrel hu1 m3
  go_enter Try.func5, Try.ntmps5
  go_wp2_with fail
  refine (known_any _).mono ?_; rintro e w1 ⟨rfl, hg, _⟩
  go_wp2_with fail
  refine (HR.out _).mono ?_; rintro e w' ⟨rfl, rfl⟩
  go_wp2_with fail
  refine (HRR.out _).mono ?_; rintro e w' ⟨rfl, rfl⟩
  go_wp2_with fail
  refine (ticks_any _ _ _ hu0 HU.out ht rfl _).mono ?_; rintro e w' ⟨rfl, rfl⟩
  go_wp2_with fail
  refine (align_any _ _ _ HM.out _).mono ?_; rintro e w' ⟨rfl, rfl⟩
  go_wp2_with fail
  refine (rticks_any _ _ _ hu0 HU.out ht rfl _).mono ?_; rintro e w' ⟨rfl, rfl⟩
  go_wp2_with fail
  refine (ralign_any _ _ _ HM.out _).mono ?_; rintro e w' ⟨rfl, rfl⟩
  go_wp2
  go_ret
  exact ⟨rfl, hg⟩
theorem out_1 (d u tic n a : Int) (r q : Int) (hu0 : 0 ≤ u) (hu1 : u ≤ 18446744073709551615) (ht : 0 ≤ tic)
    (hrel : ∀ w, Calls Try.prog 17 #[.int .i64 d] w fun e w' => e = .returned (.tuple #[.int .u64 r, .int .i64 q]) ∧ w = w')
    (hrrel : ∀ w, Calls Try.prog 18 #[.int .i64 d] w fun e w' => e = .returned (.tuple #[.int .u64 r, .int .i64 q]) ∧ w = w')
    (c1 : n < 0) (w : World) :
    Calls Try.prog 5 #[.int .i64 d, .int .u64 u, .int .u64 tic, .int .i64 n, .int .i64 a] w fun e w' => e = .returned (.bool true) ∧ Grown w w' := by
  have HM := Lib.hid (M.align_out n a (by omega))
  have HR := Lib.hid hrel
  have HRR := Lib.hid hrrel
  have HU := Lib.hid hu1
  clear hrel hrrel hu1
  go_enter Try.func5, Try.ntmps5
  go_wp2_with fail
  refine (known_any _).mono ?_; rintro e w1 ⟨rfl, hg, _⟩
  go_wp2_with fail
  refine (HR.out _).mono ?_; rintro e w' ⟨rfl, rfl⟩
  go_wp2_with fail
  refine (HRR.out _).mono ?_; rintro e w' ⟨rfl, rfl⟩
  go_wp2_with fail
  refine (ticks_any _ _ _ hu0 HU.out ht rfl _).mono ?_; rintro e w' ⟨rfl, rfl⟩
  go_wp2_with fail
  refine (align_any _ _ _ HM.out _).mono ?_; rintro e w' ⟨rfl, rfl⟩
  go_wp2_with fail
  refine (rticks_any _ _ _ hu0 HU.out ht rfl _).mono ?_; rintro e w' ⟨rfl, rfl⟩
  go_wp2_with fail
  refine (ralign_any _ _ _ HM.out _).mono ?_; rintro e w' ⟨rfl, rfl⟩
  go_wp2
  go_ret
  exact ⟨rfl, hg⟩
theorem out_2 (d u tic n a : Int) (r q : Int) (hu0 : 0 ≤ u) (hu1 : u ≤ 18446744073709551615) (ht : 0 ≤ tic)
    (hrel : ∀ w, Calls Try.prog 17 #[.int .i64 d] w fun e w' => e = .returned (.tuple #[.int .u64 r, .int .i64 q]) ∧ w = w')
    (hrrel : ∀ w, Calls Try.prog 18 #[.int .i64 d] w fun e w' => e = .returned (.tuple #[.int .u64 r, .int .i64 q]) ∧ w = w')
    (c0 : 0 ≤ n) (c1 : 1073741824 < n) (w : World) :
    Calls Try.prog 5 #[.int .i64 d, .int .u64 u, .int .u64 tic, .int .i64 n, .int .i64 a] w fun e w' => e = .returned (.bool true) ∧ Grown w w' := by
  have HM := Lib.hid (M.align_out n a (by omega))
  have HR := Lib.hid hrel
  have HRR := Lib.hid hrrel
  have HU := Lib.hid hu1
  clear hrel hrrel hu1
  go_enter Try.func5, Try.ntmps5
  go_wp2_with fail
  refine (known_any _).mono ?_; rintro e w1 ⟨rfl, hg, _⟩
  go_wp2_with fail
  refine (HR.out _).mono ?_; rintro e w' ⟨rfl, rfl⟩
  go_wp2_with fail
  refine (HRR.out _).mono ?_; rintro e w' ⟨rfl, rfl⟩
  go_wp2_with fail
  refine (ticks_any _ _ _ hu0 HU.out ht rfl _).mono ?_; rintro e w' ⟨rfl, rfl⟩
  go_wp2_with fail
  refine (align_any _ _ _ HM.out _).mono ?_; rintro e w' ⟨rfl, rfl⟩
  go_wp2_with fail
  refine (rticks_any _ _ _ hu0 HU.out ht rfl _).mono ?_; rintro e w' ⟨rfl, rfl⟩
  go_wp2_with fail
  refine (ralign_any _ _ _ HM.out _).mono ?_; rintro e w' ⟨rfl, rfl⟩
  go_wp2
  go_ret
  exact ⟨rfl, hg⟩
theorem out_3 (d u tic n a : Int) (r q : Int) (hu0 : 0 ≤ u) (hu1 : u ≤ 18446744073709551615) (ht : 0 ≤ tic)
    (hrel : ∀ w, Calls Try.prog 17 #[.int .i64 d] w fun e w' => e = .returned (.tuple #[.int .u64 r, .int .i64 q]) ∧ w = w')
    (hrrel : ∀ w, Calls Try.prog 18 #[.int .i64 d] w fun e w' => e = .returned (.tuple #[.int .u64 r, .int .i64 q]) ∧ w = w')
    (c0 : 0 ≤ n) (c1 : n ≤ 1073741824) (c2 : a < 1) (w : World) :
    Calls Try.prog 5 #[.int .i64 d, .int .u64 u, .int .u64 tic, .int .i64 n, .int .i64 a] w fun e w' => e = .returned (.bool true) ∧ Grown w w' := by
  have HM := Lib.hid (M.align_out n a (by omega))
  have HR := Lib.hid hrel
  have HRR := Lib.hid hrrel
  have HU := Lib.hid hu1
  clear hrel hrrel hu1
  go_enter Try.func5, Try.ntmps5
  go_wp2_with fail
  refine (known_any _).mono ?_; rintro e w1 ⟨rfl, hg, _⟩
  go_wp2_with fail
  refine (HR.out _).mono ?_; rintro e w' ⟨rfl, rfl⟩
  go_wp2_with fail
  refine (HRR.out _).mono ?_; rintro e w' ⟨rfl, rfl⟩
  go_wp2_with fail
  refine (ticks_any _ _ _ hu0 HU.out ht rfl _).mono ?_; rintro e w' ⟨rfl, rfl⟩
  go_wp2_with fail
  refine (align_any _ _ _ HM.out _).mono ?_; rintro e w' ⟨rfl, rfl⟩
  go_wp2_with fail
  refine (rticks_any _ _ _ hu0 HU.out ht rfl _).mono ?_; rintro e w' ⟨rfl, rfl⟩
  go_wp2_with fail
  refine (ralign_any _ _ _ HM.out _).mono ?_; rintro e w' ⟨rfl, rfl⟩
  go_wp2
  go_ret
  exact ⟨rfl, hg⟩
theorem out_4 (d u tic n a : Int) (r q : Int) (hu0 : 0 ≤ u) (hu1 : u ≤ 18446744073709551615) (ht : 0 ≤ tic)
    (hrel : ∀ w, Calls Try.prog 17 #[.int .i64 d] w fun e w' => e = .returned (.tuple #[.int .u64 r, .int .i64 q]) ∧ w = w')
    (hrrel : ∀ w, Calls Try.prog 18 #[.int .i64 d] w fun e w' => e = .returned (.tuple #[.int .u64 r, .int .i64 q]) ∧ w = w')
    (c0 : 0 ≤ n) (c1 : n ≤ 1073741824) (c2 : 1 ≤ a) (c3 : 4096 < a) (w : World) :
    Calls Try.prog 5 #[.int .i64 d, .int .u64 u, .int .u64 tic, .int .i64 n, .int .i64 a] w fun e w' => e = .returned (.bool true) ∧ Grown w w' := by
  have HM := Lib.hid (M.align_out n a (by omega))
  have HR := Lib.hid hrel
  have HRR := Lib.hid hrrel
  have HU := Lib.hid hu1
  clear hrel hrrel hu1
  go_enter Try.func5, Try.ntmps5
  go_wp2_with fail
  refine (known_any _).mono ?_; rintro e w1 ⟨rfl, hg, _⟩
  go_wp2_with fail
  refine (HR.out _).mono ?_; rintro e w' ⟨rfl, rfl⟩
  go_wp2_with fail
  refine (HRR.out _).mono ?_; rintro e w' ⟨rfl, rfl⟩
  go_wp2_with fail
  refine (ticks_any _ _ _ hu0 HU.out ht rfl _).mono ?_; rintro e w' ⟨rfl, rfl⟩
  go_wp2_with fail
  refine (align_any _ _ _ HM.out _).mono ?_; rintro e w' ⟨rfl, rfl⟩
  go_wp2_with fail
  refine (rticks_any _ _ _ hu0 HU.out ht rfl _).mono ?_; rintro e w' ⟨rfl, rfl⟩
  go_wp2_with fail
  refine (ralign_any _ _ _ HM.out _).mono ?_; rintro e w' ⟨rfl, rfl⟩
  go_wp2
  go_ret
  exact ⟨rfl, hg⟩
theorem all (d u tic n a : Int) (r q : Int) (hu0 : 0 ≤ u) (hu1 : u ≤ 18446744073709551615) (ht : 0 ≤ tic)
    (hrel : ∀ w, Calls Try.prog 17 #[.int .i64 d] w fun e w' => e = .returned (.tuple #[.int .u64 r, .int .i64 q]) ∧ w = w')
    (hrrel : ∀ w, Calls Try.prog 18 #[.int .i64 d] w fun e w' => e = .returned (.tuple #[.int .u64 r, .int .i64 q]) ∧ w = w') (w : World) :
    Calls Try.prog 5 #[.int .i64 d, .int .u64 u, .int .u64 tic, .int .i64 n, .int .i64 a] w fun e w' => e = .returned (.bool true) ∧ Grown w w' := by
  by_cases c1 : n < 0
  · exact out_1 d u tic n a r q hu0 hu1 ht hrel hrrel c1 w
  by_cases c2 : 1073741824 < n
  · exact out_2 d u tic n a r q hu0 hu1 ht hrel hrrel (by omega) c2 w
  by_cases c3 : a < 1
  · exact out_3 d u tic n a r q hu0 hu1 ht hrel hrrel (by omega) (by omega) c3 w
  by_cases c4 : 4096 < a
  · exact out_4 d u tic n a r q hu0 hu1 ht hrel hrrel (by omega) (by omega) (by omega) c4 w
  exact in_ok d u tic n a r q hu0 hu1 ht hrel hrrel (by omega) (by omega) (by omega) (by omega) w

/-! ### STEP 1: THE WALK: the Go text returns true. 'Grown w w'': the world has at most new blocks (Derived/RowKit3.lean). Part the cases AHEAD of 'go_enter' where a test parts the walk; take each callee by a contract of your own. -/
theorem walk (a0 : Int) (a1 : Int) (a2 : Int) (a3 : Int) (a4 : Int) (w0 : (Lit.int .i64 a0).wf = true) (w1 : (Lit.int .u64 a1).wf = true) (w2 : (Lit.int .u64 a2).wf = true) (w3 : (Lit.int .i64 a3).wf = true) (w4 : (Lit.int .i64 a4).wf = true) (w : World) :
    Calls Try.prog 5 #[.int .i64 a0, .int .u64 a1, .int .u64 a2, .int .i64 a3, .int .i64 a4] w fun e w' => e = .returned (.bool true) ∧ Grown w w' := by
  have b1 := bounds_u64 w1
  have b2 := (bounds_u64 w2).1
  by_cases c1 : a0 < 0
  · exact all a0 a1 a2 a3 a4 0 (-17) b1.1 b1.2 b2 (rel_low a0 c1) (rrel_low a0 c1) w
  by_cases c2 : 2147483647 < a0
  · exact all a0 a1 a2 a3 a4 0 (-17) b1.1 b1.2 b2 (rel_high a0 c2) (rrel_high a0 c2) w
  exact all a0 a1 a2 a3 a4 a0 0 b1.1 b1.2 b2 (rel_ok a0 (by omega) (by omega)) (rrel_ok a0 (by omega) (by omega)) w

/-! ### THE ROW's STEP: WRITTEN OUT: LEAVE IT -/
set_option maxRecDepth 100000 in
theorem lifted (os : Os) (started : os.Started) (H : Type) (enc : TypeId × Value → H) :
    ReturnsInHanded {} Try.checked os 5 .any (Rows.timesRelSpec.pre6 enc Try.prog Try.f5 Rows.timesRelRow.domain false) (Rows.timesRelSpec.post enc Try.prog Try.f5 false true false false) := by
  refine returnsInHanded_of_change (C := Try.checked) own started (by kernel_rfl) Try.func5
    (ChangeSpec.witness6 (enc := enc) (C := Try.checked) false ⟨#[], #[.int .i64 0, .int .u64 0, .int .u64 0, .int .i64 0, .int .i64 0], []⟩ 8 (by kernel_rfl) (by kernel_rfl) (by kernel_rfl) (by kernel_rfl)) ?_
  intro W base args ds gs before hval0 hW hcnd _
  have hval : ∀ (j : Nat) t v, Try.f5.params[j]? = some t → args[j]? = some v → Value.okWide Try.prog W .any base t v := hval0
  have hW' := hW
  obtain ⟨p, q, hA0, hV, rfl, hfz, hnd⟩ := hW
  have hA : DataW.TrodAll enc Try.prog W 0 (fun _ => true) true Try.f5.params.toList args.toList ds p := hA0
  rw [Try.params5] at hA hval
  obtain ⟨v0, vs0, d0, ds0, p0, q0, hargs, rfl, rfl, h0, r0⟩ := trodAll_cons hA
  obtain ⟨v1, vs1, d1, ds1, p1, q1, rfl, rfl, rfl, h1, r1⟩ := trodAll_cons r0
  obtain ⟨v2, vs2, d2, ds2, p2, q2, rfl, rfl, rfl, h2, r2⟩ := trodAll_cons r1
  obtain ⟨v3, vs3, d3, ds3, p3, q3, rfl, rfl, rfl, h3, r3⟩ := trodAll_cons r2
  obtain ⟨v4, vs4, d4, ds4, p4, q4, rfl, rfl, rfl, h4, r4⟩ := trodAll_cons r3
  obtain ⟨rfl, rfl, rfl⟩ := trodAll_nil r4
  obtain rfl : args = #[v0, v1, v2, v3, v4] := by cases args; simp_all
  obtain ⟨rfl, rfl⟩ := trodVars_none hV
  obtain ⟨a0, rfl, rfl, rfl, w0⟩ := open_int Try.underlying2 (hval 0 2 v0 rfl rfl) h0
  obtain ⟨a1, rfl, rfl, rfl, w1⟩ := open_int Try.underlying22 (hval 1 22 v1 rfl rfl) h1
  obtain ⟨a2, rfl, rfl, rfl, w2⟩ := open_int Try.underlying22 (hval 2 22 v2 rfl rfl) h2
  obtain ⟨a3, rfl, rfl, rfl, w3⟩ := open_int Try.underlying3 (hval 3 3 v3 rfl rfl) h3
  obtain ⟨a4, rfl, rfl, rfl, w4⟩ := open_int Try.underlying3 (hval 4 3 v4 rfl rfl) h4
  clear hA0 hval0
  simp only [List.append_nil] at hW'
  refine (walk a0 a1 a2 a3 a4 w0 w1 w2 w3 w4 W).mono fun e W' ⟨he, hg⟩ => ?_
  subst he
  exact ⟨_, rfl, post_of_same (pa := []) (pv := []) hW' (fun _ _ _ => (trodAll_cons_mk (shut_bool Try.underlying4 _) trodAll_mk0)) (fun sp _ => (trodAll_cons_mk (shut_int Try.underlying2 w0) (trodAll_cons_mk (shut_int Try.underlying22 w1) (trodAll_cons_mk (shut_int Try.underlying22 w2) (trodAll_cons_mk (shut_int Try.underlying3 w3) (trodAll_cons_mk (shut_int Try.underlying3 w4) trodAll_mk0)))))) (fun _ _ => rfl) rfl
    (hg.frame _) hg.2.1 (ok_one (by kernel_rfl) rfl (okWide_bool_mk Try.underlying4 _))⟩

theorem over : Rows.timesRelRow.holds Try.pinned (OpenSpec.ofChange Rows.timesRelSpec) :=
  OpenClaim.holds_of_wide 5 Try.f5 rfl rfl rfl rfl rfl rfl rfl ⟨rfl, rfl, rfl, rfl, rfl⟩ rfl rfl rfl rfl rfl (by kernel_rfl) Try.func5 (by kernel_rfl)
    (of_decide_eq_true (by kernel_rfl)) (by unfold Func.isWrapper; first | (rw [if_pos (by decide +kernel)]; kernel_rfl) | (rw [if_neg (by decide +kernel)]; exact ⟨rfl, rfl⟩))
    (fun os started H enc _ => lifted os started H enc)

/-- ████ THE STATEMENT ████ -/
theorem proved : Rows.TimesRelSaid :=
  over
#print axioms proved
end Go.Proofs.Ythmimbcdcbbaiaa.timesRel
namespace Go.Proofs.Ythmimbcdcbbaiaa
theorem timesRel_holds : Rows.TimesRelSaid := timesRel.proved
end Go.Proofs.Ythmimbcdcbbaiaa
