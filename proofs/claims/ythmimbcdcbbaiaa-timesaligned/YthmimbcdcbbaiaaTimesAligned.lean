/-
  PROVED: the Go function detentlaw1.TimesAligned returns true for every input, and each argument reads behind the call as it read before (Rows.TimesAlignedSaid). No condition.
-/
import Derived.Test.YthmimbcdcbbaiaaRows
import Derived.Test.YthmimbcdcbbaiaaConK
import Derived.WalkKit
import Derived.ProofKit
import Derived.OpenShut
import Derived.ShutString
namespace Go.Proofs.Ythmimbcdcbbaiaa.timesAligned
open Go.ChangeShapes Go.WideShapes Go.ChangeAt Go.RowKit
open Go.ChangeMaps (open_string shut_string)
set_option linter.unusedVariables false      -- a walk need not use every 'w<i>' (that an integer argument fits its kind)

theorem own : ownKnob Try.prog.godebug = none := by kernel_rfl

theorem a1' (n a : Int) (h0 : 0 ≤ n) (h1 : n ≤ 536870912) (h2 : 1 ≤ a) (h3 : a ≤ 4096) :
    M.alignZ (M.alignZ n a) a = M.alignZ n a ∧ M.alignZ (M.alignZ n a + 1) a = M.alignZ n a + a ∧ (M.alignZ n a = n ∨ M.alignZ (n + 1) a = M.alignZ n a) := by
  have l := M.align_in n a h0 (by omega) h2 h3
  have hne : M.alignZ n a ≤ 536875008 := by omega
  have e := Int.mul_ediv_add_emod (M.alignZ n a) a
  generalize hm : M.alignZ n a = m at *
  have hmk : m = a * (m / a) := by omega
  have uniq : ∀ x k : Int, 0 ≤ x → x ≤ 1073741824 → a * (k - 1) < x → x ≤ a * k → M.alignZ x a = a * k := by
    intro x k hx hx2 hlo hhi
    have l2 := M.align_in x a hx hx2 h2 h3
    have e2 := Int.mul_ediv_add_emod (M.alignZ x a) a
    generalize M.alignZ x a = y at *
    have hy : y = a * (y / a) := by omega
    have hk : y / a = k := by
      rcases Int.lt_trichotomy (y / a) k with h | h | h
      · have : a * (y / a) ≤ a * (k - 1) := Int.mul_le_mul_of_nonneg_left (by omega) (by omega)
        omega
      · exact h
      · have : a * (k + 1) ≤ a * (y / a) := Int.mul_le_mul_of_nonneg_left (by omega) (by omega)
        rw [Int.mul_add] at this; omega
    rw [← hk]; exact hy
  refine ⟨?_, ?_, ?_⟩
  · rw [uniq m (m / a) (by omega) (by omega) (by rw [Int.mul_sub]; omega) (by omega)]; omega
  · rw [uniq (m + 1) (m / a + 1) (by omega) (by omega) (by rw [show m / a + 1 - 1 = m / a from by omega]; omega) (by rw [Int.mul_add]; omega), Int.mul_add]; omega
  · by_cases c : m = n
    · exact .inl c
    · right
      rw [uniq (n + 1) (m / a) (by omega) (by omega) (by rw [Int.mul_sub]; omega) (by omega)]; omega
theorem out (n a : Int) (h : n < 0 ∨ 536870912 < n ∨ a < 1 ∨ 4096 < a) (w : World) :
    Calls Try.prog 7 #[.int .i64 n, .int .i64 a] w fun e w' => e = .returned (.bool true) ∧ Grown w w' := by
  by_cases c1 : n < 0
  · go_enter Try.func7, Try.ntmps7
    go_wp2_with fail
    refine (known_any _).mono ?_; rintro e w1 ⟨rfl, hg, _⟩
    go_wp2
    go_ret
    exact ⟨rfl, hg⟩
  · by_cases c2 : 536870912 < n
    · go_enter Try.func7, Try.ntmps7
      go_wp2_with fail
      refine (known_any _).mono ?_; rintro e w1 ⟨rfl, hg, _⟩
      go_wp2
      go_ret
      exact ⟨rfl, hg⟩
    · by_cases c3 : a < 1
      · go_enter Try.func7, Try.ntmps7
        go_wp2_with fail
        refine (known_any _).mono ?_; rintro e w1 ⟨rfl, hg, _⟩
        go_wp2
        go_ret
        exact ⟨rfl, hg⟩
      · have c4 : 4096 < a := by omega
        go_enter Try.func7, Try.ntmps7
        go_wp2_with fail
        refine (known_any _).mono ?_; rintro e w1 ⟨rfl, hg, _⟩
        go_wp2
        go_ret
        exact ⟨rfl, hg⟩

/-! ### STEP 1: THE WALK: the Go text returns true. 'Grown w w'': the world has at most new blocks (Derived/RowKit3.lean). Part the cases AHEAD of 'go_enter' where a test parts the walk; take each callee by a contract of your own. -/
theorem walk (a0 : Int) (a1 : Int) (w0 : (Lit.int .i64 a0).wf = true) (w1 : (Lit.int .i64 a1).wf = true) (w : World) :
    Calls Try.prog 7 #[.int .i64 a0, .int .i64 a1] w fun e w' => e = .returned (.bool true) ∧ Grown w w' := by
  by_cases c : a0 < 0 ∨ 536870912 < a0 ∨ a1 < 1 ∨ 4096 < a1
  · exact out a0 a1 c w
  · have h0 : 0 ≤ a0 := by omega
    have h1 : a0 ≤ 536870912 := by omega
    have h2 : 1 ≤ a1 := by omega
    have h3 : a1 ≤ 4096 := by omega
    clear c
    obtain ⟨k1, k2, k3⟩ := a1' a0 a1 h0 h1 h2 h3
    have l := M.align_in a0 a1 h0 (by omega) h2 h3
    have l1 := l.1
    have l2 := l.2.1
    clear l
    generalize hm : M.alignZ a0 a1 = m at *
    have HM := Lib.hid hm
    have K1 := Lib.hid k1
    have K2 := Lib.hid k2
    have K3 := Lib.hid k3
    clear hm k1 k2 k3
    by_cases c : m = a0
    · subst c
      go_enter Try.func7, Try.ntmps7
      go_wp2_with fail
      refine (known_any _).mono ?_; rintro e w1 ⟨rfl, hg, _⟩
      go_wp2_with fail
      refine (align_any _ _ _ HM.out _).mono ?_; rintro e w' ⟨rfl, rfl⟩
      go_wp2_with fail
      refine (align_any _ _ _ K1.out _).mono ?_; rintro e w' ⟨rfl, rfl⟩
      go_wp2_with fail
      refine (align_any _ _ _ K2.out _).mono ?_; rintro e w' ⟨rfl, rfl⟩
      go_wp2
      go_ret
      exact ⟨rfl, hg⟩
    · have c' : (m == a0) = false := by simpa using c
      have K4 := Lib.hid (K3.out.resolve_left c)
      clear K3 c
      go_enter Try.func7, Try.ntmps7
      go_wp2_with fail
      refine (known_any _).mono ?_; rintro e w1 ⟨rfl, hg, _⟩
      go_wp2_with fail
      refine (align_any _ _ _ HM.out _).mono ?_; rintro e w' ⟨rfl, rfl⟩
      go_wp2_with fail
      refine (align_any _ _ _ K1.out _).mono ?_; rintro e w' ⟨rfl, rfl⟩
      go_wp2_with fail
      refine (align_any _ _ _ K2.out _).mono ?_; rintro e w' ⟨rfl, rfl⟩
      go_wp2_with fail
      refine (align_any _ _ _ K4.out _).mono ?_; rintro e w' ⟨rfl, rfl⟩
      go_wp2
      go_ret
      exact ⟨rfl, hg⟩

/-! ### THE ROW's STEP: WRITTEN OUT: LEAVE IT -/
set_option maxRecDepth 100000 in
theorem lifted (os : Os) (started : os.Started) (H : Type) (enc : TypeId × Value → H) :
    ReturnsInHanded {} Try.checked os 7 .any (Rows.timesAlignedSpec.pre6 enc Try.prog Try.f7 Rows.timesAlignedRow.domain false) (Rows.timesAlignedSpec.post enc Try.prog Try.f7 false true false false) := by
  refine returnsInHanded_of_change (C := Try.checked) own started (by kernel_rfl) Try.func7
    (ChangeSpec.witness6 (enc := enc) (C := Try.checked) false ⟨#[], #[.int .i64 0, .int .i64 0], []⟩ 8 (by kernel_rfl) (by kernel_rfl) (by kernel_rfl) (by kernel_rfl)) ?_
  intro W base args ds gs before hval0 hW hcnd _
  have hval : ∀ (j : Nat) t v, Try.f7.params[j]? = some t → args[j]? = some v → Value.okWide Try.prog W .any base t v := hval0
  have hW' := hW
  obtain ⟨p, q, hA0, hV, rfl, hfz, hnd⟩ := hW
  have hA : DataW.TrodAll enc Try.prog W 0 (fun _ => true) true Try.f7.params.toList args.toList ds p := hA0
  rw [Try.params7] at hA hval
  obtain ⟨v0, vs0, d0, ds0, p0, q0, hargs, rfl, rfl, h0, r0⟩ := trodAll_cons hA
  obtain ⟨v1, vs1, d1, ds1, p1, q1, rfl, rfl, rfl, h1, r1⟩ := trodAll_cons r0
  obtain ⟨rfl, rfl, rfl⟩ := trodAll_nil r1
  obtain rfl : args = #[v0, v1] := by cases args; simp_all
  obtain ⟨rfl, rfl⟩ := trodVars_none hV
  obtain ⟨a0, rfl, rfl, rfl, w0⟩ := open_int Try.underlying3 (hval 0 3 v0 rfl rfl) h0
  obtain ⟨a1, rfl, rfl, rfl, w1⟩ := open_int Try.underlying3 (hval 1 3 v1 rfl rfl) h1
  clear hA0 hval0
  simp only [List.append_nil] at hW'
  refine (walk a0 a1 w0 w1 W).mono fun e W' ⟨he, hg⟩ => ?_
  subst he
  exact ⟨_, rfl, post_of_same (pa := []) (pv := []) hW' (fun _ _ _ => (trodAll_cons_mk (shut_bool Try.underlying4 _) trodAll_mk0)) (fun sp _ => (trodAll_cons_mk (shut_int Try.underlying3 w0) (trodAll_cons_mk (shut_int Try.underlying3 w1) trodAll_mk0))) (fun _ _ => rfl) rfl
    (hg.frame _) hg.2.1 (ok_one (by kernel_rfl) rfl (okWide_bool_mk Try.underlying4 _))⟩

theorem over : Rows.timesAlignedRow.holds Try.pinned (OpenSpec.ofChange Rows.timesAlignedSpec) :=
  OpenClaim.holds_of_wide 7 Try.f7 rfl rfl rfl rfl rfl rfl rfl ⟨rfl, rfl, rfl, rfl, rfl⟩ rfl rfl rfl rfl rfl (by kernel_rfl) Try.func7 (by kernel_rfl)
    (of_decide_eq_true (by kernel_rfl)) (by unfold Func.isWrapper; first | (rw [if_pos (by decide +kernel)]; kernel_rfl) | (rw [if_neg (by decide +kernel)]; exact ⟨rfl, rfl⟩))
    (fun os started H enc _ => lifted os started H enc)

/-- ████ THE STATEMENT ████ -/
theorem proved : Rows.TimesAlignedSaid :=
  over
#print axioms proved
end Go.Proofs.Ythmimbcdcbbaiaa.timesAligned
namespace Go.Proofs.Ythmimbcdcbbaiaa
theorem timesAligned_holds : Rows.TimesAlignedSaid := timesAligned.proved
end Go.Proofs.Ythmimbcdcbbaiaa
