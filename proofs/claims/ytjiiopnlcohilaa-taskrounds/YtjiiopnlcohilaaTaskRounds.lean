/-
  PROVED: the Go function detentlaw10.TaskRounds returns true for every input, and each argument reads behind the call as it read before (Rows.TaskRoundsSaid). No condition.
-/
import Derived.Test.YtjiiopnlcohilaaRows
import Derived.Test.YtjiiopnlcohilaaConF
import Derived.WalkKit
import Derived.ProofKit
import Derived.OpenShut
import Derived.ShutString
import Derived.ChangeOld
import Derived.Below
namespace Go.Proofs.Ytjiiopnlcohilaa.taskRounds
open Go.ChangeShapes Go.WideShapes Go.ChangeAt Go.RowKit
open Go.ChangeMaps (open_string shut_string)
set_option linter.unusedVariables false      -- a walk need not use every 'w<i>' (that an integer argument fits its kind)

theorem own : ownKnob Try.prog.godebug = none := by kernel_rfl

theorem walkOut (a0 : Int) (w : World) (h : a0 < 1 ∨ 8 < a0) :
    Calls Try.prog 6 #[.int .i64 a0] w fun e w' => e = .returned (.bool true) ∧ Below w.heap.size w w' := by
  by_cases h1 : a0 < 1
  · clear h
    go_enter Try.func6, Try.ntmps6
    go_wp2_with fail
    refine (known_any w).mono ?_
    rintro e w1 ⟨rfl, hb⟩
    go_wp2
    go_ret
    exact ⟨rfl, hb⟩
  · have h2 : 8 < a0 := by omega
    clear h
    go_enter Try.func6, Try.ntmps6
    go_wp2_with fail
    refine (known_any w).mono ?_
    rintro e w1 ⟨rfl, hb⟩
    go_wp2
    go_ret
    exact ⟨rfl, hb⟩

/-- a task that was activated i times -/
def rnd (i : Nat) : St := if i = 0 then born else ⟨(i : Int) - 1, 0, 0, 2, false⟩
theorem act_rnd (i : Nat) (hi : i < 8) : act (rnd i) = (rnd (i + 1), decide (i = 0), 0) := by
  unfold rnd
  by_cases h : i = 0
  · subst h; rfl
  · rw [if_neg h, if_neg (by omega)]
    unfold act
    dsimp only
    rw [if_neg (by decide), if_neg (by omega)]
    have e : (i : Int) - 1 + 1 = ((i + 1 : Nat) : Int) - 1 := by omega
    rw [e]
    simp [h]
theorem end_rnd (k : Nat) : endS (rnd (k + 1)) = (rnd k, decide (0 < k)) := by
  unfold rnd
  rw [if_neg (by omega)]
  unfold endS over
  dsimp only
  rw [if_pos rfl]
  by_cases h : k = 0
  · subst h; rfl
  · rw [if_neg (by omega), if_neg h]
    have e : ((k + 1 : Nat) : Int) - 1 = (k : Int) := by omega
    rw [e]
    have h2 : 0 < k := by omega
    simp [h2]

set_option maxHeartbeats 1600000 in
theorem walkIn (n : Nat) (w : World) (h1 : 1 ≤ n) (h2 : n ≤ 8) :
    Calls Try.prog 6 #[.int .i64 (n : Int)] w fun e w' => e = .returned (.bool true) ∧ Below w.heap.size w w' := by
  have t1 : decide ((n : Int) < 1) = false := by simp; omega
  have t2 : decide ((8 : Int) < (n : Int)) = false := by simp; omega
  have t2' : decide (8 < n) = false := by simp; omega
  go_enter Try.func6, Try.ntmps6
  go_wp2_with fail
  refine (known_any w).mono ?_
  rintro e w1 ⟨rfl, hb⟩
  have H0 := Lib.hid hb
  clear hb
  go_wp2_with fail
  refine (new_at w w1 H0.out).mono ?_
  rintro e w2 ⟨p, rfl, h2⟩
  have H2 := Lib.hid h2
  clear h2 H0
  go_wp2
  go_loopw [4] (fun i wr => ∃ t : Nat, t ≤ n ∧ i = .int .i64 (t : Int) ∧ Hid (At w wr p (rnd t))) (fun i _ => n - (intOf i).toNat)
  case atStart => exact ⟨0, by omega, rfl, H2.out⟩
  case round =>
    clear H2
    obtain ⟨t, ht, rfl, HT⟩ := hrel
    by_cases hlt : t < n
    · have i1 : (t : Int) < (n : Int) := by omega
      have HA := Lib.hid (act_at HT.out _ _ _ (act_rnd t (by omega)))
      by_cases ht0 : t = 0
      · have z1 : ((t : Int) == 0) = true := by simpa using ht0
        have z2 : decide (t = 0) = true := by simpa using ht0
        have z3 : decide ((t : Int) = 0) = true := by simpa using ht0
        rw [z2] at HA
        clear ht0
        go_wp2_with fail
        refine HA.out.mono ?_
        rintro e w3 ⟨rfl, h3⟩
        have H3 := Lib.hid h3
        clear h3 HA HT
        go_wp2
        go_roundw
        case rel => exact ⟨t + 1, by omega, by go_num, H3.out⟩
        case measure => simp [intOf]; omega
      · have z1 : ((t : Int) == 0) = false := by simpa using ht0
        have z2 : decide (t = 0) = false := by simpa using ht0
        have z3 : decide ((t : Int) = 0) = false := by simpa using ht0
        rw [z2] at HA
        clear ht0
        go_wp2_with fail
        refine HA.out.mono ?_
        rintro e w3 ⟨rfl, h3⟩
        have H3 := Lib.hid h3
        clear h3 HA HT
        go_wp2
        go_roundw
        case rel => exact ⟨t + 1, by omega, by go_num, H3.out⟩
        case measure => simp [intOf]; omega
    · have i1 : decide ((t : Int) < (n : Int)) = false := by simp; omega
      have HN : Hid (At w wr p (rnd n)) := by
        have e : t = n := by omega
        rw [e] at HT; exact HT
      clear HT
      go_wp2
      go_loopw [7] (fun i wr => ∃ j : Nat, j ≤ n ∧ i = .int .i64 (j : Int) ∧ Hid (At w wr p (rnd (n - j)))) (fun i _ => n - (intOf i).toNat)
      case atStart => exact ⟨0, by omega, rfl, HN.out⟩
      case round =>
        clear HN
        obtain ⟨j, hj, rfl, HJ⟩ := hrel
        by_cases hjl : j < n
        · have i2 : (j : Int) < (n : Int) := by omega
          have HE := Lib.hid (end_at HJ.out (rnd (n - (j + 1))) (decide ((j : Int) < (n : Int) - 1)) (by
            have e : n - j = (n - (j + 1)) + 1 := by omega
            rw [e, end_rnd]
            have : decide (0 < n - (j + 1)) = decide ((j : Int) < (n : Int) - 1) := by simp; omega
            rw [this]))
          go_wp2_with fail
          refine HE.out.mono ?_
          rintro e w3 ⟨rfl, h3⟩
          have H3 := Lib.hid h3
          clear h3 HE HJ
          go_wp2
          go_roundw
          case rel => exact ⟨j + 1, by omega, by go_num, H3.out⟩
          case measure => simp [intOf]; omega
        · have i2 : decide ((j : Int) < (n : Int)) = false := by simp; omega
          have HB : Hid (At w wr p ⟨0, 0, 0, 16, false⟩) := by
            have e : n - j = 0 := by omega
            rw [e] at HJ; exact HJ
          clear HJ
          go_wp2_with fail
          refine (is_at HB.out 16 true (by decide)).mono ?_
          rintro e w3 ⟨rfl, h3⟩
          obtain ⟨c0, c1, c2⟩ := five3 h3
          have H3 := Lib.hid h3
          clear h3 HB
          go_wp2_with fail
          refine (any_at H3.out false (by decide)).mono ?_
          rintro e w4 ⟨rfl, h4⟩
          have H4 := Lib.hid h4
          clear h4 H3 c0 c1 c2
          go_wp2_with fail
          refine (end_at H4.out ⟨0, 0, 0, 16, false⟩ false rfl).mono ?_
          rintro e w5 ⟨rfl, h5⟩
          have H5 := Lib.hid h5
          clear h5 H4
          go_wp2
          go_ret
          exact ⟨rfl, H5.out.be⟩


/-! ### the walk -/
theorem walk (a0 : Int) (w0 : (Lit.int .i64 a0).wf = true) (w : World) :
    Calls Try.prog 6 #[.int .i64 a0] w fun e w' => e = .returned (.bool true) ∧ Below w.heap.size w w' := by
  by_cases h : a0 < 1 ∨ 8 < a0
  · exact walkOut a0 w h
  · obtain ⟨n, rfl⟩ : ∃ n : Nat, a0 = (n : Int) := ⟨a0.toNat, by omega⟩
    exact walkIn n w (by omega) (by omega)

/-! ### THE ROW's STEP: WRITTEN OUT: LEAVE IT -/
set_option maxRecDepth 100000 in
theorem lifted (os : Os) (started : os.Started) (H : Type) (enc : TypeId × Value → H) :
    ReturnsInHanded {} Try.checked os 6 .any (Rows.taskRoundsSpec.pre6 enc Try.prog Try.f6 Rows.taskRoundsRow.domain false) (Rows.taskRoundsSpec.post enc Try.prog Try.f6 false true false false) := by
  refine returnsInHanded_of_change (C := Try.checked) own started (by kernel_rfl) Try.func6
    (ChangeSpec.witness6 (enc := enc) (C := Try.checked) false ⟨#[], #[.int .i64 0], []⟩ 8 (by kernel_rfl) (by kernel_rfl) (by kernel_rfl) (by kernel_rfl)) ?_
  intro W base args ds gs before hval0 hW hcnd _
  have hval : ∀ (j : Nat) t v, Try.f6.params[j]? = some t → args[j]? = some v → Value.okWide Try.prog W .any base t v := hval0
  have hW' := hW
  obtain ⟨p, q, hA0, hV, rfl, hfz, hnd⟩ := hW
  have hA : DataW.TrodAll enc Try.prog W 0 (fun _ => true) true Try.f6.params.toList args.toList ds p := hA0
  rw [Try.params6] at hA hval
  obtain ⟨v0, vs0, d0, ds0, p0, q0, hargs, rfl, rfl, h0, r0⟩ := trodAll_cons hA
  obtain ⟨rfl, rfl, rfl⟩ := trodAll_nil r0
  obtain rfl : args = #[v0] := by cases args; simp_all
  obtain ⟨rfl, rfl⟩ := trodVars_none hV
  obtain ⟨a0, rfl, rfl, rfl, w0⟩ := open_int Try.underlying3 (hval 0 3 v0 rfl rfl) h0
  clear hA0 hval0
  simp only [List.append_nil] at hW'
  refine (walk a0 w0 W).mono fun e W' ⟨he, hg⟩ => ?_
  subst he
  exact ⟨_, rfl, _, _, _, [], [], [], hW', (trodAll_cons_mk (shut_bool Try.underlying4 _) trodAll_mk0), (trodAll_cons_mk (shut_int Try.underlying3 w0) trodAll_mk0), rfl, hg.frame _, fun h => by cases h⟩

theorem over : Rows.taskRoundsRow.holds Try.pinned (OpenSpec.ofChange Rows.taskRoundsSpec) :=
  OpenClaim.holds_of_wide 6 Try.f6 rfl rfl rfl rfl rfl rfl rfl ⟨rfl, rfl, rfl, rfl, rfl⟩ rfl rfl rfl rfl rfl (by kernel_rfl) Try.func6 (by kernel_rfl)
    (of_decide_eq_true (by kernel_rfl)) (by unfold Func.isWrapper; first | (rw [if_pos (by decide +kernel)]; kernel_rfl) | (rw [if_neg (by decide +kernel)]; exact ⟨rfl, rfl⟩))
    (fun os started H enc _ => lifted os started H enc)

/-- ████ THE STATEMENT ████ -/
theorem proved : Rows.TaskRoundsSaid :=
  over
#print axioms proved
end Go.Proofs.Ytjiiopnlcohilaa.taskRounds
namespace Go.Proofs.Ytjiiopnlcohilaa
theorem taskRounds_holds : Rows.TaskRoundsSaid := taskRounds.proved
end Go.Proofs.Ytjiiopnlcohilaa
