/-
  PROVED: the Go function detentlaw13.DataFull returns true for every input, and each argument reads behind the call as it read before (Rows.DataFullSaid). No condition.
-/
import Derived.Test.YtnbepahanhcmeaaRows
import Derived.Test.YtnbepahanhcmeaaDqK
import Derived.WalkKit
import Derived.ProofKit
import Derived.OpenShut
import Derived.ShutString
import Derived.ChangeOld
import Derived.Below
namespace Go.Proofs.Ytnbepahanhcmeaa.dataFull
open Go.ChangeShapes Go.WideShapes Go.ChangeAt Go.RowKit
open Go.ChangeMaps (open_string shut_string)
set_option linter.unusedVariables false      -- a walk need not use every 'w<i>' (that an integer argument fits its kind)

theorem own : ownKnob Try.prog.godebug = none := by kernel_rfl

/-- t numbers went in -/
def ful (m t : Nat) : St := { st0 true m with D := (List.range t).map (fun i : Nat => (i : Int)) }
theorem ful_len (m t : Nat) : (ful m t).D.length = t := by simp [ful]
theorem ful_put {m t : Nat} (h : t < m) : trySend (ful m t) (t : Int) = (ful m (t + 1), true, 0) := by
  rw [trySend_room rfl (by rw [ful_len]; exact h)]
  unfold ful
  simp [List.range_succ]
theorem ful_no {m : Nat} (x : Int) : trySend (ful m m) x = (ful m m, false, 0) := trySend_no rfl (by rw [ful_len]; show ¬ m < m; omega)

set_option maxRecDepth 100000 in
set_option maxHeartbeats 1600000 in

/-! ### the walk -/
theorem walk (a0 : Int) (w0 : (Lit.int .i64 a0).wf = true) (w : World) :
    Calls Try.prog 8 #[.int .i64 a0] w fun e w' => e = .returned (.bool true) ∧ Below w.heap.size w w' := by
  by_cases c : 0 ≤ a0 ∧ a0 ≤ 64
  · obtain ⟨m, rfl⟩ : ∃ m : Nat, a0 = (m : Int) := ⟨a0.toNat, by omega⟩
    have hm : m ≤ 64 := by omega
    have t1 : decide ((m : Int) < 0) = false := by simp
    have t2 : decide (64 < (m : Int)) = false := by simp; omega
    have t3 : decide (64 < m) = false := by simp; omega
    have HM := Lib.hid hm
    clear c hm w0
    go_enter Try.func8, Try.ntmps8
    go_wp2_with fail
    refine (known_ok w).mono ?_
    rintro e w1 ⟨rfl, hb⟩
    have HN := Lib.hid (new_at w w1 true m HM.out hb)
    clear hb
    go_wp2_with fail
    refine HN.out.mono ?_
    rintro e w2 ⟨s, v, rfl, ha, _, _, _⟩
    have HA := Lib.hid ha
    clear ha HN
    go_wp2
    go_loopw [5] (fun i wr => ∃ (t : Nat) (v : Value), t ≤ m ∧ i = .int .i64 (t : Int) ∧ At w s v (ful m t) wr) (fun i _ => m - (intOf i).toNat)
    case atStart => exact ⟨0, v, Nat.zero_le _, rfl, HA.out⟩
    case round =>
      obtain ⟨t, v, ht, rfl, ha⟩ := hrel
      by_cases hlt : t < m
      · have hlt' : (t : Int) < (m : Int) := by omega
        have ht64 : (t : Int) ≤ 64 := by have := HM.out; omega
        have HT := Lib.hid (trySend_at ha (ful_put hlt))
        clear ha
        go_wp2_with fail
        refine HT.out.mono ?_
        rintro e w3 ⟨rfl, v3, ha, _⟩
        have HA3 := Lib.hid ha
        clear ha HT
        go_wp2
        exact ⟨⟨t + 1, v3, by omega, by go_num, HA3.out⟩, by simp [intOf]; omega⟩
      · obtain rfl : t = m := by omega
        have HT := Lib.hid (trySend_at ha (ful_no 99))
        clear ha
        go_wp2_with fail
        refine HT.out.mono ?_
        rintro e w3 ⟨rfl, v3, ha, _⟩
        have HD := Lib.hid (data_at ha)
        have HB := Lib.hid ha.b
        clear ha HT
        go_wp2_with fail
        refine HD.out.mono ?_
        rintro e w4 ⟨u, rfl, ho, hb⟩
        obtain ⟨X, k, rfl, _⟩ := K.own_form ho
        rw [ful_len]
        have HB2 := Lib.hid (below_trans HB.out hb)
        clear ho hb HD
        go_wp2
        go_ret
        exact ⟨rfl, HB2.out⟩
  · go_enter Try.func8, Try.ntmps8
    go_wp2_with fail
    refine (known_ok w).mono ?_
    rintro e w1 ⟨rfl, hb⟩
    have HN := Lib.hid (dnew_bad true a0 (by omega) w1)
    have HB := Lib.hid hb
    clear hb w0
    by_cases c1 : a0 < 0
    · have t1 : decide (a0 < 0) = true := by simpa using c1
      clear c c1
      go_wp2_with fail
      refine HN.out.mono ?_
      rintro e w2 ⟨rfl, rfl⟩
      go_wp2
      go_ret
      exact ⟨rfl, HB.out⟩
    · have t1 : decide (a0 < 0) = false := by simpa using c1
      have t2 : decide (64 < a0) = true := by simp; omega
      clear c c1
      go_wp2_with fail
      refine HN.out.mono ?_
      rintro e w2 ⟨rfl, rfl⟩
      go_wp2
      go_ret
      exact ⟨rfl, HB.out⟩

/-! ### THE ROW's STEP: WRITTEN OUT: LEAVE IT -/
set_option maxRecDepth 100000 in
theorem lifted (os : Os) (started : os.Started) (H : Type) (enc : TypeId × Value → H) :
    ReturnsInHanded {} Try.checked os 8 .any (Rows.dataFullSpec.pre6 enc Try.prog Try.f8 Rows.dataFullRow.domain false) (Rows.dataFullSpec.post enc Try.prog Try.f8 false true false false) := by
  refine returnsInHanded_of_change (C := Try.checked) own started (by kernel_rfl) Try.func8
    (ChangeSpec.witness6 (enc := enc) (C := Try.checked) false ⟨#[], #[.int .i64 0], []⟩ 8 (by kernel_rfl) (by kernel_rfl) (by kernel_rfl) (by kernel_rfl)) ?_
  intro W base args ds gs before hval0 hW hcnd _
  have hval : ∀ (j : Nat) t v, Try.f8.params[j]? = some t → args[j]? = some v → Value.okWide Try.prog W .any base t v := hval0
  have hW' := hW
  obtain ⟨p, q, hA0, hV, rfl, hfz, hnd⟩ := hW
  have hA : DataW.TrodAll enc Try.prog W 0 (fun _ => true) true Try.f8.params.toList args.toList ds p := hA0
  rw [Try.params8] at hA hval
  obtain ⟨v0, vs0, d0, ds0, p0, q0, hargs, rfl, rfl, h0, r0⟩ := trodAll_cons hA
  obtain ⟨rfl, rfl, rfl⟩ := trodAll_nil r0
  obtain rfl : args = #[v0] := by cases args; simp_all
  obtain ⟨rfl, rfl⟩ := trodVars_none hV
  obtain ⟨a0, rfl, rfl, rfl, w0⟩ := open_int Try.underlying3 (hval 0 3 v0 rfl rfl) h0
  clear hA0 hval0
  simp only [List.append_nil] at hW'
  refine (walk a0 w0 W).mono fun e W' ⟨he, hg⟩ => ?_
  subst he
  exact ⟨_, rfl, _, _, _, [], [], [], hW', (trodAll_cons_mk (shut_bool Try.underlying4 _) trodAll_mk0), (trodAll_cons_mk (shut_int Try.underlying3 w0) trodAll_mk0), rfl, hg.frame _, fun h => by cases h⟩

theorem over : Rows.dataFullRow.holds Try.pinned (OpenSpec.ofChange Rows.dataFullSpec) :=
  OpenClaim.holds_of_wide 8 Try.f8 rfl rfl rfl rfl rfl rfl rfl ⟨rfl, rfl, rfl, rfl, rfl⟩ rfl rfl rfl rfl rfl (by kernel_rfl) Try.func8 (by kernel_rfl)
    (of_decide_eq_true (by kernel_rfl)) (by unfold Func.isWrapper; first | (rw [if_pos (by decide +kernel)]; kernel_rfl) | (rw [if_neg (by decide +kernel)]; exact ⟨rfl, rfl⟩))
    (fun os started H enc _ => lifted os started H enc)

/-- ████ THE STATEMENT ████ -/
theorem proved : Rows.DataFullSaid :=
  over
#print axioms proved
end Go.Proofs.Ytnbepahanhcmeaa.dataFull
namespace Go.Proofs.Ytnbepahanhcmeaa
theorem dataFull_holds : Rows.DataFullSaid := dataFull.proved
end Go.Proofs.Ytnbepahanhcmeaa
