/-
  PROVED: the Go function detentlaw16.BufferRefuses returns true for every input, and each argument reads behind the call as it read before (Rows.BufferRefusesSaid). No condition.
-/
import Derived.Test.YtneimdjgbblaoaaRows
import Derived.Test.YtneimdjgbblaoaaBfL
import Derived.WalkKit
import Derived.ProofKit
import Derived.OpenShut
import Derived.ShutString
import Derived.ChangeOld
import Derived.Below
namespace Go.Proofs.Ytneimdjgbblaoaa.bufferRefuses
open Go.ChangeShapes Go.WideShapes Go.ChangeAt Go.RowKit
open Go.ChangeMaps (open_string shut_string)
set_option linter.unusedVariables false      -- a walk need not use every 'w<i>' (that an integer argument fits its kind)

theorem own : ownKnob Try.prog.godebug = none := by kernel_rfl

theorem out_bad (a0 a1 : Int) (w : World) (h : a0 < 1 ∨ 1024 < a0 ∨ a1 < 0 ∨ 1100 < a1) :
    Calls Try.prog 7 #[.int .i64 a0, .int .i64 a1] w fun e w' => e = .returned (.bool true) ∧ Below w.heap.size w w' := by
  by_cases c0 : a0 < 1
  · have t0 := decide_eq_true c0
    clear h
    go_enter Try.func7, Try.ntmps7
    go_wp2_with fail
    refine (known_any w).mono ?_
    rintro e w1 ⟨rfl, hb⟩
    go_wp2
    go_ret
    exact ⟨rfl, hb⟩
  have t0 := decide_eq_false c0
  by_cases c1 : 1024 < a0
  · have t1 := decide_eq_true c1
    clear h
    go_enter Try.func7, Try.ntmps7
    go_wp2_with fail
    refine (known_any w).mono ?_
    rintro e w1 ⟨rfl, hb⟩
    go_wp2
    go_ret
    exact ⟨rfl, hb⟩
  have t1 := decide_eq_false c1
  by_cases c2 : a1 < 0
  · have t2 := decide_eq_true c2
    clear h
    go_enter Try.func7, Try.ntmps7
    go_wp2_with fail
    refine (known_any w).mono ?_
    rintro e w1 ⟨rfl, hb⟩
    go_wp2
    go_ret
    exact ⟨rfl, hb⟩
  have t2 := decide_eq_false c2
  have t3 : decide (1100 < a1) = true := by simp; omega
  clear h
  go_enter Try.func7, Try.ntmps7
  go_wp2_with fail
  refine (known_any w).mono ?_
  rintro e w1 ⟨rfl, hb⟩
  go_wp2
  go_ret
  exact ⟨rfl, hb⟩

set_option maxHeartbeats 4000000 in
set_option maxRecDepth 100000 in
theorem in_ok (a0 : Int) (m n : Nat) (hm : 1 ≤ m ∧ m ≤ 1024) (hy : a0 = m) (hn : n ≤ 1100) (w : World) :
    Calls Try.prog 7 #[.int .i64 a0, .int .i64 (n : Int)] w fun e w' => e = .returned (.bool true) ∧ Below w.heap.size w w' := by
  have t0 : decide (a0 < 1) = false := by simp; omega
  have t1 : decide (1024 < a0) = false := by simp; omega
  have t3 : decide ((1100 : Int) < (n : Int)) = false := by simp; omega
  have t3' : decide (1100 < n) = false := by simp; omega
  have HY := Lib.hid hy
  have HM := Lib.hid hm
  have HMK := Lib.hid (fun W : World => R.run_make_bytes n (by omega) W)
  clear hy hm
  by_cases c : n = 0 ∨ a0 < (n : Int)
  · have t6 : (((n : Int) == 0) || decide (a0 < (n : Int))) = true := by simpa using c
    have hbad : (R.mkm n (fun _ => 0)).length = 0 ∨ (st0 true m 2048).m < (R.mkm n (fun _ => 0)).length := by
      rw [R.mkm_len]; have := HY.out; show n = 0 ∨ m < n; omega
    have HSE := Lib.hid (send_bad (id := 1) (pri := 1) hbad)
    by_cases c5 : n = 0
    · subst c5
      clear c t6 hbad
      go_enter Try.func7, Try.ntmps7
      go_wp2_with fail
      refine (known_any w).mono ?_
      rintro e w1 ⟨rfl, hb⟩
      have HB := Lib.hid hb
      clear hb
      go_wp2_with fail
      refine (new_at w w1 true m 2048 HM.out (by omega) (by omega) 2048 rfl a0 HY.out HB.out).mono ?_
      rintro e w2 ⟨s, p, m0, rfl, ha, _, _, _, _⟩
      have HA := Lib.hid ha
      have hmk : (Instr.makeSlice 31 (.int .i64 0) (.int .i64 0)).run Try.prog w2 = .ok (.slice (some ⟨w2.heap.size, 0, none⟩) 0 0) (w2.alloc (.cells (madeCells #[.int .u8 0] 0) 5)) := HMK.out w2
      clear ha
      go_wp2_with fail
      refine (send_at (HA.out.alloc _) (HA.out.zeros 0) (Nat.le_refl _) (by omega) HSE.out).mono ?_
      rintro e w3 ⟨rfl, ha3, _⟩
      have HA3 := Lib.hid ha3
      have c0 := ha3.q.c.ring
      clear ha3 hmk
      go_wp2_with fail
      refine (len_at HA3.out).mono ?_
      rintro e w4 ⟨rfl, rfl⟩
      have e0 : (((st0 true m 2048).G.length : Nat) : Int) = 0 := rfl
      go_wp2_with fail
      refine (senders_at HA3.out (n := 0) rfl).mono ?_
      rintro e w4 ⟨X, k, rfl, _, hb4⟩
      have HB4 := Lib.hid (HA3.out.b.trans (hb4.mono HA3.out.b.size))
      clear hb4
      go_wp2
      go_ret
      exact ⟨rfl, HB4.out⟩
    · have t5 : ((n : Int) == 0) = false := by simp; omega
      have t6' : decide (a0 < (n : Int)) = true := by simp; omega
      clear c t6 hbad c5
      go_enter Try.func7, Try.ntmps7
      go_wp2_with fail
      refine (known_any w).mono ?_
      rintro e w1 ⟨rfl, hb⟩
      have HB := Lib.hid hb
      clear hb
      go_wp2_with fail
      refine (new_at w w1 true m 2048 HM.out (by omega) (by omega) 2048 rfl a0 HY.out HB.out).mono ?_
      rintro e w2 ⟨s, p, m0, rfl, ha, _, _, _, _⟩
      have HA := Lib.hid ha
      have hmk := HMK.out w2
      clear ha
      go_wp2_with fail
      refine (send_at (HA.out.alloc _) (HA.out.zeros n) (Nat.le_refl _) (by omega) HSE.out).mono ?_
      rintro e w3 ⟨rfl, ha3, _⟩
      have HA3 := Lib.hid ha3
      have c0 := ha3.q.c.ring
      clear ha3 hmk
      go_wp2_with fail
      refine (len_at HA3.out).mono ?_
      rintro e w4 ⟨rfl, rfl⟩
      have e0 : (((st0 true m 2048).G.length : Nat) : Int) = 0 := rfl
      go_wp2_with fail
      refine (senders_at HA3.out (n := 0) rfl).mono ?_
      rintro e w4 ⟨X, k, rfl, _, hb4⟩
      have HB4 := Lib.hid (HA3.out.b.trans (hb4.mono HA3.out.b.size))
      clear hb4
      go_wp2
      go_ret
      exact ⟨rfl, HB4.out⟩
  · have t5 : ((n : Int) == 0) = false := by simp; omega
    have t6 : decide (a0 < (n : Int)) = false := by simp; omega
    have hmn : n ≤ m := by have := HY.out; omega
    have ho := R.occ_lo n
    have HSE := Lib.hid (send_room (t := st0 true m 2048) (id := 1) (pri := 1) (x := R.mkm n (fun _ => 0)) (by rw [R.mkm_len]; show ¬ (n = 0 ∨ m < n); omega) rfl rfl (by rw [R.mkm_len]; have := HM.out; exact fits_yes (by omega) (by show 0 + R.occ n ≤ 2048; omega)))
    clear c hmn ho
    go_enter Try.func7, Try.ntmps7
    go_wp2_with fail
    refine (known_any w).mono ?_
    rintro e w1 ⟨rfl, hb⟩
    have HB := Lib.hid hb
    clear hb
    go_wp2_with fail
    refine (new_at w w1 true m 2048 HM.out (by omega) (by omega) 2048 rfl a0 HY.out HB.out).mono ?_
    rintro e w2 ⟨s, p, m0, rfl, ha, _, _, _, _⟩
    have HA := Lib.hid ha
    have hmk := HMK.out w2
    clear ha
    go_wp2_with fail
    refine (send_at (HA.out.alloc _) (HA.out.zeros n) (Nat.le_refl _) (by omega) HSE.out).mono ?_
    rintro e w3 ⟨rfl, ha3, _⟩
    have HA3 := Lib.hid ha3
    have c0 := ha3.q.c.ring
    clear ha3 hmk
    go_wp2_with fail
    refine (len_at HA3.out).mono ?_
    rintro e w4 ⟨rfl, rfl⟩
    rw [show ((({ st0 true m 2048 with G := (st0 true m 2048).G ++ [R.mkm n (fun _ => 0)] } : St).G.length : Nat) : Int) = 1 from rfl]
    go_wp2
    go_ret
    exact ⟨rfl, HA3.out.b⟩

/-! ### the walk -/
set_option maxRecDepth 100000 in
set_option maxHeartbeats 4000000 in
theorem walk (a0 : Int) (a1 : Int) (w0 : (Lit.int .i64 a0).wf = true) (w1 : (Lit.int .i64 a1).wf = true) (w : World) :
    Calls Try.prog 7 #[.int .i64 a0, .int .i64 a1] w fun e w' => e = .returned (.bool true) ∧ Below w.heap.size w w' := by
  by_cases h : a0 < 1 ∨ 1024 < a0 ∨ a1 < 0 ∨ 1100 < a1
  · exact out_bad a0 a1 w h
  · obtain ⟨n, rfl⟩ : ∃ n : Nat, a1 = n := ⟨a1.toNat, by omega⟩
    exact in_ok a0 a0.toNat n (by omega) (by omega) (by omega) w

/-! ### THE ROW's STEP: WRITTEN OUT: LEAVE IT -/
set_option maxRecDepth 100000 in
theorem lifted (os : Os) (started : os.Started) (H : Type) (enc : TypeId × Value → H) :
    ReturnsInHanded {} Try.checked os 7 .any (Rows.bufferRefusesSpec.pre6 enc Try.prog Try.f7 Rows.bufferRefusesRow.domain false) (Rows.bufferRefusesSpec.post enc Try.prog Try.f7 false true false false) := by
  refine returnsInHanded_of_change (C := Try.checked) own started (by kernel_rfl) Try.func7
    (ChangeSpec.witness6 (enc := enc) (C := Try.checked) false ⟨#[], #[.int .i64 0, .int .i64 0], []⟩ 8 (by kernel_rfl) (by kernel_rfl) (by kernel_rfl) (by kernel_rfl)) ?_
  intro W base args ds gs before hval0 hW hcnd _
  have hval : ∀ (j : Nat) t v, Try.f7.params[j]? = some t → args[j]? = some v → Value.okWide Try.prog W .any base t v := hval0
  have hW' := hW
  obtain ⟨p, q, hA0, hV, rfl, hfz, hnd⟩ := hW
  have hA : DataW.TrodAll enc Try.prog W 0 (fun _ => true) true Try.f7.params.toList args.toList ds p := hA0
  rw [Try.params7] at hA hval
  obtain ⟨v0, vs0, d0, ds0, p0, q0, hargs, rfl, rfl, h0, r0⟩ := trodAll_cons hA
  obtain ⟨v1, vs1, d1, ds1, p1, q1, rfl, rfl, rfl, h1, r1⟩ := trodAll_cons r0
  obtain ⟨rfl, rfl, rfl⟩ := trodAll_nil r1
  obtain rfl : args = #[v0, v1] := by cases args; simp_all
  obtain ⟨rfl, rfl⟩ := trodVars_none hV
  obtain ⟨a0, rfl, rfl, rfl, w0⟩ := open_int Try.underlying3 (hval 0 3 v0 rfl rfl) h0
  obtain ⟨a1, rfl, rfl, rfl, w1⟩ := open_int Try.underlying3 (hval 1 3 v1 rfl rfl) h1
  clear hA0 hval0
  simp only [List.append_nil] at hW'
  refine (walk a0 a1 w0 w1 W).mono fun e W' ⟨he, hg⟩ => ?_
  subst he
  exact ⟨_, rfl, _, _, _, [], [], [], hW', (trodAll_cons_mk (shut_bool Try.underlying4 _) trodAll_mk0), (trodAll_cons_mk (shut_int Try.underlying3 w0) (trodAll_cons_mk (shut_int Try.underlying3 w1) trodAll_mk0)), rfl, hg.frame _, fun h => by cases h⟩

theorem over : Rows.bufferRefusesRow.holds Try.pinned (OpenSpec.ofChange Rows.bufferRefusesSpec) :=
  OpenClaim.holds_of_wide 7 Try.f7 rfl rfl rfl rfl rfl rfl rfl ⟨rfl, rfl, rfl, rfl, rfl⟩ rfl rfl rfl rfl rfl (by kernel_rfl) Try.func7 (by kernel_rfl)
    (of_decide_eq_true (by kernel_rfl)) (by unfold Func.isWrapper; first | (rw [if_pos (by decide +kernel)]; kernel_rfl) | (rw [if_neg (by decide +kernel)]; exact ⟨rfl, rfl⟩))
    (fun os started H enc _ => lifted os started H enc)

/-- ████ THE STATEMENT ████ -/
theorem proved : Rows.BufferRefusesSaid :=
  over
#print axioms proved
end Go.Proofs.Ytneimdjgbblaoaa.bufferRefuses
namespace Go.Proofs.Ytneimdjgbblaoaa
theorem bufferRefuses_holds : Rows.BufferRefusesSaid := bufferRefuses.proved
end Go.Proofs.Ytneimdjgbblaoaa
