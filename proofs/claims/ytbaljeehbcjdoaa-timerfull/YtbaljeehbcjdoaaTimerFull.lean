/-
  PROVED: the Go function detentlaw7.TimerFull returns true for every input, and each argument reads behind the call as it read before (Rows.TimerFullSaid). No condition.
-/
import Derived.Test.YtbaljeehbcjdoaaRows
import Derived.Test.YtbaljeehbcjdoaaConL
import Derived.WalkKit
import Derived.ProofKit
import Derived.OpenShut
import Derived.ShutString
import Derived.ChangeOld
import Derived.Below
namespace Go.Proofs.Ytbaljeehbcjdoaa.timerFull
open Go.ChangeShapes Go.WideShapes Go.ChangeAt Go.RowKit
open Go.ChangeMaps (open_string shut_string)
set_option linter.unusedVariables false      -- a walk need not use every 'w<i>' (that an integer argument fits its kind)

theorem own : ownKnob Try.prog.godebug = none := by kernel_rfl

set_option maxHeartbeats 1600000 in
theorem walkIn (a : Int) (ha0 : 0 ≤ a) (ha1 : a ≤ 18446744073709551615) (n : Nat) (hn : n ≤ 20) (w : World) : Calls Try.prog 4 #[.int .u64 a, .int .i64 (n : Int)] w fun e w' => e = .returned (.bool true) ∧ Below w.heap.size w w' := by
  have t1 : decide ((n : Int) < 0) = false := by simp <;> omega
  have t2 : decide ((20 : Int) < (n : Int)) = false := by simp; omega
  have t3 : decide (20 < n) = false := by simp; omega
  go_enter Try.func4, Try.ntmps4
  go_wp2_with fail
  refine (known_any w).mono ?_
  rintro e w0 ⟨rfl, hb0⟩
  go_wp2_with fail
  refine (new_then w w0 hb0).mono ?_
  rintro e w1 ⟨p, rfl, ht, hb⟩
  have HT := Lib.hid ht
  have HB := Lib.hid hb
  clear ht hb hb0 t1 t2 t3
  go_wp2
  go_loopw [6] (fun i wr => ∃ t g : Nat, t ≤ 256 ∧ i = .int .i64 (t : Int) ∧ Hid (Tm wr w.heap.size p g (ful a t) (t : Int)) ∧ Below w.heap.size w wr) (fun i _ => 256 - (intOf i).toNat)
  case atStart => exact ⟨0, p, by omega, rfl, HT.out, HB.out⟩
  case round =>
    obtain ⟨t, g, ht, rfl, hT, hw⟩ := hrel
    clear HT HB
    by_cases hlt : t < 256
    · have i1 : (t : Int) < 256 := by omega
      go_wp2_with fail
      refine (insert_at wr w.heap.size p g _ _ hT.out (by rw [ful_len]; exact hlt) (by omega) a (t : Int) ((t : Int) + 1) rfl _ (ful_ins a t)).mono ?_
      rintro e w2 ⟨rfl, ⟨g2, h2⟩, hb2⟩
      have HT2 := Lib.hid h2
      have HW2 := Lib.hid (hw.trans hb2)
      clear h2 hb2
      go_wp2
      go_roundw
      case rel => exact ⟨t + 1, g2, by omega, by go_num, HT2.out, HW2.out⟩
      case measure => simp [intOf]; omega
    · have e256 : t = 256 := by omega
      have HT : Hid (Tm wr w.heap.size p g (ful a 256) 256) := by have := hT.out; rw [e256] at this; exact this
      have HW := Lib.hid hw
      have i1 : decide ((t : Int) < 256) = false := by simp; omega
      clear hT hw e256
      go_wp2
      go_loopw [9] (fun i wr => ∃ t : Nat, t ≤ n ∧ i = .int .i64 (t : Int) ∧ Hid (Tm wr w.heap.size p g (ful a 256) 256) ∧ Below w.heap.size w wr) (fun i _ => n - (intOf i).toNat)
      case atStart => exact ⟨0, by omega, rfl, HT.out, HW.out⟩
      case round =>
        obtain ⟨s, hs, rfl, hT, hw⟩ := hrel
        clear HT HW
        by_cases hlt : s < n
        · have i1 : (s : Int) < (n : Int) := by omega
          go_wp2_with fail
          refine (insert_full _ w.heap.size p g _ _ hT.out (ful_len a 256) a 0).mono ?_
          rintro e w2 ⟨rfl, rfl⟩
          go_wp2
          go_roundw
          case rel => exact ⟨s + 1, by omega, by go_num, hT.out, hw⟩
          case measure => simp [intOf]; omega
        · have i1 : decide ((s : Int) < (n : Int)) = false := by simp; omega
          have HT := hT
          have HW := Lib.hid hw
          clear hT hw
          by_cases h0 : 0 < a
          · have j1 : decide (0 < a) = true := by simpa using h0
            have j2 : IntKind.u64.wrap (a - 1) = a - 1 := IntWalk.u64_in _ (by omega)
            go_wp2_with fail
            refine (due_at _ w.heap.size p g _ _ HT.out (a - 1) 0 [] _ (due_no (fun x hx => by have := (ful_mem hx).1; omega)).1 rfl (due_no (fun x hx => by have := (ful_mem hx).1; omega)).2).mono ?_
            rintro e w3 ⟨X, k, rfl, _, ht3, hb3⟩
            have HT2 := Lib.hid ht3
            have HW2 := Lib.hid (HW.out.trans hb3)
            clear ht3 hb3 HT HW
            go_wp2_with fail
            refine (due_at w3 w.heap.size p g _ _ HT2.out a 256 _ _ (due_all (fun x hx => by have := (ful_mem hx).1; omega)).1 (ful_len a 256) (due_all (fun x hx => by have := (ful_mem hx).1; omega)).2).mono ?_
            rintro e w4 ⟨X, k, rfl, hown, ht4, hb4⟩
            obtain ⟨b, rfl, _, hk, hc⟩ := own_int hown (by rw [args_len, ful_len]) (by omega)
            have HC : Hid (∀ j : Nat, j < 256 → w4.cell? ⟨b, j, none⟩ = some (.int .i64 (j : Int))) := fun j hj => hc j _ (ful_args a 256 j hj)
            have HT4 := Lib.hid ht4
            have HW4 := Lib.hid (HW2.out.trans hb4)
            clear hown hc ht4 hb4
            go_wp2
            go_loopw [13] (fun i wr => ∃ t : Nat, t ≤ 256 ∧ i = .int .i64 (t : Int) ∧ wr = w4) (fun i _ => 256 - (intOf i).toNat)
            case atStart => exact ⟨0, by omega, rfl, rfl⟩
            case round =>
              obtain ⟨t, ht, rfl, rfl⟩ := hrel
              by_cases hl2 : t < 256
              · have i2 : (t : Int) < 256 := by omega
                have hcc := HC.out t hl2
                go_wp2
                go_roundw
                case rel => exact ⟨t + 1, by omega, by go_num, by first | rfl | trivial⟩
                case measure => simp [intOf]; omega
              · have i2 : decide ((t : Int) < 256) = false := by simp; omega
                go_wp2_with fail
                refine (insert_at _ w.heap.size p g _ _ HT4.out (by decide) (by decide) a 7 257 (by decide) _ rfl).mono ?_
                rintro e w5 ⟨rfl, _, hb5⟩
                go_wp2
                go_ret
                exact ⟨rfl, HW4.out.trans hb5⟩
          · have j1 : decide (0 < a) = false := by simpa using h0
            have HT2 := HT
            have HW2 := HW
            clear HT HW
            go_wp2_with fail
            refine (due_at _ w.heap.size p g _ _ HT2.out a 256 _ _ (due_all (fun x hx => by have := (ful_mem hx).1; omega)).1 (ful_len a 256) (due_all (fun x hx => by have := (ful_mem hx).1; omega)).2).mono ?_
            rintro e w4 ⟨X, k, rfl, hown, ht4, hb4⟩
            obtain ⟨b, rfl, _, hk, hc⟩ := own_int hown (by rw [args_len, ful_len]) (by omega)
            have HC : Hid (∀ j : Nat, j < 256 → w4.cell? ⟨b, j, none⟩ = some (.int .i64 (j : Int))) := fun j hj => hc j _ (ful_args a 256 j hj)
            have HT4 := Lib.hid ht4
            have HW4 := Lib.hid (HW2.out.trans hb4)
            clear hown hc ht4 hb4
            go_wp2
            go_loopw [13] (fun i wr => ∃ t : Nat, t ≤ 256 ∧ i = .int .i64 (t : Int) ∧ wr = w4) (fun i _ => 256 - (intOf i).toNat)
            case atStart => exact ⟨0, by omega, rfl, rfl⟩
            case round =>
              obtain ⟨t, ht, rfl, rfl⟩ := hrel
              by_cases hl2 : t < 256
              · have i2 : (t : Int) < 256 := by omega
                have hcc := HC.out t hl2
                go_wp2
                go_roundw
                case rel => exact ⟨t + 1, by omega, by go_num, by first | rfl | trivial⟩
                case measure => simp [intOf]; omega
              · have i2 : decide ((t : Int) < 256) = false := by simp; omega
                go_wp2_with fail
                refine (insert_at _ w.heap.size p g _ _ HT4.out (by decide) (by decide) a 7 257 (by decide) _ rfl).mono ?_
                rintro e w5 ⟨rfl, _, hb5⟩
                go_wp2
                go_ret
                exact ⟨rfl, HW4.out.trans hb5⟩
theorem walkOut (z a : Int) (h : z < 0 ∨ 20 < z) (w : World) : Calls Try.prog 4 #[.int .u64 a, .int .i64 z] w fun e w' => e = .returned (.bool true) ∧ Below w.heap.size w w' := by
  by_cases h1 : z < 0
  · have t1 : decide (z < 0) = true := by simpa using h1
    go_enter Try.func4, Try.ntmps4
    go_wp2_with fail
    refine (known_any w).mono ?_
    rintro e w0 ⟨rfl, hb0⟩
    go_wp2
    go_ret
    exact ⟨rfl, hb0⟩
  · have t1 : decide (z < 0) = false := by simpa using h1
    have t2 : decide (20 < z) = true := by simp; omega
    go_enter Try.func4, Try.ntmps4
    go_wp2_with fail
    refine (known_any w).mono ?_
    rintro e w0 ⟨rfl, hb0⟩
    go_wp2
    go_ret
    exact ⟨rfl, hb0⟩

/-! ### the walk -/
theorem walk (a0 : Int) (a1 : Int) (w0 : (Lit.int .u64 a0).wf = true) (w1 : (Lit.int .i64 a1).wf = true) (w : World) :
    Calls Try.prog 4 #[.int .u64 a0, .int .i64 a1] w fun e w' => e = .returned (.bool true) ∧ Below w.heap.size w w' := by
  have b0 := bounds_u64 w0
  by_cases h : a1 < 0 ∨ 20 < a1
  · exact walkOut a1 a0 h w
  · obtain ⟨n, rfl⟩ : ∃ n : Nat, a1 = (n : Int) := ⟨a1.toNat, by omega⟩
    exact walkIn a0 b0.1 b0.2 n (by omega) w

/-! ### THE ROW's STEP: WRITTEN OUT: LEAVE IT -/
set_option maxRecDepth 100000 in
theorem lifted (os : Os) (started : os.Started) (H : Type) (enc : TypeId × Value → H) :
    ReturnsInHanded {} Try.checked os 4 .any (Rows.timerFullSpec.pre6 enc Try.prog Try.f4 Rows.timerFullRow.domain false) (Rows.timerFullSpec.post enc Try.prog Try.f4 false true false false) := by
  refine returnsInHanded_of_change (C := Try.checked) own started (by kernel_rfl) Try.func4
    (ChangeSpec.witness6 (enc := enc) (C := Try.checked) false ⟨#[], #[.int .u64 0, .int .i64 0], []⟩ 8 (by kernel_rfl) (by kernel_rfl) (by kernel_rfl) (by kernel_rfl)) ?_
  intro W base args ds gs before hval0 hW hcnd _
  have hval : ∀ (j : Nat) t v, Try.f4.params[j]? = some t → args[j]? = some v → Value.okWide Try.prog W .any base t v := hval0
  have hW' := hW
  obtain ⟨p, q, hA0, hV, rfl, hfz, hnd⟩ := hW
  have hA : DataW.TrodAll enc Try.prog W 0 (fun _ => true) true Try.f4.params.toList args.toList ds p := hA0
  rw [Try.params4] at hA hval
  obtain ⟨v0, vs0, d0, ds0, p0, q0, hargs, rfl, rfl, h0, r0⟩ := trodAll_cons hA
  obtain ⟨v1, vs1, d1, ds1, p1, q1, rfl, rfl, rfl, h1, r1⟩ := trodAll_cons r0
  obtain ⟨rfl, rfl, rfl⟩ := trodAll_nil r1
  obtain rfl : args = #[v0, v1] := by cases args; simp_all
  obtain ⟨rfl, rfl⟩ := trodVars_none hV
  obtain ⟨a0, rfl, rfl, rfl, w0⟩ := open_int Try.underlying23 (hval 0 23 v0 rfl rfl) h0
  obtain ⟨a1, rfl, rfl, rfl, w1⟩ := open_int Try.underlying3 (hval 1 3 v1 rfl rfl) h1
  clear hA0 hval0
  simp only [List.append_nil] at hW'
  refine (walk a0 a1 w0 w1 W).mono fun e W' ⟨he, hg⟩ => ?_
  subst he
  exact ⟨_, rfl, _, _, _, [], [], [], hW', (trodAll_cons_mk (shut_bool Try.underlying4 _) trodAll_mk0), (trodAll_cons_mk (shut_int Try.underlying23 w0) (trodAll_cons_mk (shut_int Try.underlying3 w1) trodAll_mk0)), rfl, hg.frame _, fun h => by cases h⟩

theorem over : Rows.timerFullRow.holds Try.pinned (OpenSpec.ofChange Rows.timerFullSpec) :=
  OpenClaim.holds_of_wide 4 Try.f4 rfl rfl rfl rfl rfl rfl rfl ⟨rfl, rfl, rfl, rfl, rfl⟩ rfl rfl rfl rfl rfl (by kernel_rfl) Try.func4 (by kernel_rfl)
    (of_decide_eq_true (by kernel_rfl)) (by unfold Func.isWrapper; first | (rw [if_pos (by decide +kernel)]; kernel_rfl) | (rw [if_neg (by decide +kernel)]; exact ⟨rfl, rfl⟩))
    (fun os started H enc _ => lifted os started H enc)

/-- ████ THE STATEMENT ████ -/
theorem proved : Rows.TimerFullSaid :=
  over
#print axioms proved
end Go.Proofs.Ytbaljeehbcjdoaa.timerFull
namespace Go.Proofs.Ytbaljeehbcjdoaa
theorem timerFull_holds : Rows.TimerFullSaid := timerFull.proved
end Go.Proofs.Ytbaljeehbcjdoaa
