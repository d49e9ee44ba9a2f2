/-
  PROVED: the Go function detentlaw4.OrderZero returns true for every input, and each argument reads behind the call as it read before (Rows.OrderZeroSaid). No condition.
-/
import Derived.Test.YtklchhbkeoaloaaRows
import Derived.Test.YtklchhbkeoaloaaConK
import Derived.WalkKit
import Derived.ProofKit
import Derived.OpenShut
import Derived.ShutString
import Derived.ChangeOld
import Derived.Below
namespace Go.Proofs.Ytklchhbkeoaloaa.orderZero
open Go.ChangeShapes Go.WideShapes Go.ChangeAt Go.RowKit
open Go.ChangeMaps (open_string shut_string)
set_option linter.unusedVariables false      -- a walk need not use every 'w<i>' (that an integer argument fits its kind)

theorem own : ownKnob Try.prog.godebug = none := by kernel_rfl

theorem ln_zero (w : World) (cs : Array Value) (h : cs = Array.replicate 33 (Value.int .i64 0)) : Ln (w.alloc (.cells cs 40)) w.heap.size 40 false [] := by
  subst h
  refine ⟨fun _ => 0, ⟨_, heap_alloc_new w _, fun i hi => ?_, ?_, fun e => by cases e⟩, fun j x hx => by simp at hx⟩
  · rw [Array.getElem?_replicate, if_pos (by omega)]
  · rfl


/-! ### the walk -/
theorem walk (a0 : Int) (w0 : (Lit.int .i64 a0).wf = true) (w : World) :
    Calls Try.prog 5 #[.int .i64 a0] w fun e w' => e = .returned (.bool true) ∧ Below w.heap.size w w' := by
  clear w0
  have HP0 : Hid (pos [] a0 = 0) := rfl
  go_enter Try.func5, Try.ntmps5
  go_wp2_with fail
  refine (known_ok _).mono ?_
  rintro e w0 ⟨rfl, hb0⟩
  go_wp2_with fail
  have hb1 := hb0.alloc hb0.size (.cells (Array.replicate 33 (Value.int .i64 0)) 40)
  have hl1 := ln_zero w0 _ rfl
  have hpw : w.heap.size ≤ w0.heap.size := hb0.size
  change Calls _ _ _ (w0.alloc (.cells (Array.replicate 33 (Value.int .i64 0)) 40)) _
  generalize w0.alloc (.cells (Array.replicate 33 (Value.int .i64 0)) 40) = w1 at *
  generalize w0.heap.size = p at *
  clear hb0
  refine (first_none p 40 false w1 hl1).mono ?_
  rintro e w2 ⟨rfl, hk2⟩
  have hl2 := (hl1.below hk2).alloc (.cells #[.int .i64 0, .int .i64 0] 37)
  have hb2 := hb1.trans (hk2.mono hb1.size)
  have hb3 := hb2.alloc hb2.size (.cells #[.int .i64 0, .int .i64 0] 37)
  have hx3 := box_new w2 37 (.int .i64 0) (.int .i64 0)
  go_wp2_with fail
  generalize w2.alloc (.cells #[.int .i64 0, .int .i64 0] 37) = w3 at *
  generalize w2.heap.size = g at *
  clear hl1 hb1 hk2 hb2
  refine (pri_none p 40 false [] w3 hl2 (by simp) a0 (by simp)).mono ?_
  rintro e w4 ⟨rfl, hk4⟩
  have hl4 := hl2.below hk4
  have hb4 := hb3.trans (hk4.mono hb3.size)
  have hx4 := hx3.below hk4
  clear hl2 hb3 hx3 hk4
  go_wp2_with fail
  refine (has_any p 40 false [] w4 hl4 (by simp) a0 false (by simp)).mono ?_
  rintro e w5 ⟨rfl, hk5⟩
  have hl5 := hl4.below hk5
  have hb5 := hb4.trans (hk5.mono hb4.size)
  have hx5 := hx4.below hk5
  clear hl4 hb4 hx4 hk5
  go_wp2_with fail
  refine (len_ok p 40 false [] w5 hl5).mono ?_
  rintro e w6 ⟨rfl, rfl⟩
  go_wp2_with fail
  refine (row_ok p 40 false [] w5 hl5 (by simp)).mono ?_
  rintro e w7 ⟨v, rfl, hs7, hk7⟩
  have hl7 := hl5.below hk7
  have hb7 := hb5.trans (hk7.mono hb5.size)
  have hx7 := hx5.below hk7
  obtain ⟨X, k, rfl⟩ : ∃ X k, v = .slice X 0 k := by
    rcases hs7 with ⟨rfl, _⟩ | ⟨g, o, k, cs, rfl, _⟩
    · exact ⟨_, _, rfl⟩
    · exact ⟨_, _, rfl⟩
  have c0 := hx7.c0
  clear hl5 hb5 hx5 hk7 hs7
  go_wp2_with fail
  refine (remove_to p 40 false [] [] false w7 hl7 (by simp) a0 (by simp) (by simp)).mono ?_
  rintro e w8 ⟨rfl, hl8, ho8⟩
  go_wp2
  go_ret
  exact ⟨rfl, hb7.trans (ho8.below hb7.size hpw)⟩

/-! ### THE ROW's STEP: WRITTEN OUT: LEAVE IT -/
set_option maxRecDepth 100000 in
theorem lifted (os : Os) (started : os.Started) (H : Type) (enc : TypeId × Value → H) :
    ReturnsInHanded {} Try.checked os 5 .any (Rows.orderZeroSpec.pre6 enc Try.prog Try.f5 Rows.orderZeroRow.domain false) (Rows.orderZeroSpec.post enc Try.prog Try.f5 false true false false) := by
  refine returnsInHanded_of_change (C := Try.checked) own started (by kernel_rfl) Try.func5
    (ChangeSpec.witness6 (enc := enc) (C := Try.checked) false ⟨#[], #[.int .i64 0], []⟩ 8 (by kernel_rfl) (by kernel_rfl) (by kernel_rfl) (by kernel_rfl)) ?_
  intro W base args ds gs before hval0 hW hcnd _
  have hval : ∀ (j : Nat) t v, Try.f5.params[j]? = some t → args[j]? = some v → Value.okWide Try.prog W .any base t v := hval0
  have hW' := hW
  obtain ⟨p, q, hA0, hV, rfl, hfz, hnd⟩ := hW
  have hA : DataW.TrodAll enc Try.prog W 0 (fun _ => true) true Try.f5.params.toList args.toList ds p := hA0
  rw [Try.params5] at hA hval
  obtain ⟨v0, vs0, d0, ds0, p0, q0, hargs, rfl, rfl, h0, r0⟩ := trodAll_cons hA
  obtain ⟨rfl, rfl, rfl⟩ := trodAll_nil r0
  obtain rfl : args = #[v0] := by cases args; simp_all
  obtain ⟨rfl, rfl⟩ := trodVars_none hV
  obtain ⟨a0, rfl, rfl, rfl, w0⟩ := open_int Try.underlying3 (hval 0 3 v0 rfl rfl) h0
  clear hA0 hval0
  simp only [List.append_nil] at hW'
  refine (walk a0 w0 W).mono fun e W' ⟨he, hg⟩ => ?_
  subst he
  exact ⟨_, rfl, _, _, _, [], [], [], hW', (trodAll_cons_mk (shut_bool Try.underlying4 _) trodAll_mk0), (trodAll_cons_mk (shut_int Try.underlying3 w0) trodAll_mk0), rfl, hg.frame _, fun h => by cases h⟩

theorem over : Rows.orderZeroRow.holds Try.pinned (OpenSpec.ofChange Rows.orderZeroSpec) :=
  OpenClaim.holds_of_wide 5 Try.f5 rfl rfl rfl rfl rfl rfl rfl ⟨rfl, rfl, rfl, rfl, rfl⟩ rfl rfl rfl rfl rfl (by kernel_rfl) Try.func5 (by kernel_rfl)
    (of_decide_eq_true (by kernel_rfl)) (by unfold Func.isWrapper; first | (rw [if_pos (by decide +kernel)]; kernel_rfl) | (rw [if_neg (by decide +kernel)]; exact ⟨rfl, rfl⟩))
    (fun os started H enc _ => lifted os started H enc)

/-- ████ THE STATEMENT ████ -/
theorem proved : Rows.OrderZeroSaid :=
  over
#print axioms proved
end Go.Proofs.Ytklchhbkeoaloaa.orderZero
namespace Go.Proofs.Ytklchhbkeoaloaa
theorem orderZero_holds : Rows.OrderZeroSaid := orderZero.proved
end Go.Proofs.Ytklchhbkeoaloaa
