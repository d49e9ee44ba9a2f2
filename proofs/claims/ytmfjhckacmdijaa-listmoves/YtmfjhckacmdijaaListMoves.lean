/-
  PROVED: the Go function detentlaw3.ListMoves returns true for every input, and each argument reads behind the call as it read before (Rows.ListMovesSaid). No condition.
-/
import Derived.Test.YtmfjhckacmdijaaRows
import Derived.Test.YtmfjhckacmdijaaConL
import Derived.WalkKit
import Derived.ProofKit
import Derived.OpenShut
import Derived.ShutString
import Derived.ChangeOld
import Derived.Below
namespace Go.Proofs.Ytmfjhckacmdijaa.listMoves
open Go.ChangeShapes Go.WideShapes Go.ChangeAt Go.RowKit
open Go.ChangeMaps (open_string shut_string)
set_option linter.unusedVariables false      -- a walk need not use every 'w<i>' (that an integer argument fits its kind)

theorem own : ownKnob Try.prog.godebug = none := by kernel_rfl

def Post (w : World) (e : Ending) (w' : World) : Prop := e = .returned (.bool true) ∧ Below w.heap.size w w'

def FillRel (p m n : Nat) (w : World) (i : Value) (wr : World) : Prop :=
  ∃ (t : Nat) (R : Nat → List Nat), t ≤ n ∧ i = .int .i64 t ∧ Lst wr p m n 2 R ∧ R 0 = List.range t ∧ R 1 = [] ∧ Below w.heap.size w wr
def MoveRel (p m n : Nat) (w : World) (i : Value) (wr : World) : Prop :=
  ∃ (t : Nat) (R : Nat → List Nat), t ≤ n ∧ i = .int .i64 t ∧ Lst wr p m n 2 R ∧ R 0 = List.range' t (n - t) ∧ R 1 = (List.range t).reverse ∧ Below w.heap.size w wr

set_option maxHeartbeats 1600000 in
theorem walkOut (a : Int) (h : ¬ (1 ≤ a ∧ a ≤ 200)) (w : World) : Calls Try.prog 6 #[.int .i64 a] w (Post w) := by
  by_cases h1 : a < 1
  · clear h
    go_enter Try.func6, Try.ntmps6
    go_wp2_with fail
    refine (known_any _).mono ?_
    rintro e w0 ⟨rfl, hb0⟩
    go_wp2
    go_ret
    exact ⟨rfl, hb0⟩
  have t1 : decide (a < 1) = false := by simpa using h1
  have h2 : 200 < a := by omega
  clear h h1
  go_enter Try.func6, Try.ntmps6
  go_wp2_with fail
  refine (known_any _).mono ?_
  rintro e w0 ⟨rfl, hb0⟩
  go_wp2
  go_ret
  exact ⟨rfl, hb0⟩

theorem rev_at (n i : Nat) (h : i < n) : (List.range n).reverse[i]? = some (n - 1 - i) := by
  rw [List.getElem?_reverse (by simpa using h), List.length_range, List.getElem?_range (by omega)]

set_option maxHeartbeats 3200000 in
set_option maxRecDepth 100000 in
theorem walkIn (n : Nat) (hn0 : 1 ≤ n) (hn : n ≤ 200) (w : World) : Calls Try.prog 6 #[.int .i64 (n : Int)] w (Post w) := by
  have t1 : decide ((n : Int) < 1) = false := by simp; omega
  have t2 : decide ((200 : Int) < (n : Int)) = false := by simp; omega
  go_enter Try.func6, Try.ntmps6
  go_wp2_with fail
  refine (known_any _).mono ?_
  rintro e w0 ⟨rfl, hb0⟩
  have HB0 := Lib.hid hb0
  clear hb0
  go_wp2_with fail
  refine (new_ok n 2 hn0 (by omega) (by omega) (by omega) w0).mono ?_
  rintro e w1 ⟨p, m, hp, hm, rfl, hl1, hb1⟩
  have HB1 : Hid (Below w.heap.size w w1) := HB0.out.trans (hb1.mono HB0.out.size)
  have hm' : w.heap.size ≤ m := Nat.le_trans HB0.out.size hm
  clear HB0 hb1 hp hm
  go_wp2
  go_loopw [5] (fun i wr => FillRel p m n w i wr) (fun i _ => n - (intOf i).toNat)
  case atStart => exact ⟨0, _, Nat.zero_le _, rfl, hl1, rfl, rfl, HB1.out⟩
  case round =>
    obtain ⟨t, R, ht, rfl, hl2, hR, hR1, hb2⟩ := hrel
    have HR := Lib.hid hR
    have HR1 := Lib.hid hR1
    have HB2 := Lib.hid hb2
    clear hR hb2 hl1 HB1 hR1
    by_cases hlt : t < n
    · have HK := Lib.hid (back_one p m n 2 0 t R wr hl2 (by omega) (by omega) (by omega) (by omega) (by rw [inn2, HR.out, HR1.out]; simp) t rfl 0 rfl)
      go_wp2_with fail
      refine HK.out.mono ?_
      rintro e w3 ⟨rfl, hl3, ho3⟩
      have HB3 := Lib.hid (HB2.out.trans (ho3.below HB2.out.size hm' hm'))
      clear HK HB2 hl2 ho3
      go_wp2
      go_roundw
      case rel => exact ⟨t + 1, _, by omega, by go_num, hl3, by rw [setR_same, HR.out, List.range_succ], by rw [setR_ne _ _ _ _ (by omega)]; exact HR1.out, HB3.out⟩
      case measure => simp [intOf]; omega
    · obtain rfl : t = n := by omega
      clear hlt
      go_wp2
      go_loopw [6] (fun i wr => MoveRel p m t w i wr) (fun i _ => t - (intOf i).toNat)
      case atStart => exact ⟨0, _, Nat.zero_le _, rfl, hl2, by rw [HR.out, List.range_eq_range', Nat.sub_zero], by rw [HR1.out]; rfl, HB2.out⟩
      case round =>
        obtain ⟨k, S, hk, rfl, hl3, hS, hS1, hb3⟩ := hrel
        have HB3 := Lib.hid hb3
        clear hb3 hl2 HB2 HR HR1
        by_cases hlt : k < t
        · have hS0 : S 0 = k :: List.range' (k + 1) (t - (k + 1)) := by
            rw [hS]; obtain ⟨j, hj⟩ : ∃ j, t - k = j + 1 := ⟨t - k - 1, by omega⟩
            rw [hj, List.range'_succ]; congr 2; omega
          have hni : ∀ S' : Nat → List Nat, S' 0 = List.range' (k + 1) (t - (k + 1)) → S' 1 = (List.range k).reverse → ¬ Inn 2 S' k := by
            intro S' h0 h1; rw [inn2, h0, h1]; simp; omega
          have HNI := Lib.hid hni
          have HS0 := Lib.hid hS0
          have HS1 := Lib.hid hS1
          have HK1 := Lib.hid (first_row p m t 2 0 S wr hl3 (by omega) (by omega) (by omega))
          rw [HS0.out, hdv_cons, nev_cons] at HK1
          clear hS hS1 hS0 hni
          go_wp2_with fail
          refine HK1.out.mono ?_
          rintro e w4 ⟨rfl, n4, rfl⟩
          have hl4 := hl3.drewN n4
          have HB4 : Hid (Below w.heap.size w (wr.drewN n4)) := ⟨HB3.out.os, HB3.out.tape, HB3.out.output, HB3.out.size, HB3.out.block⟩
          generalize wr.drewN n4 = w4 at *
          clear hl3 HB3 HK1
          have HK := Lib.hid (remove_ok p m t 2 k 0 S w4 hl4 (by omega) [] (List.range' (k + 1) (t - (k + 1))) HS0.out)
          go_wp2_with fail
          refine HK.out.mono ?_
          rintro e w5 ⟨rfl, hl5, ho5⟩
          have HB5 := Lib.hid (HB4.out.trans (ho5.below HB4.out.size hm' hm'))
          have HT0 : Hid (setR S 0 ([] ++ List.range' (k + 1) (t - (k + 1))) 0 = List.range' (k + 1) (t - (k + 1))) := by show _ = _; rw [setR_same]; rfl
          have HT1 : Hid (setR S 0 ([] ++ List.range' (k + 1) (t - (k + 1))) 1 = (List.range k).reverse) := by show _ = _; rw [setR_ne _ _ _ _ (by omega)]; exact HS1.out
          generalize setR S 0 ([] ++ List.range' (k + 1) (t - (k + 1))) = T at *
          clear HK HB4 ho5 hl4 HS0 HS1
          have HK := Lib.hid (front_ok p m t 2 1 k T w5 hl5 (by omega) (by omega) ⟨by omega, by simp; omega, fun n hn => by simp at hn; subst hn; simpa using HNI.out T HT0.out HT1.out, by simp⟩)
          have e1 : ((1 : Nat) : Int) = 1 := rfl
          rw [e1] at HK
          go_wp2_with fail
          refine HK.out.mono ?_
          rintro e w6 ⟨rfl, hl6, ho6⟩
          have HB6 := Lib.hid (HB5.out.trans (ho6.below HB5.out.size hm' hm'))
          clear HK HB5 ho6 hl5
          go_wp2
          go_roundw
          case rel => exact ⟨k + 1, _, by omega, by go_num, hl6, by rw [setR_ne _ _ _ _ (by omega)]; exact HT0.out, by rw [setR_same, HT1.out, List.range_succ, List.reverse_append]; rfl, HB6.out⟩
          case measure => simp [intOf]; omega
        · obtain rfl : k = t := by omega
          rw [Nat.sub_self] at hS
          have HS0 := Lib.hid hS
          have HS1 := Lib.hid hS1
          clear hS hS1 hlt
          have HK := Lib.hid (row_l p m k 2 1 S wr hl3 (by omega) (by omega) (by omega) _ HS1.out k (by simp) 1 rfl)
          go_wp2_with fail
          refine HK.out.mono ?_
          rintro e w4 ⟨A, cap, rfl, hk1, hk2, hnd, hb4⟩
          have hl4 := hl3.below hb4 hl3.ltp hl3.ltm
          have HB4 := Lib.hid (HB3.out.trans (hb4.mono HB3.out.size))
          clear HK HB3 hb4 hl3
          obtain ⟨b, o, rfl, hbm⟩ := hnd.some (by simp; omega)
          have HC : Hid (∀ j, j < k → w4.cell? ⟨b, o + j, none⟩ = some (.int .i64 ((k - 1 - j : Nat) : Int))) := fun j hj => hnd.cell (j := j) rfl (rev_at k j hj)
          clear hnd
          go_wp2
          go_loop [10] (fun i => ∃ s : Nat, s ≤ k ∧ i = .int .i64 (s : Int)) (fun i => k - (intOf i).toNat)
          case atStart => exact ⟨0, Nat.zero_le _, rfl⟩
          case round =>
            obtain ⟨s, hs, rfl⟩ := hrel
            by_cases hlt : s < k
            · have hc := HC.out s hlt
              have HK := Lib.hid (of_row p m k 2 1 (k - 1 - s) S w4 hl4 (by omega) (by rw [HS1.out]; simp; omega))
              have e1 : ((k - 1 - s : Nat) : Int) = (k : Int) - 1 - (s : Int) := by omega
              have e2 : ((1 : Nat) : Int) = 1 := rfl
              rw [e1] at HK hc
              rw [e2] at HK
              clear e1 e2
              go_wp2_with fail
              refine HK.out.mono ?_
              rintro e w5 ⟨rfl, rfl⟩
              go_wp2
              go_round
              case rel => exact ⟨s + 1, by omega, by go_num⟩
              case measure => simp [intOf]; omega
            · obtain rfl : s = k := by omega
              have HK := Lib.hid (len_l p m s 2 0 S w4 hl4 (by omega) (by omega) (by omega) _ HS0.out 0 rfl 0 rfl)
              go_wp2_with fail
              refine HK.out.mono ?_
              rintro e w5 ⟨rfl, j, rfl⟩
              go_wp2
              go_ret
              exact ⟨rfl, HB4.out.os, HB4.out.tape, HB4.out.output, HB4.out.size, HB4.out.block⟩

/-! ### the walk -/
theorem walk (a0 : Int) (w0 : (Lit.int .i64 a0).wf = true) (w : World) :
    Calls Try.prog 6 #[.int .i64 a0] w fun e w' => e = .returned (.bool true) ∧ Below w.heap.size w w' := by
  by_cases h : 1 ≤ a0 ∧ a0 ≤ 200
  · obtain ⟨N, rfl⟩ : ∃ n : Nat, a0 = n := ⟨a0.toNat, by omega⟩
    exact walkIn N (by omega) (by omega) w
  · exact walkOut a0 h w

/-! ### THE ROW's STEP: WRITTEN OUT: LEAVE IT -/
set_option maxRecDepth 100000 in
theorem lifted (os : Os) (started : os.Started) (H : Type) (enc : TypeId × Value → H) :
    ReturnsInHanded {} Try.checked os 6 .any (Rows.listMovesSpec.pre6 enc Try.prog Try.f6 Rows.listMovesRow.domain false) (Rows.listMovesSpec.post enc Try.prog Try.f6 false true false false) := by
  refine returnsInHanded_of_change (C := Try.checked) own started (by kernel_rfl) Try.func6
    (ChangeSpec.witness6 (enc := enc) (C := Try.checked) false ⟨#[], #[.int .i64 0], []⟩ 8 (by kernel_rfl) (by kernel_rfl) (by kernel_rfl) (by kernel_rfl)) ?_
  intro W base args ds gs before hval0 hW hcnd _
  have hval : ∀ (j : Nat) t v, Try.f6.params[j]? = some t → args[j]? = some v → Value.okWide Try.prog W .any base t v := hval0
  have hW' := hW
  obtain ⟨p, q, hA0, hV, rfl, hfz, hnd⟩ := hW
  have hA : DataW.TrodAll enc Try.prog W 0 (fun _ => true) true Try.f6.params.toList args.toList ds p := hA0
  rw [Try.params6] at hA hval
  obtain ⟨v0, vs0, d0, ds0, p0, q0, hargs, rfl, rfl, h0, r0⟩ := trodAll_cons hA
  obtain ⟨rfl, rfl, rfl⟩ := trodAll_nil r0
  obtain rfl : args = #[v0] := by cases args; simp_all
  obtain ⟨rfl, rfl⟩ := trodVars_none hV
  obtain ⟨a0, rfl, rfl, rfl, w0⟩ := open_int Try.underlying3 (hval 0 3 v0 rfl rfl) h0
  clear hA0 hval0
  simp only [List.append_nil] at hW'
  refine (walk a0 w0 W).mono fun e W' ⟨he, hg⟩ => ?_
  subst he
  exact ⟨_, rfl, _, _, _, [], [], [], hW', (trodAll_cons_mk (shut_bool Try.underlying4 _) trodAll_mk0), (trodAll_cons_mk (shut_int Try.underlying3 w0) trodAll_mk0), rfl, hg.frame _, fun h => by cases h⟩

theorem over : Rows.listMovesRow.holds Try.pinned (OpenSpec.ofChange Rows.listMovesSpec) :=
  OpenClaim.holds_of_wide 6 Try.f6 rfl rfl rfl rfl rfl rfl rfl ⟨rfl, rfl, rfl, rfl, rfl⟩ rfl rfl rfl rfl rfl (by kernel_rfl) Try.func6 (by kernel_rfl)
    (of_decide_eq_true (by kernel_rfl)) (by unfold Func.isWrapper; first | (rw [if_pos (by decide +kernel)]; kernel_rfl) | (rw [if_neg (by decide +kernel)]; exact ⟨rfl, rfl⟩))
    (fun os started H enc _ => lifted os started H enc)

/-- ████ THE STATEMENT ████ -/
theorem proved : Rows.ListMovesSaid :=
  over
#print axioms proved
end Go.Proofs.Ytmfjhckacmdijaa.listMoves
namespace Go.Proofs.Ytmfjhckacmdijaa
theorem listMoves_holds : Rows.ListMovesSaid := listMoves.proved
end Go.Proofs.Ytmfjhckacmdijaa
