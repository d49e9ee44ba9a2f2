/-
  PROVED: the Go function detentlaw3.ListBefore returns true for every input, and each argument reads behind the call as it read before (Rows.ListBeforeSaid). No condition.
-/
import Derived.Test.YtmfjhckacmdijaaRows
import Derived.Test.YtmfjhckacmdijaaConL
import Derived.WalkKit
import Derived.ProofKit
import Derived.OpenShut
import Derived.ShutString
import Derived.ChangeOld
import Derived.Below
namespace Go.Proofs.Ytmfjhckacmdijaa.listBefore
open Go.ChangeShapes Go.WideShapes Go.ChangeAt Go.RowKit
open Go.ChangeMaps (open_string shut_string)
set_option linter.unusedVariables false      -- a walk need not use every 'w<i>' (that an integer argument fits its kind)

theorem own : ownKnob Try.prog.godebug = none := by kernel_rfl

def Post (w : World) (e : Ending) (w' : World) : Prop := e = .returned (.bool true) ∧ Below w.heap.size w w'

def FillRel (p m N : Nat) (w : World) (n : Nat) (i : Value) (wr : World) : Prop :=
  ∃ (t : Nat) (R : Nat → List Nat), t ≤ n ∧ i = .int .i64 t ∧ Lst wr p m N 1 R ∧ R 0 = List.range t ∧ Below w.heap.size w wr

set_option maxHeartbeats 1600000 in
theorem walkOut (a b : Int) (h : ¬ (1 ≤ a ∧ a ≤ 100 ∧ 0 ≤ b ∧ b < a)) (w : World) : Calls Try.prog 7 #[.int .i64 a, .int .i64 b] w (Post w) := by
  by_cases h1 : a < 1
  · clear h
    go_enter Try.func7, Try.ntmps7
    go_wp2_with fail
    refine (known_any _).mono ?_
    rintro e w0 ⟨rfl, hb0⟩
    go_wp2
    go_ret
    exact ⟨rfl, hb0⟩
  have t1 : decide (a < 1) = false := by simpa using h1
  by_cases h2 : 100 < a
  · clear h
    go_enter Try.func7, Try.ntmps7
    go_wp2_with fail
    refine (known_any _).mono ?_
    rintro e w0 ⟨rfl, hb0⟩
    go_wp2
    go_ret
    exact ⟨rfl, hb0⟩
  have t2 : decide (100 < a) = false := by simpa using h2
  by_cases h3 : b < 0
  · clear h
    go_enter Try.func7, Try.ntmps7
    go_wp2_with fail
    refine (known_any _).mono ?_
    rintro e w0 ⟨rfl, hb0⟩
    go_wp2
    go_ret
    exact ⟨rfl, hb0⟩
  have t3 : decide (b < 0) = false := by simpa using h3
  have h4 : a ≤ b := by omega
  clear h h1 h2 h3
  go_enter Try.func7, Try.ntmps7
  go_wp2_with fail
  refine (known_any _).mono ?_
  rintro e w0 ⟨rfl, hb0⟩
  go_wp2
  go_ret
  exact ⟨rfl, hb0⟩

set_option maxHeartbeats 3200000 in
set_option maxRecDepth 100000 in
theorem walkIn (n a : Nat) (hn0 : 1 ≤ n) (hn : n ≤ 100) (ha : a < n) (w : World) : Calls Try.prog 7 #[.int .i64 (n : Int), .int .i64 (a : Int)] w (Post w) := by
  have t1 : decide ((n : Int) < 1) = false := by simp; omega
  have t2 : decide ((100 : Int) < (n : Int)) = false := by simp; omega
  have t3 : decide ((a : Int) < 0) = false := by simp
  have t4 : decide ((n : Int) ≤ (a : Int)) = false := by simp; omega
  have t4' : decide (n ≤ a) = false := by simp; omega
  go_enter Try.func7, Try.ntmps7
  go_wp2_with fail
  refine (known_any _).mono ?_
  rintro e w0 ⟨rfl, hb0⟩
  have HB0 := Lib.hid hb0
  clear hb0
  have HN := Lib.hid (new_ok (n + 1) 1 (by omega) (by omega) (by omega) (by omega) w0)
  have e1 : ((n + 1 : Nat) : Int) = (n : Int) + 1 := by omega
  rw [e1] at HN
  clear e1
  go_wp2_with fail
  refine HN.out.mono ?_
  rintro e w1 ⟨p, m, hp, hm, rfl, hl1, hb1⟩
  have HB1 : Hid (Below w.heap.size w w1) := HB0.out.trans (hb1.mono HB0.out.size)
  have hm' : w.heap.size ≤ m := Nat.le_trans HB0.out.size hm
  clear HB0 hb1 hp hm HN
  go_wp2
  go_loopw [7] (fun i wr => FillRel p m (n + 1) w n i wr) (fun i _ => n - (intOf i).toNat)
  case atStart => exact ⟨0, _, Nat.zero_le _, rfl, hl1, rfl, HB1.out⟩
  case round =>
    obtain ⟨t, R, ht, rfl, hl2, hR, hb2⟩ := hrel
    have HR := Lib.hid hR
    have HB2 := Lib.hid hb2
    clear hR hb2 hl1 HB1
    by_cases hlt : t < n
    · have HK := Lib.hid (back_one p m (n + 1) 1 0 t R wr hl2 (by omega) (by omega) (by omega) (by omega) (by rw [inn1, HR.out]; simp) t rfl 0 rfl)
      go_wp2_with fail
      refine HK.out.mono ?_
      rintro e w3 ⟨rfl, hl3, ho3⟩
      have HB3 := Lib.hid (HB2.out.trans (ho3.below HB2.out.size hm' hm'))
      clear HK HB2 hl2 ho3
      go_wp2
      go_roundw
      case rel => exact ⟨t + 1, _, by omega, by go_num, hl3, by rw [setR_same, HR.out, List.range_succ], HB3.out⟩
      case measure => simp [intOf]; omega
    · obtain rfl : t = n := by omega
      have hp1 := range_part t a ha
      obtain ⟨T, hT⟩ : ∃ T, T = (List.range t).drop (a + 1) := ⟨_, rfl⟩
      have hTl : T.length = t - (a + 1) := by rw [hT]; simp
      rw [← hT] at hp1
      have hR : R 0 = List.range a ++ a :: T := by rw [HR.out]; exact hp1
      have hni : ¬ Inn 1 R t := by rw [inn1, HR.out]; simp
      have HK := Lib.hid (before_ok p m (t + 1) 1 t a 0 R wr hl2 (by omega) (by omega) (List.range a) T hR hni)
      clear hT hp1 hni hR HR hlt
      go_wp2_with fail
      refine HK.out.mono ?_
      rintro e w3 ⟨rfl, hl3, ho3⟩
      have HB3 := Lib.hid (HB2.out.trans (ho3.below HB2.out.size hm' hm'))
      have HR : Hid (setR R 0 (List.range a ++ t :: a :: T) 0 = List.range a ++ t :: a :: T) := setR_same _ _ _
      generalize setR R 0 (List.range a ++ t :: a :: T) = R3 at *
      clear HK HB2 hl2 ho3
      have HK := Lib.hid (before_obj p m (t + 1) 1 t a R3 w3 hl3 (by omega) (by omega) (by rw [inn1, inn1, HR.out]; simp))
      go_wp2_with fail
      refine HK.out.mono ?_
      rintro e w4 ⟨rfl, hl4, ho4⟩
      have HB4 := Lib.hid (HB3.out.trans (ho4.below HB3.out.size hm' hm'))
      clear HK HB3 hl3 ho4
      have HK := Lib.hid (next_row p m (t + 1) 1 0 t R3 w4 hl4 (by omega) (List.range a) (a :: T) HR.out)
      rw [hdv_cons, nev_cons] at HK
      go_wp2_with fail
      refine HK.out.mono ?_
      rintro e w5 ⟨rfl, rfl⟩
      clear HK
      have HK := Lib.hid (row_l p m (t + 1) 1 0 R3 w4 hl4 (by omega) (by omega) (by omega) _ HR.out (t + 1) (by simp; omega) 0 rfl)
      go_wp2_with fail
      refine HK.out.mono ?_
      rintro e w6 ⟨A, k, rfl, hk1, hk2, hnd, hb6⟩
      have hl6 := hl4.below hb6 hl4.ltp hl4.ltm
      have HB6 := Lib.hid (HB4.out.trans (hb6.mono HB4.out.size))
      clear HK HB4 hb6 hl4
      obtain ⟨b, o, rfl, hbm⟩ := hnd.some (by rw [List.length_append]; simp only [List.length_cons]; omega)
      have hc := hnd.cell (j := a) (x := t) rfl (by rw [List.getElem?_append_right (by simp)]; simp)
      clear hnd
      have HK := Lib.hid (remove_ok p m (t + 1) 1 t 0 R3 w6 hl6 (by omega) (List.range a) (a :: T) HR.out)
      have i1 : (a : Int) < ((t + 1 : Nat) : Int) := by omega
      go_wp2_with fail
      refine HK.out.mono ?_
      rintro e w7 ⟨rfl, hl7, ho7⟩
      have HB7 := Lib.hid (HB6.out.trans (ho7.below HB6.out.size hm' hm'))
      clear HK HB6 hl6 ho7 hc
      have HK := Lib.hid (len_l p m (t + 1) 1 0 _ w7 hl7 (by omega) (by omega) (by omega) _ (setR_same _ _ _) t (by simp; omega) 0 rfl)
      go_wp2_with fail
      refine HK.out.mono ?_
      rintro e w8 ⟨rfl, j, rfl⟩
      go_wp2
      go_ret
      exact ⟨rfl, HB7.out.os, HB7.out.tape, HB7.out.output, HB7.out.size, HB7.out.block⟩

/-! ### the walk -/
theorem walk (a0 : Int) (a1 : Int) (w0 : (Lit.int .i64 a0).wf = true) (w1 : (Lit.int .i64 a1).wf = true) (w : World) :
    Calls Try.prog 7 #[.int .i64 a0, .int .i64 a1] w fun e w' => e = .returned (.bool true) ∧ Below w.heap.size w w' := by
  by_cases h : 1 ≤ a0 ∧ a0 ≤ 100 ∧ 0 ≤ a1 ∧ a1 < a0
  · obtain ⟨N, rfl⟩ : ∃ n : Nat, a0 = n := ⟨a0.toNat, by omega⟩
    obtain ⟨H, rfl⟩ : ∃ n : Nat, a1 = n := ⟨a1.toNat, by omega⟩
    exact walkIn N H (by omega) (by omega) (by omega) w
  · exact walkOut a0 a1 h w

/-! ### THE ROW's STEP: WRITTEN OUT: LEAVE IT -/
set_option maxRecDepth 100000 in
theorem lifted (os : Os) (started : os.Started) (H : Type) (enc : TypeId × Value → H) :
    ReturnsInHanded {} Try.checked os 7 .any (Rows.listBeforeSpec.pre6 enc Try.prog Try.f7 Rows.listBeforeRow.domain false) (Rows.listBeforeSpec.post enc Try.prog Try.f7 false true false false) := by
  refine returnsInHanded_of_change (C := Try.checked) own started (by kernel_rfl) Try.func7
    (ChangeSpec.witness6 (enc := enc) (C := Try.checked) false ⟨#[], #[.int .i64 0, .int .i64 0], []⟩ 8 (by kernel_rfl) (by kernel_rfl) (by kernel_rfl) (by kernel_rfl)) ?_
  intro W base args ds gs before hval0 hW hcnd _
  have hval : ∀ (j : Nat) t v, Try.f7.params[j]? = some t → args[j]? = some v → Value.okWide Try.prog W .any base t v := hval0
  have hW' := hW
  obtain ⟨p, q, hA0, hV, rfl, hfz, hnd⟩ := hW
  have hA : DataW.TrodAll enc Try.prog W 0 (fun _ => true) true Try.f7.params.toList args.toList ds p := hA0
  rw [Try.params7] at hA hval
  obtain ⟨v0, vs0, d0, ds0, p0, q0, hargs, rfl, rfl, h0, r0⟩ := trodAll_cons hA
  obtain ⟨v1, vs1, d1, ds1, p1, q1, rfl, rfl, rfl, h1, r1⟩ := trodAll_cons r0
  obtain ⟨rfl, rfl, rfl⟩ := trodAll_nil r1
  obtain rfl : args = #[v0, v1] := by cases args; simp_all
  obtain ⟨rfl, rfl⟩ := trodVars_none hV
  obtain ⟨a0, rfl, rfl, rfl, w0⟩ := open_int Try.underlying3 (hval 0 3 v0 rfl rfl) h0
  obtain ⟨a1, rfl, rfl, rfl, w1⟩ := open_int Try.underlying3 (hval 1 3 v1 rfl rfl) h1
  clear hA0 hval0
  simp only [List.append_nil] at hW'
  refine (walk a0 a1 w0 w1 W).mono fun e W' ⟨he, hg⟩ => ?_
  subst he
  exact ⟨_, rfl, _, _, _, [], [], [], hW', (trodAll_cons_mk (shut_bool Try.underlying4 _) trodAll_mk0), (trodAll_cons_mk (shut_int Try.underlying3 w0) (trodAll_cons_mk (shut_int Try.underlying3 w1) trodAll_mk0)), rfl, hg.frame _, fun h => by cases h⟩

theorem over : Rows.listBeforeRow.holds Try.pinned (OpenSpec.ofChange Rows.listBeforeSpec) :=
  OpenClaim.holds_of_wide 7 Try.f7 rfl rfl rfl rfl rfl rfl rfl ⟨rfl, rfl, rfl, rfl, rfl⟩ rfl rfl rfl rfl rfl (by kernel_rfl) Try.func7 (by kernel_rfl)
    (of_decide_eq_true (by kernel_rfl)) (by unfold Func.isWrapper; first | (rw [if_pos (by decide +kernel)]; kernel_rfl) | (rw [if_neg (by decide +kernel)]; exact ⟨rfl, rfl⟩))
    (fun os started H enc _ => lifted os started H enc)

/-- ████ THE STATEMENT ████ -/
theorem proved : Rows.ListBeforeSaid :=
  over
#print axioms proved
end Go.Proofs.Ytmfjhckacmdijaa.listBefore
namespace Go.Proofs.Ytmfjhckacmdijaa
theorem listBefore_holds : Rows.ListBeforeSaid := listBefore.proved
end Go.Proofs.Ytmfjhckacmdijaa
