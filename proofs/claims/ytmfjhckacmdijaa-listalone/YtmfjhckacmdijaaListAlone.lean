/-
  PROVED: the Go function detentlaw3.ListAlone returns true for every input, and each argument reads behind the call as it read before (Rows.ListAloneSaid). No condition.
-/
import Derived.Test.YtmfjhckacmdijaaRows
import Derived.Test.YtmfjhckacmdijaaConL
import Derived.WalkKit
import Derived.ProofKit
import Derived.OpenShut
import Derived.ShutString
import Derived.ChangeOld
import Derived.Below
namespace Go.Proofs.Ytmfjhckacmdijaa.listAlone
open Go.ChangeShapes Go.WideShapes Go.ChangeAt Go.RowKit
open Go.ChangeMaps (open_string shut_string)
set_option linter.unusedVariables false      -- a walk need not use every 'w<i>' (that an integer argument fits its kind)

theorem own : ownKnob Try.prog.godebug = none := by kernel_rfl

def Post (w : World) (e : Ending) (w' : World) : Prop := e = .returned (.bool true) ∧ Below w.heap.size w w'

def FillRel (p m N : Nat) (w : World) (n : Nat) (i : Value) (wr : World) : Prop :=
  ∃ (t : Nat) (R : Nat → List Nat), t ≤ n ∧ i = .int .i64 t ∧ Lst wr p m N 1 R ∧ R 0 = List.range t ∧ Below w.heap.size w wr

def OthRel (n a : Nat) (k i : Value) : Prop :=
  ∃ s : Nat, s ≤ n - 1 ∧ i = .int .i64 (s : Int) ∧ k = .int .i64 (if s ≤ a then (s : Int) else ((s + 1 : Nat) : Int))

set_option maxHeartbeats 1600000 in
theorem walkOut (a b : Int) (h : ¬ (1 ≤ a ∧ a ≤ 200 ∧ 0 ≤ b ∧ b < a)) (w : World) : Calls Try.prog 4 #[.int .i64 a, .int .i64 b] w (Post w) := by
  by_cases h1 : a < 1
  · clear h
    go_enter Try.func4, Try.ntmps4
    go_wp2_with fail
    refine (known_any _).mono ?_
    rintro e w0 ⟨rfl, hb0⟩
    go_wp2
    go_ret
    exact ⟨rfl, hb0⟩
  have t1 : decide (a < 1) = false := by simpa using h1
  by_cases h2 : 200 < a
  · clear h
    go_enter Try.func4, Try.ntmps4
    go_wp2_with fail
    refine (known_any _).mono ?_
    rintro e w0 ⟨rfl, hb0⟩
    go_wp2
    go_ret
    exact ⟨rfl, hb0⟩
  have t2 : decide (200 < a) = false := by simpa using h2
  by_cases h3 : b < 0
  · clear h
    go_enter Try.func4, Try.ntmps4
    go_wp2_with fail
    refine (known_any _).mono ?_
    rintro e w0 ⟨rfl, hb0⟩
    go_wp2
    go_ret
    exact ⟨rfl, hb0⟩
  have t3 : decide (b < 0) = false := by simpa using h3
  have h4 : a ≤ b := by omega
  clear h h1 h2 h3
  go_enter Try.func4, Try.ntmps4
  go_wp2_with fail
  refine (known_any _).mono ?_
  rintro e w0 ⟨rfl, hb0⟩
  go_wp2
  go_ret
  exact ⟨rfl, hb0⟩

set_option maxHeartbeats 3200000 in
set_option maxRecDepth 100000 in
theorem walkIn (n a : Nat) (hn0 : 1 ≤ n) (hn : n ≤ 200) (ha : a < n) (w : World) : Calls Try.prog 4 #[.int .i64 (n : Int), .int .i64 (a : Int)] w (Post w) := by
  have t1 : decide ((n : Int) < 1) = false := by simp; omega
  have t2 : decide ((200 : Int) < (n : Int)) = false := by simp; omega
  have t3 : decide ((a : Int) < 0) = false := by simp
  have t4 : decide ((n : Int) ≤ (a : Int)) = false := by simp; omega
  have t4' : decide (n ≤ a) = false := by simp; omega
  go_enter Try.func4, Try.ntmps4
  go_wp2_with fail
  refine (known_any _).mono ?_
  rintro e w0 ⟨rfl, hb0⟩
  have HB0 := Lib.hid hb0
  clear hb0
  go_wp2_with fail
  refine (new_ok n 1 hn0 (by omega) (by omega) (by omega) w0).mono ?_
  rintro e w1 ⟨p, m, hp, hm, rfl, hl1, hb1⟩
  have HB1 : Hid (Below w.heap.size w w1) := HB0.out.trans (hb1.mono HB0.out.size)
  have hm' : w.heap.size ≤ m := Nat.le_trans HB0.out.size hm
  clear HB0 hb1 hp hm
  go_wp2
  go_loopw [7] (fun i wr => FillRel p m n w n i wr) (fun i _ => n - (intOf i).toNat)
  case atStart => exact ⟨0, _, Nat.zero_le _, rfl, hl1, rfl, HB1.out⟩
  case round =>
    obtain ⟨t, R, ht, rfl, hl2, hR, hb2⟩ := hrel
    have HR := Lib.hid hR
    have HB2 := Lib.hid hb2
    clear hR hb2 hl1 HB1
    by_cases hlt : t < n
    · have HK := Lib.hid (back_one p m n 1 0 t R wr hl2 (by omega) (by omega) (by omega) (by omega) (by rw [inn1, HR.out]; simp) t rfl 0 rfl)
      go_wp2_with fail
      refine HK.out.mono ?_
      rintro e w3 ⟨rfl, hl3, ho3⟩
      have HB3 := Lib.hid (HB2.out.trans (ho3.below HB2.out.size hm' hm'))
      clear HK HB2 hl2 ho3
      go_wp2
      go_roundw
      case rel => exact ⟨t + 1, _, by omega, by go_num, hl3, by rw [setR_same, HR.out, List.range_succ], HB3.out⟩
      case measure => simp [intOf]; omega
    · obtain rfl : t = n := by omega
      have hp1 := range_part t a ha
      obtain ⟨T, hT⟩ : ∃ T, T = (List.range t).drop (a + 1) := ⟨_, rfl⟩
      have hTl : T.length = t - (a + 1) := by rw [hT]; simp
      have HT : Hid (∀ j, j < t - (a + 1) → T[j]? = some (a + 1 + j)) := fun j hj => by rw [hT, List.getElem?_drop, List.getElem?_range (by omega)]
      rw [← hT] at hp1
      have hR : R 0 = List.range a ++ a :: T := by rw [HR.out]; exact hp1
      have haT : a ∉ T := by
        have hnd : (List.range t).Nodup := List.nodup_range
        rw [hp1] at hnd
        exact (List.nodup_cons.1 (List.nodup_append.1 hnd).2.1).1
      have HaT := Lib.hid haT
      have HK := Lib.hid (remove_ok p m t 1 a 0 R wr hl2 (by omega) (List.range a) T hR)
      clear hT hp1 hR HR hlt haT
      go_wp2_with fail
      refine HK.out.mono ?_
      rintro e w3 ⟨rfl, hl3, ho3⟩
      have HB3 := Lib.hid (HB2.out.trans (ho3.below HB2.out.size hm' hm'))
      have HR : Hid (setR R 0 (List.range a ++ T) 0 = List.range a ++ T) := setR_same _ _ _
      generalize setR R 0 (List.range a ++ T) = R3 at *
      clear HK HB2 hl2 ho3
      have hni : ¬ Inn 1 R3 a := by rw [inn1, HR.out]; simp; exact HaT.out
      have HK := Lib.hid (remove_obj p m t 1 a R3 w3 hl3 (by omega) hni)
      have HK2 := Lib.hid (back_one p m t 1 0 a R3 w3 hl3 (by omega) (by omega) (by omega) (by omega) hni a rfl 0 rfl)
      clear hni
      go_wp2_with fail
      refine HK.out.mono ?_
      rintro e w4 ⟨rfl, rfl⟩
      clear HK
      go_wp2_with fail
      refine HK2.out.mono ?_
      rintro e w5 ⟨rfl, hl5, ho5⟩
      have HB5 := Lib.hid (HB3.out.trans (ho5.below HB3.out.size hm' hm'))
      clear HK2 HB3 hl3 ho5
      have HR5 : Hid (setR R3 0 (R3 0 ++ [a]) 0 = List.range a ++ T ++ [a]) := by show _ = _; rw [setR_same, HR.out]
      have HK := Lib.hid (row_l p m t 1 0 _ w5 hl5 (by omega) (by omega) (by omega) _ HR5.out t (by simp; omega) 0 rfl)
      clear HR HR5
      go_wp2_with fail
      refine HK.out.mono ?_
      rintro e w6 ⟨A, k, rfl, hk1, hk2, hnd, hb6⟩
      have HB6 := Lib.hid (HB5.out.trans (hb6.mono HB5.out.size))
      clear HK HB5 hb6 hl5
      obtain ⟨b, o, rfl, hbm⟩ := hnd.some (by simp only [List.length_append, List.length_cons]; omega)
      have hc := hnd.cell (j := t - 1) (x := a) rfl (by
        rw [List.getElem?_append_right (by simp; omega)]
        have : t - 1 - (List.range a ++ T).length = 0 := by simp; omega
        rw [this]; rfl)
      have HC1 : Hid (∀ j, j < a → w6.cell? ⟨b, o + j, none⟩ = some (.int .i64 (j : Int))) := fun j hj => hnd.cell (j := j) (x := j) rfl (by
        rw [List.append_assoc, List.getElem?_append_left (by simpa using hj), List.getElem?_range hj])
      have HC2 : Hid (∀ j, a ≤ j → j < t - 1 → w6.cell? ⟨b, o + j, none⟩ = some (.int .i64 ((j + 1 : Nat) : Int))) := fun j hj hj2 => hnd.cell (j := j) (x := j + 1) rfl (by
        rw [List.append_assoc, List.getElem?_append_right (by simpa using hj), List.getElem?_append_left (by simp; omega)]
        simp only [List.length_range]
        rw [HT.out (j - a) (by omega)]; congr 1; omega)
      have e1 : ((t - 1 : Nat) : Int) = (t : Int) - 1 := by omega
      have i1 : (0 : Int) ≤ (t : Int) - 1 := by omega
      have i2 : (t : Int) - 1 < (t : Int) := by omega
      have i3 : ((t : Int) - 1).toNat = t - 1 := by omega
      clear hnd
      go_wp2
      clear hc e1 i1 i2 i3
      go_loop [12, 13] (fun k i => OthRel t a k i) (fun _ i => t - (intOf i).toNat)
      case atStart => exact ⟨0, by omega, rfl, by rw [if_pos (Nat.zero_le _)]; rfl⟩
      case round =>
        obtain ⟨s, hs, rfl, rfl⟩ := hrel
        by_cases hlt : s < t - 1
        · have is1 : (s : Int) < (t : Int) - 1 := by omega
          have is2 : (s : Int) < (t : Int) := by omega
          rcases Nat.lt_trichotomy s a with h | h | h
          · have hc := HC1.out s h
            have f1 : ((s : Int) == (a : Int)) = false := by simp; omega
            have f2 : (s == a) = false := by simp; omega
            rw [if_pos (Nat.le_of_lt h)]
            go_wp2
            go_round
            case rel => exact ⟨s + 1, by omega, by go_num, by rw [if_pos (by omega)]; go_num⟩
            case measure => simp [intOf]; omega
          · subst h
            have hc := HC2.out s (Nat.le_refl _) hlt
            rw [if_pos (Nat.le_refl _)]
            have e1 : ((s + 1 : Nat) : Int) = (s : Int) + 1 := by omega
            rw [e1] at hc
            clear e1
            go_wp2
            go_round
            case rel => exact ⟨s + 1, by omega, by go_num, by rw [if_neg (by omega)]; go_num⟩
            case measure => simp [intOf]; omega
          · have hc := HC2.out s (Nat.le_of_lt h) hlt
            rw [if_neg (by omega)]
            have e1 : ((s + 1 : Nat) : Int) = (s : Int) + 1 := by omega
            rw [e1] at hc ⊢
            have f1 : ((s : Int) + 1 == (a : Int)) = false := by simp; omega
            clear e1
            go_wp2
            go_round
            case rel => exact ⟨s + 1, by omega, by go_num, by rw [if_neg (by omega)]; go_num⟩
            case measure => simp [intOf]; omega
        · have is1 : decide ((s : Int) < (t : Int) - 1) = false := by simp; omega
          go_wp2
          all_goals (go_ret; exact ⟨rfl, HB6.out⟩)

/-! ### the walk -/
theorem walk (a0 : Int) (a1 : Int) (w0 : (Lit.int .i64 a0).wf = true) (w1 : (Lit.int .i64 a1).wf = true) (w : World) :
    Calls Try.prog 4 #[.int .i64 a0, .int .i64 a1] w fun e w' => e = .returned (.bool true) ∧ Below w.heap.size w w' := by
  by_cases h : 1 ≤ a0 ∧ a0 ≤ 200 ∧ 0 ≤ a1 ∧ a1 < a0
  · obtain ⟨N, rfl⟩ : ∃ n : Nat, a0 = n := ⟨a0.toNat, by omega⟩
    obtain ⟨H, rfl⟩ : ∃ n : Nat, a1 = n := ⟨a1.toNat, by omega⟩
    exact walkIn N H (by omega) (by omega) (by omega) w
  · exact walkOut a0 a1 h w

/-! ### THE ROW's STEP: WRITTEN OUT: LEAVE IT -/
set_option maxRecDepth 100000 in
theorem lifted (os : Os) (started : os.Started) (H : Type) (enc : TypeId × Value → H) :
    ReturnsInHanded {} Try.checked os 4 .any (Rows.listAloneSpec.pre6 enc Try.prog Try.f4 Rows.listAloneRow.domain false) (Rows.listAloneSpec.post enc Try.prog Try.f4 false true false false) := by
  refine returnsInHanded_of_change (C := Try.checked) own started (by kernel_rfl) Try.func4
    (ChangeSpec.witness6 (enc := enc) (C := Try.checked) false ⟨#[], #[.int .i64 0, .int .i64 0], []⟩ 8 (by kernel_rfl) (by kernel_rfl) (by kernel_rfl) (by kernel_rfl)) ?_
  intro W base args ds gs before hval0 hW hcnd _
  have hval : ∀ (j : Nat) t v, Try.f4.params[j]? = some t → args[j]? = some v → Value.okWide Try.prog W .any base t v := hval0
  have hW' := hW
  obtain ⟨p, q, hA0, hV, rfl, hfz, hnd⟩ := hW
  have hA : DataW.TrodAll enc Try.prog W 0 (fun _ => true) true Try.f4.params.toList args.toList ds p := hA0
  rw [Try.params4] at hA hval
  obtain ⟨v0, vs0, d0, ds0, p0, q0, hargs, rfl, rfl, h0, r0⟩ := trodAll_cons hA
  obtain ⟨v1, vs1, d1, ds1, p1, q1, rfl, rfl, rfl, h1, r1⟩ := trodAll_cons r0
  obtain ⟨rfl, rfl, rfl⟩ := trodAll_nil r1
  obtain rfl : args = #[v0, v1] := by cases args; simp_all
  obtain ⟨rfl, rfl⟩ := trodVars_none hV
  obtain ⟨a0, rfl, rfl, rfl, w0⟩ := open_int Try.underlying3 (hval 0 3 v0 rfl rfl) h0
  obtain ⟨a1, rfl, rfl, rfl, w1⟩ := open_int Try.underlying3 (hval 1 3 v1 rfl rfl) h1
  clear hA0 hval0
  simp only [List.append_nil] at hW'
  refine (walk a0 a1 w0 w1 W).mono fun e W' ⟨he, hg⟩ => ?_
  subst he
  exact ⟨_, rfl, _, _, _, [], [], [], hW', (trodAll_cons_mk (shut_bool Try.underlying4 _) trodAll_mk0), (trodAll_cons_mk (shut_int Try.underlying3 w0) (trodAll_cons_mk (shut_int Try.underlying3 w1) trodAll_mk0)), rfl, hg.frame _, fun h => by cases h⟩

theorem over : Rows.listAloneRow.holds Try.pinned (OpenSpec.ofChange Rows.listAloneSpec) :=
  OpenClaim.holds_of_wide 4 Try.f4 rfl rfl rfl rfl rfl rfl rfl ⟨rfl, rfl, rfl, rfl, rfl⟩ rfl rfl rfl rfl rfl (by kernel_rfl) Try.func4 (by kernel_rfl)
    (of_decide_eq_true (by kernel_rfl)) (by unfold Func.isWrapper; first | (rw [if_pos (by decide +kernel)]; kernel_rfl) | (rw [if_neg (by decide +kernel)]; exact ⟨rfl, rfl⟩))
    (fun os started H enc _ => lifted os started H enc)

/-- ████ THE STATEMENT ████ -/
theorem proved : Rows.ListAloneSaid :=
  over
#print axioms proved
end Go.Proofs.Ytmfjhckacmdijaa.listAlone
namespace Go.Proofs.Ytmfjhckacmdijaa
theorem listAlone_holds : Rows.ListAloneSaid := listAlone.proved
end Go.Proofs.Ytmfjhckacmdijaa
