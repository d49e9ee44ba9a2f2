/-
  PROVED: the Go function detentlaw3.ListRooms returns true for every input, and each argument reads behind the call as it read before (Rows.ListRoomsSaid). No condition.
-/
import Derived.Test.YtmfjhckacmdijaaRows
import Derived.Test.YtmfjhckacmdijaaConK
import Derived.WalkKit
import Derived.ProofKit
import Derived.OpenShut
import Derived.ShutString
import Derived.ChangeOld
import Derived.Below
namespace Go.Proofs.Ytmfjhckacmdijaa.listRooms
open Go.ChangeShapes Go.WideShapes Go.ChangeAt Go.RowKit
open Go.ChangeMaps (open_string shut_string)
set_option linter.unusedVariables false      -- a walk need not use every 'w<i>' (that an integer argument fits its kind)

theorem own : ownKnob Try.prog.godebug = none := by kernel_rfl

def Post (w : World) (e : Ending) (w' : World) : Prop := e = .returned (.bool true) ∧ Below w.heap.size w w'

set_option maxHeartbeats 1600000 in
theorem walkBad (a b : Int) (h : ¬ (1 ≤ a ∧ a ≤ 1024 ∧ 1 ≤ b ∧ b ≤ 64)) (w : World) : Calls Try.prog 8 #[.int .i64 a, .int .i64 b] w (Post w) := by
  have HN := fun w0 => Lib.hid (new_bad a b h w0)
  by_cases h1 : 1 ≤ a
  · by_cases h2 : a ≤ 1024
    · by_cases h3 : 1 ≤ b
      · have h4 : ¬ b ≤ 64 := fun h4 => h ⟨h1, h2, h3, h4⟩
        have t4 : decide (b ≤ 64) = false := by simpa using h4
        clear h h4
        go_enter Try.func8, Try.ntmps8
        go_wp2_with fail
        refine (known_any _).mono ?_
        rintro e w0 ⟨rfl, hb0⟩
        go_wp2_with fail
        refine (HN w0).out.mono ?_
        rintro e w1 ⟨rfl, rfl⟩
        go_wp2
        go_ret
        exact ⟨rfl, hb0⟩
      · have t3 : decide (1 ≤ b) = false := by simpa using h3
        clear h h3
        go_enter Try.func8, Try.ntmps8
        go_wp2_with fail
        refine (known_any _).mono ?_
        rintro e w0 ⟨rfl, hb0⟩
        go_wp2_with fail
        refine (HN w0).out.mono ?_
        rintro e w1 ⟨rfl, rfl⟩
        go_wp2
        go_ret
        exact ⟨rfl, hb0⟩
    · have t2 : decide (a ≤ 1024) = false := by simpa using h2
      clear h h2
      go_enter Try.func8, Try.ntmps8
      go_wp2_with fail
      refine (known_any _).mono ?_
      rintro e w0 ⟨rfl, hb0⟩
      go_wp2_with fail
      refine (HN w0).out.mono ?_
      rintro e w1 ⟨rfl, rfl⟩
      go_wp2
      go_ret
      exact ⟨rfl, hb0⟩
  · have t1 : decide (1 ≤ a) = false := by simpa using h1
    clear h h1
    go_enter Try.func8, Try.ntmps8
    go_wp2_with fail
    refine (known_any _).mono ?_
    rintro e w0 ⟨rfl, hb0⟩
    go_wp2_with fail
    refine (HN w0).out.mono ?_
    rintro e w1 ⟨rfl, rfl⟩
    go_wp2
    go_ret
    exact ⟨rfl, hb0⟩

set_option maxHeartbeats 1600000 in
theorem walkOk (N H : Nat) (hN0 : 1 ≤ N) (hN : N ≤ 1024) (hH0 : 1 ≤ H) (hH : H ≤ 64) (w : World) : Calls Try.prog 8 #[.int .i64 (N : Int), .int .i64 (H : Int)] w (Post w) := by
  have t1 : (1 : Int) ≤ (N : Int) := by omega
  have t2 : (N : Int) ≤ 1024 := by omega
  have t3 : (1 : Int) ≤ (H : Int) := by omega
  have t4 : (H : Int) ≤ 64 := by omega
  have e1 : ((N - 1 : Nat) : Int) = (N : Int) - 1 := by omega
  have e2 : ((H - 1 : Nat) : Int) = (H : Int) - 1 := by omega
  go_enter Try.func8, Try.ntmps8
  go_wp2_with fail
  refine (known_any _).mono ?_
  rintro e w0 ⟨rfl, hb0⟩
  have HB0 := Lib.hid hb0
  clear hb0
  go_wp2_with fail
  refine (new_ok N H hN0 hN hH0 hH w0).mono ?_
  rintro e w1 ⟨p, m, hp, hm, rfl, hl1, hb1⟩
  have HB1 : Hid (Below w.heap.size w w1) := HB0.out.trans (hb1.mono HB0.out.size)
  have hm' : w.heap.size ≤ m := Nat.le_trans HB0.out.size hm
  clear HB0 hb1 hp hm
  -- Back(h-1, n-1)
  have hl2 := hl1.alloc (.cells #[.int .i64 ((N - 1 : Nat) : Int)] 3)
  have HB2 := Lib.hid (HB1.out.alloc HB1.out.size (.cells #[.int .i64 ((N - 1 : Nat) : Int)] 3))
  have hk2 : AddOk N H (fun _ => []) ((H - 1 : Nat) : Int) [((N - 1 : Nat) : Int)] := ⟨by omega, by simp; omega, fun n hn => by rintro ⟨k, _, hk⟩; simp at hk, by simp⟩
  have HK2 := Lib.hid (back_ok p m N H (H - 1) (some ⟨w1.heap.size, 0, none⟩) 1 [((N - 1 : Nat) : Int)] (fun _ => []) _ hl2 hN hH (nd_one w1 m _ hl1.ltm) (by simp) hk2)
  simp only [List.length_cons, List.length_nil, Nat.zero_add] at HK2
  rw [e1, e2] at HK2
  rw [e1] at HB2
  clear HB1 hk2 hl2
  go_wp2_with fail
  refine HK2.out.mono ?_
  rintro e w3 ⟨rfl, hl3, ho3⟩
  have HB3 := Lib.hid (HB2.out.trans (ho3.below HB2.out.size hm' hm'))
  have HR : Hid (setR (fun _ => ([] : List Nat)) (H - 1) ([] ++ List.map Int.toNat [(N : Int) - 1]) (H - 1) = [N - 1]) := by
    show setR _ _ _ _ = _; rw [setR_same]; simp
  generalize setR (fun _ => ([] : List Nat)) (H - 1) ([] ++ List.map Int.toNat [(N : Int) - 1]) = R at *
  clear HB2 hl1 ho3 HK2
  -- Back(h, 0)
  have hl4 := hl3.alloc (.cells #[.int .i64 0] 3)
  have HB4 := Lib.hid (HB3.out.alloc HB3.out.size (.cells #[.int .i64 0] 3))
  have HK4 := Lib.hid (back_bad p m N H H (some ⟨w3.heap.size, 0, none⟩) 1 [0] R _ hl4 hN hH (nd_one w3 m _ hl3.ltm) (by simp) (-17) (.inl ⟨by omega, rfl⟩) rfl)
  simp only [List.length_cons, List.length_nil, Nat.zero_add] at HK4
  clear HB3 hl3 hl4
  go_wp2_with fail
  refine HK4.out.mono ?_
  rintro e w5 ⟨rfl, hl5, ho5⟩
  have HB5 := Lib.hid (HB4.out.trans (ho5.below HB4.out.size hm' hm'))
  clear HB4 ho5 HK4
  -- Back(0, n)
  have hl6 := hl5.alloc (.cells #[.int .i64 (N : Int)] 3)
  have HB6 := Lib.hid (HB5.out.alloc HB5.out.size (.cells #[.int .i64 (N : Int)] 3))
  have HK6 := Lib.hid (back_bad p m N H 0 (some ⟨w5.heap.size, 0, none⟩) 1 [(N : Int)] R _ hl6 hN hH (nd_one w5 m _ hl5.ltm) (by simp) (-17) (.inr (.inl ⟨by omega, ⟨N, by simp, by omega⟩, rfl⟩)) rfl)
  simp only [List.length_cons, List.length_nil, Nat.zero_add] at HK6
  clear HB5 hl5 hl6
  go_wp2_with fail
  refine HK6.out.mono ?_
  rintro e w7 ⟨rfl, hl7, ho7⟩
  have HB7 := Lib.hid (HB6.out.trans (ho7.below HB6.out.size hm' hm'))
  clear HB6 ho7 HK6
  -- Remove(n)
  go_wp2_with fail
  refine (remove_par p m N H N R w7 hl7 (by omega)).mono ?_
  rintro e w8 ⟨rfl, rfl⟩
  -- Front(-1, 0)
  go_wp2_with fail
  refine (front_bad p m N H (-1) 0 R w7 hl7 hN hH (-17) (.inl ⟨by omega, rfl⟩) rfl).mono ?_
  rintro e w9 ⟨rfl, hl9, ho9⟩
  have HB9 := Lib.hid (HB7.out.trans (ho9.below HB7.out.size hm' hm'))
  clear HB7 ho9 hl7
  have HL := Lib.hid (len_row p m N H (H - 1) R w9 hl9 hN hH (by omega))
  rw [HR.out, e2] at HL
  go_wp2_with fail
  refine HL.out.mono ?_
  rintro e w10 ⟨rfl, k, rfl⟩
  go_wp2
  go_ret
  exact ⟨rfl, HB9.out.os, HB9.out.tape, HB9.out.output, HB9.out.size, HB9.out.block⟩

/-! ### the walk -/
theorem walk (a0 : Int) (a1 : Int) (w0 : (Lit.int .i64 a0).wf = true) (w1 : (Lit.int .i64 a1).wf = true) (w : World) :
    Calls Try.prog 8 #[.int .i64 a0, .int .i64 a1] w fun e w' => e = .returned (.bool true) ∧ Below w.heap.size w w' := by
  by_cases h : 1 ≤ a0 ∧ a0 ≤ 1024 ∧ 1 ≤ a1 ∧ a1 ≤ 64
  · obtain ⟨N, rfl⟩ : ∃ n : Nat, a0 = n := ⟨a0.toNat, by omega⟩
    obtain ⟨H, rfl⟩ : ∃ n : Nat, a1 = n := ⟨a1.toNat, by omega⟩
    exact walkOk N H (by omega) (by omega) (by omega) (by omega) w
  · exact walkBad a0 a1 h w

/-! ### THE ROW's STEP: WRITTEN OUT: LEAVE IT -/
set_option maxRecDepth 100000 in
theorem lifted (os : Os) (started : os.Started) (H : Type) (enc : TypeId × Value → H) :
    ReturnsInHanded {} Try.checked os 8 .any (Rows.listRoomsSpec.pre6 enc Try.prog Try.f8 Rows.listRoomsRow.domain false) (Rows.listRoomsSpec.post enc Try.prog Try.f8 false true false false) := by
  refine returnsInHanded_of_change (C := Try.checked) own started (by kernel_rfl) Try.func8
    (ChangeSpec.witness6 (enc := enc) (C := Try.checked) false ⟨#[], #[.int .i64 0, .int .i64 0], []⟩ 8 (by kernel_rfl) (by kernel_rfl) (by kernel_rfl) (by kernel_rfl)) ?_
  intro W base args ds gs before hval0 hW hcnd _
  have hval : ∀ (j : Nat) t v, Try.f8.params[j]? = some t → args[j]? = some v → Value.okWide Try.prog W .any base t v := hval0
  have hW' := hW
  obtain ⟨p, q, hA0, hV, rfl, hfz, hnd⟩ := hW
  have hA : DataW.TrodAll enc Try.prog W 0 (fun _ => true) true Try.f8.params.toList args.toList ds p := hA0
  rw [Try.params8] at hA hval
  obtain ⟨v0, vs0, d0, ds0, p0, q0, hargs, rfl, rfl, h0, r0⟩ := trodAll_cons hA
  obtain ⟨v1, vs1, d1, ds1, p1, q1, rfl, rfl, rfl, h1, r1⟩ := trodAll_cons r0
  obtain ⟨rfl, rfl, rfl⟩ := trodAll_nil r1
  obtain rfl : args = #[v0, v1] := by cases args; simp_all
  obtain ⟨rfl, rfl⟩ := trodVars_none hV
  obtain ⟨a0, rfl, rfl, rfl, w0⟩ := open_int Try.underlying3 (hval 0 3 v0 rfl rfl) h0
  obtain ⟨a1, rfl, rfl, rfl, w1⟩ := open_int Try.underlying3 (hval 1 3 v1 rfl rfl) h1
  clear hA0 hval0
  simp only [List.append_nil] at hW'
  refine (walk a0 a1 w0 w1 W).mono fun e W' ⟨he, hg⟩ => ?_
  subst he
  exact ⟨_, rfl, _, _, _, [], [], [], hW', (trodAll_cons_mk (shut_bool Try.underlying4 _) trodAll_mk0), (trodAll_cons_mk (shut_int Try.underlying3 w0) (trodAll_cons_mk (shut_int Try.underlying3 w1) trodAll_mk0)), rfl, hg.frame _, fun h => by cases h⟩

theorem over : Rows.listRoomsRow.holds Try.pinned (OpenSpec.ofChange Rows.listRoomsSpec) :=
  OpenClaim.holds_of_wide 8 Try.f8 rfl rfl rfl rfl rfl rfl rfl ⟨rfl, rfl, rfl, rfl, rfl⟩ rfl rfl rfl rfl rfl (by kernel_rfl) Try.func8 (by kernel_rfl)
    (of_decide_eq_true (by kernel_rfl)) (by unfold Func.isWrapper; first | (rw [if_pos (by decide +kernel)]; kernel_rfl) | (rw [if_neg (by decide +kernel)]; exact ⟨rfl, rfl⟩))
    (fun os started H enc _ => lifted os started H enc)

/-- ████ THE STATEMENT ████ -/
theorem proved : Rows.ListRoomsSaid :=
  over
#print axioms proved
end Go.Proofs.Ytmfjhckacmdijaa.listRooms
namespace Go.Proofs.Ytmfjhckacmdijaa
theorem listRooms_holds : Rows.ListRoomsSaid := listRooms.proved
end Go.Proofs.Ytmfjhckacmdijaa
