/-
  PROVED: the Go function detentlaw4.OrderRefuses returns true for every input, and each argument reads behind the call as it read before (Rows.OrderRefusesSaid). No condition.
-/
import Derived.Test.YtklchhbkeoaloaaRows
import Derived.Test.YtklchhbkeoaloaaConK
import Derived.WalkKit
import Derived.ProofKit
import Derived.OpenShut
import Derived.ShutString
import Derived.ChangeOld
import Derived.Below
namespace Go.Proofs.Ytklchhbkeoaloaa.orderRefuses
open Go.ChangeShapes Go.WideShapes Go.ChangeAt Go.RowKit
open Go.ChangeMaps (open_string shut_string)
set_option linter.unusedVariables false      -- a walk need not use every 'w<i>' (that an integer argument fits its kind)

theorem own : ownKnob Try.prog.godebug = none := by kernel_rfl

set_option maxHeartbeats 400000 in
theorem rgood_any (id pri : Int) (w : World) (r : Bool) (hr : decide ((1 ≤ id ∧ id ≤ 16) ∧ 1 ≤ pri ∧ pri ≤ 16) = r) :
    Calls Try.prog 27 #[.int .i64 id, .int .i64 pri] w fun e w' => e = .returned (.bool r) ∧ w = w' := by
  subst hr
  by_cases c1 : 1 ≤ id
  · by_cases c2 : id ≤ 16
    · by_cases c3 : 1 ≤ pri
      · have e : decide ((1 ≤ id ∧ id ≤ 16) ∧ 1 ≤ pri ∧ pri ≤ 16) = decide (pri ≤ 16) := by simp [c1, c2, c3]
        rw [e]
        go_enter Try.func27, Try.ntmps27
        go_wp2
        go_ret
        exact ⟨rfl, rfl⟩
      · have e : decide ((1 ≤ id ∧ id ≤ 16) ∧ 1 ≤ pri ∧ pri ≤ 16) = false := by simp [c3]
        have t1 : decide (1 ≤ pri) = false := by simpa using c3
        rw [e]
        go_enter Try.func27, Try.ntmps27
        go_wp2
        go_ret
        exact ⟨rfl, rfl⟩
    · have e : decide ((1 ≤ id ∧ id ≤ 16) ∧ 1 ≤ pri ∧ pri ≤ 16) = false := by simp [c2]
      have t1 : decide (id ≤ 16) = false := by simpa using c2
      rw [e]
      go_enter Try.func27, Try.ntmps27
      go_wp2
      go_ret
      exact ⟨rfl, rfl⟩
  · have e : decide ((1 ≤ id ∧ id ≤ 16) ∧ 1 ≤ pri ∧ pri ≤ 16) = false := by simp [c1]
    have t1 : decide (1 ≤ id) = false := by simpa using c1
    rw [e]
    go_enter Try.func27, Try.ntmps27
    go_wp2
    go_ret
    exact ⟨rfl, rfl⟩

theorem sl_two {w : World} {v : Value} {x y : It} (h : Sl w 37 v [x, y]) : ∃ g o k : Nat, v = .slice (some ⟨g, o, none⟩) 2 k ∧ 2 ≤ k ∧ k ≤ 9223372036854775807 ∧ w.cell? ⟨g, o, none⟩ = some (.int .i64 x.1) ∧ w.cell? ⟨g, o + 1, none⟩ = some (.int .i64 x.2) ∧ w.cell? ⟨g, o + 2, none⟩ = some (.int .i64 y.1) ∧ w.cell? ⟨g, o + 3, none⟩ = some (.int .i64 y.2) := by
  rcases h with ⟨_, h⟩ | ⟨g, o, k, cs, h1, h2, h3, h4, h5⟩
  · cases h
  · obtain ⟨a1, a2⟩ := Sl.cell h4 h5 (j := 0) (x := x) rfl
    obtain ⟨b1, b2⟩ := Sl.cell h4 h5 (j := 1) (x := y) rfl
    exact ⟨g, o, k, h1, h2, h3, a1, a2, b1, b2⟩

theorem two (b : Bool) : ∃ x y : It, addL b [(3, 5)] 7 2 = [x, y] ∧ addL b [] 3 5 = [(3, 5)] ∧ ∀ id : Int, pos [x, y] id < [x, y].length ↔ id = 3 ∨ id = 7 := by
  cases b
  · refine ⟨(3, 5), (7, 2), by decide, by decide, fun id => ?_⟩
    rw [pos_lt]; simp [eq_comm]
  · refine ⟨(7, 2), (3, 5), by decide, by decide, fun id => ?_⟩
    rw [pos_lt]; simp [eq_comm, or_comm]


/-! ### the walk -/
theorem walk (a0 : Bool) (a1 : Int) (a2 : Int) (w1 : (Lit.int .i64 a1).wf = true) (w2 : (Lit.int .i64 a2).wf = true) (w : World) :
    Calls Try.prog 8 #[.bool a0, .int .i64 a1, .int .i64 a2] w fun e w' => e = .returned (.bool true) ∧ Below w.heap.size w w' := by
  clear w1 w2
  obtain ⟨x, y, hL2, hL1, hpos⟩ := two a0
  have G0 := Lib.hid (good_nil a0)
  have G1 := Lib.hid (show Good a0 [(3, 5)] from hL1 ▸ G0.out.addL 3 5)
  have G2 := Lib.hid (show Good a0 [x, y] from hL2 ▸ G1.out.addL 7 2)
  have HL1 := Lib.hid hL1
  have HL2 := Lib.hid hL2
  have HP := Lib.hid hpos
  clear hL1 hL2 hpos
  obtain ⟨c, hc⟩ : ∃ c, addC [x, y] a1 a2 = c := ⟨_, rfl⟩
  obtain ⟨M, hM⟩ : ∃ M, addL a0 [x, y] a1 a2 = M := ⟨_, rfl⟩
  have HC := Lib.hid hc
  have HM := Lib.hid hM
  clear hc hM
  go_enter Try.func8, Try.ntmps8
  go_wp2_with fail
  refine (known_ok _).mono ?_
  rintro e w0 ⟨rfl, hb0⟩
  go_wp2_with fail
  refine (new_ok a0 w0).mono ?_
  rintro e w1 ⟨p, hp, rfl, hl1, hk1⟩
  have hpw : w.heap.size ≤ p := Nat.le_trans hb0.size hp
  have hb1 := hb0.trans (hk1.mono hb0.size)
  clear hb0 hk1 hp
  go_wp2_with fail
  refine (add_to p a0 [] [(3, 5)] 0 w1 hl1 G0.out 3 5 (by decide) HL1.out).mono ?_
  rintro e w2 ⟨rfl, hl2, ho2⟩
  have hb2 := hb1.trans (ho2.below hb1.size hpw)
  clear hl1 hb1 ho2
  go_wp2_with fail
  refine (add_to p a0 [(3, 5)] [x, y] 0 w2 hl2 G1.out 7 2 (by decide) HL2.out).mono ?_
  rintro e w3 ⟨rfl, hl3, ho3⟩
  have hb3 := hb2.trans (ho3.below hb2.size hpw)
  clear hl2 hb2 ho3
  go_wp2_with fail
  refine (row_ok p 42 a0 [x, y] w3 hl3 (by simp)).mono ?_
  rintro e w4 ⟨v, rfl, hs4, hk4⟩
  have hl4 := hl3.below hk4
  have hb4 := hb3.trans (hk4.mono hb3.size)
  clear hl3 hb3 hk4
  go_wp2_with fail
  refine (add_to p a0 [x, y] M c w4 hl4 G2.out a1 a2 HC.out HM.out).mono ?_
  rintro e w5 ⟨rfl, hl5, ho5⟩
  have hb5 := hb4.trans (ho5.below hb4.size hpw)
  have hs5 := hs4.only ho5 (hl4.type (by decide))
  clear hl4 hb4 ho5 hs4
  by_cases hg : (1 ≤ a1 ∧ a1 ≤ 16) ∧ 1 ≤ a2 ∧ a2 ≤ 16
  · by_cases hi : a1 = 3 ∨ a1 = 7
    · have hcc : c = -41 := by
        rw [← HC.out]; unfold addC; rw [if_pos hg, if_pos ((HP.out a1).2 hi)]
      have hMM : M = [x, y] := by
        rw [← HM.out]; unfold addL; rw [if_neg (fun h => h.2.2 ((HP.out a1).2 hi))]
      subst hcc hMM
      have HI := Lib.hid hi
      have HG := Lib.hid (fun W => rgood_any a1 a2 W true (by simpa using hg))
      clear hg hi
      go_wp2_with fail
      refine (HG.out w5).mono ?_
      rintro e w6 ⟨rfl, rfl⟩
      rcases HI.out with rfl | rfl
      all_goals
        go_wp2_with fail
        refine (row_ok p 42 a0 [x, y] w5 hl5 (by simp)).mono ?_
        rintro e w7 ⟨v7, rfl, hs7, hk7⟩
        have hb7 := hb5.trans (hk7.mono hb5.size)
        obtain ⟨g, o, k, rfl, k1, k2, c0, c1, c2, c3⟩ := sl_two (hs5.below hk7)
        obtain ⟨g', o', k', rfl, k1', k2', d0, d1, d2, d3⟩ := sl_two hs7
        clear hs5 hs7 hl5 hb5 hk7
        go_wp2
        go_quiet (fail)
        go_wp2
        go_ret
        exact ⟨by simp, hb7.os, hb7.tape, hb7.output, hb7.size, hb7.block⟩
    · have hcc : c = 0 := by
        rw [← HC.out]; unfold addC; rw [if_pos hg, if_neg (fun h => hi ((HP.out a1).1 h))]
      have hMM : ins [x, y] (plc a0 [x, y] a2) (a1, a2) = M := by
        rw [← HM.out]; unfold addL; rw [if_pos ⟨hg.1, hg.2, fun h => hi ((HP.out a1).1 h)⟩]
      have hlen : M.length = 3 := by rw [← hMM, ins_len (plc_le _ _ _)]; rfl
      have hin : pos M a1 < M.length := pos_lt.2 ⟨(a1, a2), by rw [← hMM]; exact mem_ins.2 (.inl rfl), rfl⟩
      subst hcc
      have t3 : (a1 == 3) = false := by simp; intro h; exact hi (.inl h)
      have t7 : (a1 == 7) = false := by simp; intro h; exact hi (.inr h)
      have HG := Lib.hid (fun W => rgood_any a1 a2 W true (by simpa using hg))
      have HL := Lib.hid (len_ok p 42 a0 M w5 hl5)
      have HH := Lib.hid (has_any p 42 a0 M w5 hl5 (by omega) a1 true (by simpa using hin))
      rw [hlen] at HL
      clear hg hi hMM hlen hin
      go_wp2_with fail
      refine (HG.out w5).mono ?_
      rintro e w6 ⟨rfl, rfl⟩
      go_wp2_with fail
      refine HL.out.mono ?_
      rintro e w6 ⟨rfl, rfl⟩
      go_wp2_with fail
      refine HH.out.mono ?_
      rintro e w7 ⟨rfl, hk7⟩
      go_wp2
      go_ret
      exact ⟨rfl, hb5.trans (hk7.mono hb5.size)⟩
  · have hcc : c = -17 := by
      rw [← HC.out]; unfold addC; rw [if_neg hg]
    have hMM : M = [x, y] := by
      rw [← HM.out]; unfold addL; rw [if_neg (fun h => hg ⟨h.1, h.2.1⟩)]
    subst hcc hMM
    have HG := Lib.hid (fun W => rgood_any a1 a2 W false (by simpa using hg))
    clear hg
    go_wp2_with fail
    refine (HG.out w5).mono ?_
    rintro e w6 ⟨rfl, rfl⟩
    go_wp2_with fail
    refine (row_ok p 42 a0 [x, y] w5 hl5 (by simp)).mono ?_
    rintro e w7 ⟨v7, rfl, hs7, hk7⟩
    have hb7 := hb5.trans (hk7.mono hb5.size)
    obtain ⟨g, o, k, rfl, k1, k2, c0, c1, c2, c3⟩ := sl_two (hs5.below hk7)
    obtain ⟨g', o', k', rfl, k1', k2', d0, d1, d2, d3⟩ := sl_two hs7
    clear hs5 hs7 hl5 hb5 hk7
    go_wp2
    go_quiet (fail)
    go_wp2
    go_ret
    exact ⟨by simp, hb7.os, hb7.tape, hb7.output, hb7.size, hb7.block⟩

/-! ### THE ROW's STEP: WRITTEN OUT: LEAVE IT -/
set_option maxRecDepth 100000 in
theorem lifted (os : Os) (started : os.Started) (H : Type) (enc : TypeId × Value → H) :
    ReturnsInHanded {} Try.checked os 8 .any (Rows.orderRefusesSpec.pre6 enc Try.prog Try.f8 Rows.orderRefusesRow.domain false) (Rows.orderRefusesSpec.post enc Try.prog Try.f8 false true false false) := by
  refine returnsInHanded_of_change (C := Try.checked) own started (by kernel_rfl) Try.func8
    (ChangeSpec.witness6 (enc := enc) (C := Try.checked) false ⟨#[], #[.bool false, .int .i64 0, .int .i64 0], []⟩ 8 (by kernel_rfl) (by kernel_rfl) (by kernel_rfl) (by kernel_rfl)) ?_
  intro W base args ds gs before hval0 hW hcnd _
  have hval : ∀ (j : Nat) t v, Try.f8.params[j]? = some t → args[j]? = some v → Value.okWide Try.prog W .any base t v := hval0
  have hW' := hW
  obtain ⟨p, q, hA0, hV, rfl, hfz, hnd⟩ := hW
  have hA : DataW.TrodAll enc Try.prog W 0 (fun _ => true) true Try.f8.params.toList args.toList ds p := hA0
  rw [Try.params8] at hA hval
  obtain ⟨v0, vs0, d0, ds0, p0, q0, hargs, rfl, rfl, h0, r0⟩ := trodAll_cons hA
  obtain ⟨v1, vs1, d1, ds1, p1, q1, rfl, rfl, rfl, h1, r1⟩ := trodAll_cons r0
  obtain ⟨v2, vs2, d2, ds2, p2, q2, rfl, rfl, rfl, h2, r2⟩ := trodAll_cons r1
  obtain ⟨rfl, rfl, rfl⟩ := trodAll_nil r2
  obtain rfl : args = #[v0, v1, v2] := by cases args; simp_all
  obtain ⟨rfl, rfl⟩ := trodVars_none hV
  obtain ⟨a0, rfl, rfl, rfl⟩ := open_bool Try.underlying4 (hval 0 4 v0 rfl rfl) h0
  obtain ⟨a1, rfl, rfl, rfl, w1⟩ := open_int Try.underlying3 (hval 1 3 v1 rfl rfl) h1
  obtain ⟨a2, rfl, rfl, rfl, w2⟩ := open_int Try.underlying3 (hval 2 3 v2 rfl rfl) h2
  clear hA0 hval0
  simp only [List.append_nil] at hW'
  refine (walk a0 a1 a2 w1 w2 W).mono fun e W' ⟨he, hg⟩ => ?_
  subst he
  exact ⟨_, rfl, _, _, _, [], [], [], hW', (trodAll_cons_mk (shut_bool Try.underlying4 _) trodAll_mk0), (trodAll_cons_mk (shut_bool Try.underlying4 _) (trodAll_cons_mk (shut_int Try.underlying3 w1) (trodAll_cons_mk (shut_int Try.underlying3 w2) trodAll_mk0))), rfl, hg.frame _, fun h => by cases h⟩

theorem over : Rows.orderRefusesRow.holds Try.pinned (OpenSpec.ofChange Rows.orderRefusesSpec) :=
  OpenClaim.holds_of_wide 8 Try.f8 rfl rfl rfl rfl rfl rfl rfl ⟨rfl, rfl, rfl, rfl, rfl⟩ rfl rfl rfl rfl rfl (by kernel_rfl) Try.func8 (by kernel_rfl)
    (of_decide_eq_true (by kernel_rfl)) (by unfold Func.isWrapper; first | (rw [if_pos (by decide +kernel)]; kernel_rfl) | (rw [if_neg (by decide +kernel)]; exact ⟨rfl, rfl⟩))
    (fun os started H enc _ => lifted os started H enc)

/-- ████ THE STATEMENT ████ -/
theorem proved : Rows.OrderRefusesSaid :=
  over
#print axioms proved
end Go.Proofs.Ytklchhbkeoaloaa.orderRefuses
namespace Go.Proofs.Ytklchhbkeoaloaa
theorem orderRefuses_holds : Rows.OrderRefusesSaid := orderRefuses.proved
end Go.Proofs.Ytklchhbkeoaloaa
