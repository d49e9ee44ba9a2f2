/-
  PROVED: the Go function detentlaw2.ArenaEdges returns true for every input, and each argument reads behind the call as it read before (Rows.ArenaEdgesSaid). No condition.
-/
import Derived.Test.YtbednmifgbbhlaaRows
import Derived.Test.YtbednmifgbbhlaaConL
import Derived.WalkKit
import Derived.ProofKit
import Derived.OpenShut
import Derived.ShutString
import Derived.ChangeOld
import Derived.Below
namespace Go.Proofs.Ytbednmifgbbhlaa.arenaEdges
open Go.ChangeShapes Go.WideShapes Go.ChangeAt Go.RowKit
open Go.ChangeMaps (open_string shut_string)
set_option linter.unusedVariables false      -- a walk need not use every 'w<i>' (that an integer argument fits its kind)

theorem own : ownKnob Try.prog.godebug = none := by kernel_rfl

def LoopRel (g n : Nat) (x : Int) (w2 : World) (i : Value) (wr : World) : Prop :=
  ∃ t : Nat, t ≤ n ∧ i = .int .i64 t ∧ Row wr g n (upd (fun _ => 0) 0 t (fun _ => x)) ∧ Only g g w2 wr

def Post (w : World) (e : Ending) (w' : World) : Prop := e = .returned (.bool true) ∧ Below w.heap.size w w'

set_option maxHeartbeats 3200000 in
set_option maxRecDepth 100000 in
theorem walkIn (s n : Nat) (c : Int) (hs : s ≤ 500) (hn : n ≤ 500) (hc0 : 0 ≤ c) (hc1 : c ≤ 255) (w : World) :
    Calls Try.prog 6 #[.int .i64 (s : Int), .int .i64 (n : Int), .int .u8 c] w (Post w) := by
  have t1 : decide ((s : Int) < 0) = false := by simp
  have t2 : decide ((500 : Int) < (s : Int)) = false := by simp; omega
  have t3 : decide ((n : Int) < 0) = false := by simp
  have t4 : decide ((500 : Int) < (n : Int)) = false := by simp; omega
  have HM := Lib.hid (run_make_bytes n (by omega))
  have hx := or1_bounds c hc0 hc1
  obtain ⟨x, HX⟩ : ∃ x, Hid (bits .or .u8 c 1 = x) := ⟨_, rfl⟩
  rw [HX.out] at hx
  go_enter Try.func6, Try.ntmps6
  go_wp2_with fail
  refine (known_any _).mono ?_
  rintro e w0 ⟨rfl, hb0⟩
  have HB0 := Lib.hid hb0; clear hb0
  go_wp2_with fail
  refine (new_ok s (by omega) w0).mono ?_
  rintro e w1 ⟨p, m, hp, hm, rfl, ha1, hb1⟩
  have HB1 : Hid (Below w.heap.size w w1) := HB0.out.trans (hb1.mono HB0.out.size)
  have hp' : w.heap.size ≤ p := Nat.le_trans HB0.out.size hp
  have hm' : w.heap.size ≤ m := Nat.le_trans HB0.out.size hm
  clear HB0 hb1 hp hm
  have hmk := HM.out w1
  go_wp2_with fail
  clear hmk
  have hr2 := row_made w1 n
  have ha2 := ha1.alloc (.cells (madeCells #[.int .u8 0] n) 5)
  have HB2 : Hid (Below w.heap.size w (w1.alloc (.cells (madeCells #[.int .u8 0] n) 5))) := HB1.out.alloc HB1.out.size _
  obtain ⟨g, hgdef⟩ : ∃ g, g = w1.heap.size := ⟨_, rfl⟩
  have hgw : w.heap.size ≤ g := by rw [hgdef]; exact HB1.out.size
  have gp : g ≠ p := by have := ha1.ltp; omega
  have gm : g ≠ m := by have := ha1.ltm; omega
  rw [← hgdef] at hr2 ⊢
  generalize w1.alloc (.cells (madeCells #[.int .u8 0] n) 5) = w2 at *
  clear hgdef HB1 ha1
  go_loopw [10] (fun i wr => LoopRel g n x w2 i wr) (fun i _ => n - (intOf i).toNat)
  case atStart => exact ⟨0, Nat.zero_le _, rfl, by rw [upd_zero]; exact hr2, Only.refl _ _ _⟩
  case round =>
    obtain ⟨t, ht, rfl, hr, hw⟩ := hrel
    by_cases hlt : t < n
    · have hc1 := hr.at_ hlt
      have hc2 := hr.frozen t
      have hxx := HX.out
      go_wp2
      go_roundw
      case rel =>
        have := hr.put (q := fun _ => x) hx.1 hx.2 (by omega)
        simp only [Nat.zero_add] at this
        exact ⟨t + 1, by omega, by go_num, this, hw.setCell (q := ⟨g, t, none⟩) (.inl rfl) _⟩
      case measure => simp [intOf]; omega
    · obtain rfl : t = n := by omega
      have hr3 : Row wr g t (fun _ => x) := hr.congr fun i hi => by rw [upd_in _ _ _ _ _ (by omega) (by omega)]
      have ha3 := ha2.only hw (Ne.symm gp) (Ne.symm gp) (Ne.symm gm) (Ne.symm gm)
      have HB3 : Hid (Below w.heap.size w wr) := HB2.out.trans (hw.below HB2.out.size hgw hgw)
      have hgl := hr3.lt
      clear hr hw HB2 hr2 ha2 ht hlt HM HX
      by_cases hle : t ≤ s
      · have t5 : decide ((s : Int) < (t : Int)) = false := by simp; omega
        have t5' : decide (s < t) = false := by simp; omega
        go_wp2_with fail
        refine (write1_ok (kk := t) (q := fun _ => x) (a := s - t) ha3 (Src.of_row hr3 gp gm 0 (by omega) (fun _ _ => rfl)) (by omega) (by omega) (by omega) (by omega) _ (by omega)).mono ?_
        rintro e w4 ⟨rfl, ha4, ho4⟩
        have hr4 := (hr3.alloc (.cells #[.slice (some ⟨g, 0, none⟩) t t] 28)).only ho4 gp gm
        have HB4 : Hid (Below w.heap.size w w4) := (HB3.out.alloc HB3.out.size _).trans (ho4.below (Nat.le_trans HB3.out.size (by simp)) hp' hm')
        clear HB3 ha3 hr3 ho4
        go_wp2_with fail
        refine (write1_bad (kk := t) (q := fun _ => x) ha4 (Src.of_row hr4 gp gm 0 (by omega) (fun _ _ => rfl)) (by omega) (by omega) (by omega)).mono ?_
        rintro e w5 ⟨rfl, rfl⟩
        have ha5 := ha4.alloc (.cells #[.slice (some ⟨g, 0, none⟩) t t] 28)
        have hr5 := hr4.alloc (.cells #[.slice (some ⟨g, 0, none⟩) t t] 28)
        have HB5 : Hid (Below w.heap.size w (w4.alloc (.cells #[.slice (some ⟨g, 0, none⟩) t t] 28))) := HB4.out.alloc HB4.out.size _
        generalize w4.alloc (.cells #[.slice (some ⟨g, 0, none⟩) t t] 28) = w5 at *
        clear HB4 ha4 hr4
        go_wp2_with fail
        refine (fill_ok p m s s 0 _ c _ w5 ha5 (by omega) (by omega) (by omega) (by omega) hc0 hc1).mono ?_
        rintro e w6 ⟨rfl, ha6, ho6⟩
        rw [upd_zero] at ha6
        have hr6 := hr5.only ho6 gp gm
        have HB6 : Hid (Below w.heap.size w w6) := HB5.out.trans (ho6.below HB5.out.size hp' hm')
        clear HB5 ha5 hr5 ho6
        go_wp2_with fail
        refine (fill_bad p m s s 1 _ c _ w6 ha6 (by omega)).mono ?_
        rintro e w7 ⟨rfl, rfl⟩
        have e1 : ((s - t : Nat) : Int) = (s : Int) - (t : Int) := by omega
        have HR := Lib.hid (read_ok p m s (s - t) t _ _ w6 ha6 (by omega) (by omega) (by omega) (by omega))
        rw [e1] at HR
        clear e1
        go_wp2_with fail
        refine HR.out.mono ?_
        rintro e w8 ⟨g2, hg2, rfl, ha8, hr8, ho8⟩
        have hr9 := hr6.only ho8 gp gp
        have hr8' : Row w8 g2 t (fun _ => x) := hr8.congr fun i hi => by rw [upd_in _ _ _ _ _ (by omega) (by omega)]
        have hs1 := run_str (cap := t) hr9.src
        have hs2 := run_str (cap := t) hr8'.src
        have HB8 : Hid (Below w.heap.size w w8) := HB6.out.trans (ho8.below HB6.out.size hp' hp')
        clear HB6 hr6 hr8 ha6 ho8 HR
        go_wp2
        go_ret
        exact ⟨rfl, HB8.out⟩
      · have t5 : (s : Int) < (t : Int) := by omega
        have t5' : s < t := by omega
        go_wp2_with fail
        refine (write1_bad (kk := t) (q := fun _ => x) ha3 (Src.of_row hr3 gp gm 0 (by omega) (fun _ _ => rfl)) (by omega) (by omega) (by omega)).mono ?_
        rintro e w5 ⟨rfl, rfl⟩
        have ha4 := ha3.alloc (.cells #[.slice (some ⟨g, 0, none⟩) t t] 28)
        have hr4 := hr3.alloc (.cells #[.slice (some ⟨g, 0, none⟩) t t] 28)
        have HB4 : Hid (Below w.heap.size w (wr.alloc (.cells #[.slice (some ⟨g, 0, none⟩) t t] 28))) := HB3.out.alloc HB3.out.size _
        generalize wr.alloc (.cells #[.slice (some ⟨g, 0, none⟩) t t] 28) = w4 at *
        clear HB3 ha3 hr3 hgl
        go_wp2_with fail
        refine (write1_bad (kk := t) (q := fun _ => x) ha4 (Src.of_row hr4 gp gm 0 (by omega) (fun _ _ => rfl)) (by omega) (by omega) (by omega)).mono ?_
        rintro e w5 ⟨rfl, rfl⟩
        have ha5 := ha4.alloc (.cells #[.slice (some ⟨g, 0, none⟩) t t] 28)
        have HB5 : Hid (Below w.heap.size w (w4.alloc (.cells #[.slice (some ⟨g, 0, none⟩) t t] 28))) := HB4.out.alloc HB4.out.size _
        generalize w4.alloc (.cells #[.slice (some ⟨g, 0, none⟩) t t] 28) = w5 at *
        clear HB4 ha4 hr4
        go_wp2_with fail
        refine (fill_ok p m s s 0 _ c _ w5 ha5 (by omega) (by omega) (by omega) (by omega) hc0 hc1).mono ?_
        rintro e w6 ⟨rfl, ha6, ho6⟩
        have HB6 : Hid (Below w.heap.size w w6) := HB5.out.trans (ho6.below HB5.out.size hp' hm')
        clear HB5 ha5 ho6
        go_wp2_with fail
        refine (fill_bad p m s s 1 _ c _ w6 ha6 (by omega)).mono ?_
        rintro e w7 ⟨rfl, rfl⟩
        go_wp2_with (go_at_call 17; refine (cost_any p m s _ _ w6 ha6).mono ?_; rintro e w' ⟨rfl, rfl⟩)
        go_ret
        exact ⟨rfl, HB6.out⟩

set_option maxHeartbeats 800000 in
set_option maxRecDepth 100000 in
theorem walkOut (s n c : Int) (h : s < 0 ∨ 500 < s ∨ n < 0 ∨ 500 < n) (w : World) : Calls Try.prog 6 #[.int .i64 s, .int .i64 n, .int .u8 c] w (Post w) := by
  by_cases c1 : s < 0
  · go_enter Try.func6, Try.ntmps6
    go_wp2_with fail
    refine (known_any _).mono ?_
    rintro e w0 ⟨rfl, hb0⟩
    go_wp2
    go_ret
    exact ⟨rfl, hb0⟩
  have t1 : decide (s < 0) = false := by simpa using c1
  by_cases c2 : 500 < s
  · go_enter Try.func6, Try.ntmps6
    go_wp2_with fail
    refine (known_any _).mono ?_
    rintro e w0 ⟨rfl, hb0⟩
    go_wp2
    go_ret
    exact ⟨rfl, hb0⟩
  have t2 : decide (500 < s) = false := by simpa using c2
  by_cases c3 : n < 0
  · go_enter Try.func6, Try.ntmps6
    go_wp2_with fail
    refine (known_any _).mono ?_
    rintro e w0 ⟨rfl, hb0⟩
    go_wp2
    go_ret
    exact ⟨rfl, hb0⟩
  have t3 : decide (n < 0) = false := by simpa using c3
  have c4 : 500 < n := by omega
  clear h c1 c2 c3
  go_enter Try.func6, Try.ntmps6
  go_wp2_with fail
  refine (known_any _).mono ?_
  rintro e w0 ⟨rfl, hb0⟩
  go_wp2
  go_ret
  exact ⟨rfl, hb0⟩


/-! ### the walk -/
theorem walk (a0 : Int) (a1 : Int) (a2 : Int) (w0 : (Lit.int .i64 a0).wf = true) (w1 : (Lit.int .i64 a1).wf = true) (w2 : (Lit.int .u8 a2).wf = true) (w : World) :
    Calls Try.prog 6 #[.int .i64 a0, .int .i64 a1, .int .u8 a2] w fun e w' => e = .returned (.bool true) ∧ Below w.heap.size w w' := by
  have b2 := bounds_u8 w2
  by_cases h : a0 < 0 ∨ 500 < a0 ∨ a1 < 0 ∨ 500 < a1
  · exact walkOut a0 a1 a2 h w
  · obtain ⟨s, rfl⟩ : ∃ s : Nat, a0 = s := ⟨a0.toNat, by omega⟩
    obtain ⟨n, rfl⟩ : ∃ n : Nat, a1 = n := ⟨a1.toNat, by omega⟩
    exact walkIn s n a2 (by omega) (by omega) (by omega) (by omega) w

/-! ### THE ROW's STEP: WRITTEN OUT: LEAVE IT -/
set_option maxRecDepth 100000 in
theorem lifted (os : Os) (started : os.Started) (H : Type) (enc : TypeId × Value → H) :
    ReturnsInHanded {} Try.checked os 6 .any (Rows.arenaEdgesSpec.pre6 enc Try.prog Try.f6 Rows.arenaEdgesRow.domain false) (Rows.arenaEdgesSpec.post enc Try.prog Try.f6 false true false false) := by
  refine returnsInHanded_of_change (C := Try.checked) own started (by kernel_rfl) Try.func6
    (ChangeSpec.witness6 (enc := enc) (C := Try.checked) false ⟨#[], #[.int .i64 0, .int .i64 0, .int .u8 0], []⟩ 8 (by kernel_rfl) (by kernel_rfl) (by kernel_rfl) (by kernel_rfl)) ?_
  intro W base args ds gs before hval0 hW hcnd _
  have hval : ∀ (j : Nat) t v, Try.f6.params[j]? = some t → args[j]? = some v → Value.okWide Try.prog W .any base t v := hval0
  have hW' := hW
  obtain ⟨p, q, hA0, hV, rfl, hfz, hnd⟩ := hW
  have hA : DataW.TrodAll enc Try.prog W 0 (fun _ => true) true Try.f6.params.toList args.toList ds p := hA0
  rw [Try.params6] at hA hval
  obtain ⟨v0, vs0, d0, ds0, p0, q0, hargs, rfl, rfl, h0, r0⟩ := trodAll_cons hA
  obtain ⟨v1, vs1, d1, ds1, p1, q1, rfl, rfl, rfl, h1, r1⟩ := trodAll_cons r0
  obtain ⟨v2, vs2, d2, ds2, p2, q2, rfl, rfl, rfl, h2, r2⟩ := trodAll_cons r1
  obtain ⟨rfl, rfl, rfl⟩ := trodAll_nil r2
  obtain rfl : args = #[v0, v1, v2] := by cases args; simp_all
  obtain ⟨rfl, rfl⟩ := trodVars_none hV
  obtain ⟨a0, rfl, rfl, rfl, w0⟩ := open_int Try.underlying3 (hval 0 3 v0 rfl rfl) h0
  obtain ⟨a1, rfl, rfl, rfl, w1⟩ := open_int Try.underlying3 (hval 1 3 v1 rfl rfl) h1
  obtain ⟨a2, rfl, rfl, rfl, w2⟩ := open_int Try.underlying5 (hval 2 5 v2 rfl rfl) h2
  clear hA0 hval0
  simp only [List.append_nil] at hW'
  refine (walk a0 a1 a2 w0 w1 w2 W).mono fun e W' ⟨he, hg⟩ => ?_
  subst he
  exact ⟨_, rfl, _, _, _, [], [], [], hW', (trodAll_cons_mk (shut_bool Try.underlying4 _) trodAll_mk0), (trodAll_cons_mk (shut_int Try.underlying3 w0) (trodAll_cons_mk (shut_int Try.underlying3 w1) (trodAll_cons_mk (shut_int Try.underlying5 w2) trodAll_mk0))), rfl, hg.frame _, fun h => by cases h⟩

theorem over : Rows.arenaEdgesRow.holds Try.pinned (OpenSpec.ofChange Rows.arenaEdgesSpec) :=
  OpenClaim.holds_of_wide 6 Try.f6 rfl rfl rfl rfl rfl rfl rfl ⟨rfl, rfl, rfl, rfl, rfl⟩ rfl rfl rfl rfl rfl (by kernel_rfl) Try.func6 (by kernel_rfl)
    (of_decide_eq_true (by kernel_rfl)) (by unfold Func.isWrapper; first | (rw [if_pos (by decide +kernel)]; kernel_rfl) | (rw [if_neg (by decide +kernel)]; exact ⟨rfl, rfl⟩))
    (fun os started H enc _ => lifted os started H enc)

/-- ████ THE STATEMENT ████ -/
theorem proved : Rows.ArenaEdgesSaid :=
  over
#print axioms proved
end Go.Proofs.Ytbednmifgbbhlaa.arenaEdges
namespace Go.Proofs.Ytbednmifgbbhlaa
theorem arenaEdges_holds : Rows.ArenaEdgesSaid := arenaEdges.proved
end Go.Proofs.Ytbednmifgbbhlaa
