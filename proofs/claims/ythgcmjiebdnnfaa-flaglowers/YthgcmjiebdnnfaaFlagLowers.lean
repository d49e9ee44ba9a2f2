/-
  PROVED: the Go function detentlaw12.FlagLowers returns true for every input, and each argument reads behind the call as it read before (Rows.FlagLowersSaid). No condition.
-/
import Derived.Test.YthgcmjiebdnnfaaRows
import Derived.Test.YthgcmjiebdnnfaaFgK
import Derived.WalkKit
import Derived.ProofKit
import Derived.OpenShut
import Derived.ShutString
import Derived.ChangeOld
import Derived.Below
namespace Go.Proofs.Ythgcmjiebdnnfaa.flagLowers
open Go.ChangeShapes Go.WideShapes Go.ChangeAt Go.RowKit
open Go.ChangeMaps (open_string shut_string)
set_option linter.unusedVariables false      -- a walk need not use every 'w<i>' (that an integer argument fits its kind)

theorem own : ownKnob Try.prog.godebug = none := by kernel_rfl

theorem bv_of {x : Int} (h : U x) : ∃ A : BitVec 32, x = (A.toNat : Int) := by
  obtain ⟨n, rfl, hn⟩ := h.nat
  exact ⟨BitVec.ofNat 32 n, by rw [BitVec.toNat_ofNat, Nat.mod_eq_of_lt (by omega)]⟩
theorem bv_wrap (A : BitVec 32) : IntKind.u32.wrap (A.toNat : Int) = (A.toNat : Int) := wraps_u32 _ (by omega) (by have := A.isLt; omega)
theorem bv_and (A B : BitVec 32) : bits .and .u32 (A.toNat : Int) (B.toNat : Int) = ((A &&& B).toNat : Int) := by
  have := bv_wrap (A &&& B)
  unfold bits
  simp only [IntKind.bits, BitVec.ofInt_natCast, BitVec.ofNat_toNat, BitVec.setWidth_eq]
  exact this
theorem bv_or (A B : BitVec 32) : bits .or .u32 (A.toNat : Int) (B.toNat : Int) = ((A ||| B).toNat : Int) := by
  have := bv_wrap (A ||| B)
  unfold bits
  simp only [IntKind.bits, BitVec.ofInt_natCast, BitVec.ofNat_toNat, BitVec.setWidth_eq]
  exact this
theorem bv_not (A B : BitVec 32) : bits .andNot .u32 (A.toNat : Int) (B.toNat : Int) = ((A &&& ~~~B).toNat : Int) := by
  have := bv_wrap (A &&& ~~~B)
  unfold bits
  simp only [IntKind.bits, BitVec.ofInt_natCast, BitVec.ofNat_toNat, BitVec.setWidth_eq]
  exact this
theorem bv_u (A : BitVec 32) : U (A.toNat : Int) := ⟨by omega, by have := A.isLt; omega⟩
theorem low_facts {x m : Int} (hx : U x) (hm : U m) : bits .and .u32 (bits .and .u32 x m) (bits .andNot .u32 x m) = 0 ∧
    bits .and .u32 (bits .or .u32 (bits .and .u32 x m) (bits .andNot .u32 x m)) (bits .andNot .u32 x m) = bits .andNot .u32 x m := by
  obtain ⟨A, rfl⟩ := bv_of hx
  obtain ⟨B, rfl⟩ := bv_of hm
  rw [bv_not, bv_and, bv_and, bv_or, bv_and]
  have e1 : A &&& B &&& (A &&& ~~~B) = 0#32 := by
    ext i hi
    simp only [BitVec.getElem_and, BitVec.getElem_not, BitVec.getElem_zero]
    cases A[i] <;> cases B[i] <;> rfl
  have e2 : (A &&& B ||| A &&& ~~~B) &&& (A &&& ~~~B) = A &&& ~~~B := by
    ext i hi
    simp only [BitVec.getElem_and, BitVec.getElem_or, BitVec.getElem_not]
    cases A[i] <;> cases B[i] <;> rfl
  rw [e1, e2]
  exact ⟨rfl, rfl⟩

set_option maxHeartbeats 1600000 in
theorem walkIn (x m : Int) (hx : U x) (hm : U m) (w : World) : Calls Try.prog 8 #[.int .u32 x, .int .u32 m] w fun e w' => e = .returned (.bool true) ∧ Below w.heap.size w w' := by
  obtain ⟨k1, k2⟩ := low_facts hx hm
  obtain ⟨v, hv⟩ : ∃ v, bits .andNot .u32 x m = v := ⟨_, rfl⟩
  obtain ⟨y, hy⟩ : ∃ y, bits .and .u32 x m = y := ⟨_, rfl⟩
  rw [hv, hy] at k1 k2
  obtain ⟨z, hz⟩ : ∃ z, bits .or .u32 y v = z := ⟨_, rfl⟩
  rw [hz] at k2
  have HL := Lib.hid (show low ⟨false, true, false, x, [], fun _ => (0, 0)⟩ m = ⟨false, true, false, y, [], fun _ => (0, 0)⟩ from by unfold low setx; rw [show bits .and .u32 (St.x ⟨false, true, false, x, [], fun _ => (0, 0)⟩) m = y from hy])
  by_cases h0 : v = 0
  · have t1 : (v == 0) = true := by simpa using h0
    clear k1 k2 hz h0
    go_enter Try.func8, Try.ntmps8
    go_wp2_with fail
    refine (known_ok w).mono ?_
    rintro e w0 ⟨rfl, hb0⟩
    go_wp2_with fail
    refine (new_at w w0 false true false x hb0).mono ?_
    rintro e w1 ⟨s, p, rfl, h1, _, _, _⟩
    go_wp2_with fail
    refine (lower_at h1).mono ?_
    rintro e w2 ⟨rfl, h2⟩
    rw [HL.out] at h2
    have d1 := h2.c1
    have HB := Lib.hid h2.b
    simp only at d1
    clear h1 h2 hb0
    go_wp2
    go_ret
    exact ⟨rfl, HB.out⟩
  · have t1 : (v == 0) = false := by simpa using h0
    have P1 : perm (v, 1) = true := by simp [perm, h0]
    have M1 : met y (v, 1) = false := by simp [met, k1]
    have F0 := Lib.hid (fine_new false true false y (fun _ => (0, 0)))
    obtain ⟨W, hW, e1⟩ := one_wait false true false y 1 1 (v, 1) (fun _ => (0, 0)) (by omega) (by omega) P1 M1
    have E1 := Lib.hid e1
    have F1 := Lib.hid (F0.out.wait E1.out)
    have o1 : ors y [v] = z := hz
    have E4 := Lib.hid (raise_one (b := false) (m := true) (c := false) (x := y) (y := (1, 1)) (W := W) (ys := [v]) (by rw [o1, hW]; simp [met, k2, h0]))
    rw [o1] at E4
    clear h0 P1 M1 e1 hW o1 k1 k2
    go_enter Try.func8, Try.ntmps8
    go_wp2_with fail
    refine (known_ok w).mono ?_
    rintro e w0 ⟨rfl, hb0⟩
    go_wp2_with fail
    refine (new_at w w0 false true false x hb0).mono ?_
    rintro e w1 ⟨s, p, rfl, h1, _, _, _⟩
    go_wp2_with fail
    refine (lower_at h1).mono ?_
    rintro e w2 ⟨rfl, h2⟩
    rw [HL.out] at h2
    have d1 := h2.c1
    simp only at d1
    clear h1 hb0
    go_wp2_with fail
    refine (wait_at h2 F0.out E1.out).mono ?_
    rintro e w3 ⟨rfl, h3, _⟩
    have HA := Lib.hid (h3.alloc (.cells #[.int .u32 v] 22))
    have HU := Lib.hid (us_one w3 s v h3.sq.lts)
    clear h2 h3 d1
    go_wp2_with fail
    refine (raise_at HA.out F1.out HU.out (n := 1) (cap := 1) rfl (by omega) E4.out (c := 1) rfl).mono ?_
    rintro e w5 ⟨X, k, rfl, hw, h5, _⟩
    obtain ⟨g, rfl, q0, q1⟩ := hw.one
    have HB := Lib.hid h5.b
    simp only at q1
    clear HA HU hw h5 q0
    go_wp2
    go_ret
    exact ⟨rfl, HB.out⟩

/-! ### the walk -/
theorem walk (a0 : Int) (a1 : Int) (w0 : (Lit.int .u32 a0).wf = true) (w1 : (Lit.int .u32 a1).wf = true) (w : World) :
    Calls Try.prog 8 #[.int .u32 a0, .int .u32 a1] w fun e w' => e = .returned (.bool true) ∧ Below w.heap.size w w' := by
  exact walkIn a0 a1 (u_of w0) (u_of w1) w

/-! ### THE ROW's STEP: WRITTEN OUT: LEAVE IT -/
set_option maxRecDepth 100000 in
theorem lifted (os : Os) (started : os.Started) (H : Type) (enc : TypeId × Value → H) :
    ReturnsInHanded {} Try.checked os 8 .any (Rows.flagLowersSpec.pre6 enc Try.prog Try.f8 Rows.flagLowersRow.domain false) (Rows.flagLowersSpec.post enc Try.prog Try.f8 false true false false) := by
  refine returnsInHanded_of_change (C := Try.checked) own started (by kernel_rfl) Try.func8
    (ChangeSpec.witness6 (enc := enc) (C := Try.checked) false ⟨#[], #[.int .u32 0, .int .u32 0], []⟩ 8 (by kernel_rfl) (by kernel_rfl) (by kernel_rfl) (by kernel_rfl)) ?_
  intro W base args ds gs before hval0 hW hcnd _
  have hval : ∀ (j : Nat) t v, Try.f8.params[j]? = some t → args[j]? = some v → Value.okWide Try.prog W .any base t v := hval0
  have hW' := hW
  obtain ⟨p, q, hA0, hV, rfl, hfz, hnd⟩ := hW
  have hA : DataW.TrodAll enc Try.prog W 0 (fun _ => true) true Try.f8.params.toList args.toList ds p := hA0
  rw [Try.params8] at hA hval
  obtain ⟨v0, vs0, d0, ds0, p0, q0, hargs, rfl, rfl, h0, r0⟩ := trodAll_cons hA
  obtain ⟨v1, vs1, d1, ds1, p1, q1, rfl, rfl, rfl, h1, r1⟩ := trodAll_cons r0
  obtain ⟨rfl, rfl, rfl⟩ := trodAll_nil r1
  obtain rfl : args = #[v0, v1] := by cases args; simp_all
  obtain ⟨rfl, rfl⟩ := trodVars_none hV
  obtain ⟨a0, rfl, rfl, rfl, w0⟩ := open_int Try.underlying22 (hval 0 22 v0 rfl rfl) h0
  obtain ⟨a1, rfl, rfl, rfl, w1⟩ := open_int Try.underlying22 (hval 1 22 v1 rfl rfl) h1
  clear hA0 hval0
  simp only [List.append_nil] at hW'
  refine (walk a0 a1 w0 w1 W).mono fun e W' ⟨he, hg⟩ => ?_
  subst he
  exact ⟨_, rfl, _, _, _, [], [], [], hW', (trodAll_cons_mk (shut_bool Try.underlying4 _) trodAll_mk0), (trodAll_cons_mk (shut_int Try.underlying22 w0) (trodAll_cons_mk (shut_int Try.underlying22 w1) trodAll_mk0)), rfl, hg.frame _, fun h => by cases h⟩

theorem over : Rows.flagLowersRow.holds Try.pinned (OpenSpec.ofChange Rows.flagLowersSpec) :=
  OpenClaim.holds_of_wide 8 Try.f8 rfl rfl rfl rfl rfl rfl rfl ⟨rfl, rfl, rfl, rfl, rfl⟩ rfl rfl rfl rfl rfl (by kernel_rfl) Try.func8 (by kernel_rfl)
    (of_decide_eq_true (by kernel_rfl)) (by unfold Func.isWrapper; first | (rw [if_pos (by decide +kernel)]; kernel_rfl) | (rw [if_neg (by decide +kernel)]; exact ⟨rfl, rfl⟩))
    (fun os started H enc _ => lifted os started H enc)

/-- ████ THE STATEMENT ████ -/
theorem proved : Rows.FlagLowersSaid :=
  over
#print axioms proved
end Go.Proofs.Ythgcmjiebdnnfaa.flagLowers
namespace Go.Proofs.Ythgcmjiebdnnfaa
theorem flagLowers_holds : Rows.FlagLowersSaid := flagLowers.proved
end Go.Proofs.Ythgcmjiebdnnfaa
