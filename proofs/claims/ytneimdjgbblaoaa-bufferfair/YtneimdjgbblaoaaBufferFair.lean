/-
  PROVED: the Go function detentlaw16.BufferFair returns true for every input, and each argument reads behind the call as it read before (Rows.BufferFairSaid). No condition.
-/
import Derived.Test.YtneimdjgbblaoaaRows
import Derived.Test.YtneimdjgbblaoaaBfL
import Derived.WalkKit
import Derived.ProofKit
import Derived.OpenShut
import Derived.ShutString
import Derived.ChangeOld
import Derived.Below
namespace Go.Proofs.Ytneimdjgbblaoaa.bufferFair
open Go.ChangeShapes Go.WideShapes Go.ChangeAt Go.RowKit
open Go.ChangeMaps (open_string shut_string)
set_option linter.unusedVariables false      -- a walk need not use every 'w<i>' (that an integer argument fits its kind)

theorem own : ownKnob Try.prog.godebug = none := by kernel_rfl

def zs (n : Nat) : List Int := R.mkm n (fun _ => 0)
theorem zs_len (n : Nat) : (zs n).length = n := R.mkm_len _ _
set_option maxHeartbeats 4000000 in
set_option maxRecDepth 100000 in
theorem in_fair (a0 a1 : Int) (x y : Nat) (h0 : 0 ≤ a0 ∧ a0 ≤ 255) (h1 : 0 ≤ a1 ∧ a1 ≤ 255) (hx : a0 % 100 = (x : Int)) (hy : a1 % 100 = (y : Int)) (w : World) :
    Calls Try.prog 6 #[.int .u8 a0, .int .u8 a1] w fun e w' => e = .returned (.bool true) ∧ Below w.heap.size w w' := by
  have hxl : x ≤ 99 := by omega
  have hyl : y ≤ 99 := by omega
  have HMK0 := Lib.hid (fun W : World => R.run_make_bytes 40 (by omega) W)
  have hmx : ∀ W : World, (Instr.makeSlice 31 (.int .i64 (1 + (x : Int))) (.int .i64 (1 + (x : Int)))).run Try.prog W = .ok (.slice (some ⟨W.heap.size, 0, none⟩) (x + 1) (x + 1)) (W.alloc (.cells (madeCells #[.int .u8 0] (x + 1)) 5)) := fun W => by
    have h := R.run_make_bytes (x + 1) (by omega) W
    have e : ((x + 1 : Nat) : Int) = 1 + (x : Int) := by omega
    rw [e] at h; exact h
  have hmy : ∀ W : World, (Instr.makeSlice 31 (.int .i64 (1 + (y : Int))) (.int .i64 (1 + (y : Int)))).run Try.prog W = .ok (.slice (some ⟨W.heap.size, 0, none⟩) (y + 1) (y + 1)) (W.alloc (.cells (madeCells #[.int .u8 0] (y + 1)) 5)) := fun W => by
    have h := R.run_make_bytes (y + 1) (by omega) W
    have e : ((y + 1 : Nat) : Int) = 1 + (y : Int) := by omega
    rw [e] at h; exact h
  have HMX := Lib.hid hmx
  have HMY := Lib.hid hmy
  clear hmx hmy
  have HS1 := Lib.hid (send_room (t := st0 false 100 100) (id := 1) (pri := 1) (x := zs 40) (by rw [zs_len]; show ¬ (40 = 0 ∨ 100 < 40); omega) rfl rfl (by rw [zs_len]; exact fits_yes (by omega) (by show 0 + R.occ 40 ≤ 100; decide)))
  obtain ⟨t1, ht1⟩ : ∃ t1, ({ st0 false 100 100 with G := (st0 false 100 100).G ++ [zs 40] } : St) = t1 := ⟨_, rfl⟩
  rw [ht1] at HS1
  have g1 : R.tot t1.G = 44 := by rw [← ht1]; decide +kernel
  have m1 : t1.m = 100 := by rw [← ht1]; rfl
  have n1 : t1.N = 100 := by rw [← ht1]; rfl
  have s1 : t1.S = [] := by rw [← ht1]; rfl
  have r1 : t1.R = [] := by rw [← ht1]; rfl
  have bad1 : ¬ ((zs (x + 1)).length = 0 ∨ t1.m < (zs (x + 1)).length) := by rw [zs_len, m1]; omega
  have bad2 : ∀ t : St, t.m = 100 → ¬ ((zs (y + 1)).length = 0 ∨ t.m < (zs (y + 1)).length) := fun t h => by rw [zs_len, h]; omega
  have T1 := Lib.hid (And.intro g1 (And.intro m1 (And.intro n1 (And.intro s1 (And.intro r1 (And.intro bad1 bad2))))))
  clear g1 m1 n1 s1 r1 bad1 bad2 ht1
  go_enter Try.func6, Try.ntmps6
  go_wp2_with fail
  refine (known_any w).mono ?_
  rintro e w1 ⟨rfl, hb⟩
  have HB := Lib.hid hb
  clear hb
  go_wp2_with fail
  refine (new_at w w1 false 100 100 (by omega) (by omega) (by omega) 100 rfl 100 rfl HB.out).mono ?_
  rintro e w2 ⟨s, p, m0, rfl, ha, _, _, _, _⟩
  have HA := Lib.hid ha
  have hmk : (Instr.makeSlice 31 (.int .i64 40) (.int .i64 40)).run Try.prog w2 = .ok (.slice (some ⟨w2.heap.size, 0, none⟩) 40 40) (w2.alloc (.cells (madeCells #[.int .u8 0] 40) 5)) := HMK0.out w2
  clear ha
  go_wp2_with fail
  refine (send_at (HA.out.alloc _) (HA.out.zeros 40) (Nat.le_refl _) (by omega) HS1.out).mono ?_
  rintro e w3 ⟨rfl, ha3, _⟩
  have HA3 := Lib.hid ha3
  have hmk2 := HMX.out w3
  clear ha3 hmk HA
  go_wp2_with fail
  by_cases c : R.occ (x + 1) ≤ 56
  · have HS2 := Lib.hid (send_room (t := t1) (id := 2) (pri := 1) (x := zs (x + 1)) T1.out.2.2.2.2.2.1 T1.out.2.2.2.2.1 T1.out.2.2.2.1 (by rw [zs_len, T1.out.1, T1.out.2.2.1]; exact fits_yes (by omega) (by omega)))
    obtain ⟨t2, ht2⟩ : ∃ t2, ({ t1 with G := t1.G ++ [zs (x + 1)] } : St) = t2 := ⟨_, rfl⟩
    rw [ht2] at HS2
    have g2 : R.tot t2.G = 44 + R.occ (x + 1) := by rw [← ht2]; show R.tot (t1.G ++ [zs (x + 1)]) = _; rw [R.tot_append, T1.out.1, zs_len]
    have T2 := Lib.hid (And.intro g2 (And.intro (show t2.m = 100 by rw [← ht2]; exact T1.out.2.1) (And.intro (show t2.N = 100 by rw [← ht2]; exact T1.out.2.2.1) (And.intro (show t2.S = [] by rw [← ht2]; exact T1.out.2.2.2.1) (show t2.R = [] by rw [← ht2]; exact T1.out.2.2.2.2.1)))))
    have f1 : decide ((1 + (x : Int) + 3) / 4 * 4 + 4 ≤ 56) = true := by simp; unfold R.occ at c; omega
    clear g2 ht2
    refine (send_at (HA3.out.alloc _) (HA3.out.zeros (x + 1)) (Nat.le_refl _) (by omega) HS2.out).mono ?_
    rintro e w4 ⟨rfl, ha4, _⟩
    have HA4 := Lib.hid ha4
    have hmk3 := HMY.out w4
    clear ha4 hmk2 HA3 c
    by_cases d : R.occ (x + 1) + R.occ (y + 1) ≤ 56
    · have HS3 := Lib.hid (trySend_room (t := t2) (x := zs (y + 1)) (T1.out.2.2.2.2.2.2 t2 T2.out.2.1) T2.out.2.2.2.2 T2.out.2.2.2.1 (by rw [zs_len, T2.out.1, T2.out.2.2.1]; exact fits_yes (by omega) (by omega)))
      have f2 : decide ((1 + (y : Int) + 3) / 4 * 4 + 4 ≤ 56 - (1 + (x : Int) + 3) / 4 * 4 - 4) = true := by simp; unfold R.occ at d; omega
      clear d
      go_wp2_with fail
      refine (trySend_at (HA4.out.alloc _) (HA4.out.zeros (y + 1)) (Nat.le_refl _) (by omega) HS3.out).mono ?_
      rintro e w5 ⟨rfl, ha5, _⟩
      have HA5 := Lib.hid ha5
      clear ha5 hmk3 HA4
      go_wp2
      go_ret
      exact ⟨rfl, HA5.out.b⟩
    · have HS3 := Lib.hid (trySend_no (t := t2) (x := zs (y + 1)) (T1.out.2.2.2.2.2.2 t2 T2.out.2.1) T2.out.2.2.2.2 (by rw [zs_len, T2.out.1, T2.out.2.2.1]; exact fun e => fits_no (by omega) e.2))
      have f2 : decide ((1 + (y : Int) + 3) / 4 * 4 + 4 ≤ 56 - (1 + (x : Int) + 3) / 4 * 4 - 4) = false := by simp; unfold R.occ at d; omega
      clear d
      go_wp2_with fail
      refine (trySend_at (HA4.out.alloc _) (HA4.out.zeros (y + 1)) (Nat.le_refl _) (by omega) HS3.out).mono ?_
      rintro e w5 ⟨rfl, ha5, _⟩
      have HA5 := Lib.hid ha5
      clear ha5 hmk3 HA4
      go_wp2
      go_ret
      exact ⟨rfl, HA5.out.b⟩
  · have HS2 := Lib.hid (send_wait (t := t1) (id := 2) (pri := 1) (x := zs (x + 1)) T1.out.2.2.2.2.2.1 T1.out.2.2.2.2.1 (by rw [zs_len, T1.out.1, T1.out.2.2.1]; exact fun e => fits_no (by omega) e.2))
    have e0 : (waitS t1 2 1 (zs (x + 1))).2 = 0 := by show addC t1.S 2 1 = 0; rw [T1.out.2.2.2.1]; rfl
    have eS : (waitS t1 2 1 (zs (x + 1))).1.S = [(2, 1)] := by show addL t1.b t1.S 2 1 = _; rw [T1.out.2.2.2.1]; cases t1.b <;> rfl
    have em : (waitS t1 2 1 (zs (x + 1))).1.m = 100 := T1.out.2.1
    have eR : (waitS t1 2 1 (zs (x + 1))).1.R = [] := T1.out.2.2.2.2.1
    obtain ⟨t2, ht2⟩ : ∃ t2, (waitS t1 2 1 (zs (x + 1))).1 = t2 := ⟨_, rfl⟩
    rw [ht2] at HS2 eS em eR
    rw [e0] at HS2
    have f1 : decide ((1 + (x : Int) + 3) / 4 * 4 + 4 ≤ 56) = false := by simp; unfold R.occ at c; omega
    have HS3 := Lib.hid (trySend_no (t := t2) (x := zs (y + 1)) (T1.out.2.2.2.2.2.2 t2 em) eR (fun e => by rw [eS] at e; cases e.1))
    have HES := Lib.hid eS
    clear ht2 c e0 em eR eS
    refine (send_at (HA3.out.alloc _) (HA3.out.zeros (x + 1)) (Nat.le_refl _) (by omega) HS2.out).mono ?_
    rintro e w4 ⟨rfl, ha4, _⟩
    have HA4 := Lib.hid ha4
    have hmk3 := HMY.out w4
    clear ha4 hmk2 HA3
    go_wp2_with fail
    refine (trySend_at (HA4.out.alloc _) (HA4.out.zeros (y + 1)) (Nat.le_refl _) (by omega) HS3.out).mono ?_
    rintro e w5 ⟨rfl, ha5, _⟩
    have HA5 := Lib.hid ha5
    clear ha5 hmk3 HA4
    go_wp2_with fail
    refine (senders_at HA5.out (n := 1) (by rw [HES.out]; rfl)).mono ?_
    rintro e w6 ⟨X, k, rfl, _, hb6⟩
    have HB6 := Lib.hid (HA5.out.b.trans (hb6.mono HA5.out.b.size))
    clear hb6
    go_wp2
    go_ret
    exact ⟨rfl, HB6.out⟩

/-! ### the walk -/
set_option maxRecDepth 100000 in
set_option maxHeartbeats 4000000 in
theorem walk (a0 : Int) (a1 : Int) (w0 : (Lit.int .u8 a0).wf = true) (w1 : (Lit.int .u8 a1).wf = true) (w : World) :
    Calls Try.prog 6 #[.int .u8 a0, .int .u8 a1] w fun e w' => e = .returned (.bool true) ∧ Below w.heap.size w w' := by
  have h0 := bounds_u8 w0
  have h1 := bounds_u8 w1
  exact in_fair a0 a1 (a0 % 100).toNat (a1 % 100).toNat (by omega) (by omega) (by omega) (by omega) w

/-! ### THE ROW's STEP: WRITTEN OUT: LEAVE IT -/
set_option maxRecDepth 100000 in
theorem lifted (os : Os) (started : os.Started) (H : Type) (enc : TypeId × Value → H) :
    ReturnsInHanded {} Try.checked os 6 .any (Rows.bufferFairSpec.pre6 enc Try.prog Try.f6 Rows.bufferFairRow.domain false) (Rows.bufferFairSpec.post enc Try.prog Try.f6 false true false false) := by
  refine returnsInHanded_of_change (C := Try.checked) own started (by kernel_rfl) Try.func6
    (ChangeSpec.witness6 (enc := enc) (C := Try.checked) false ⟨#[], #[.int .u8 0, .int .u8 0], []⟩ 8 (by kernel_rfl) (by kernel_rfl) (by kernel_rfl) (by kernel_rfl)) ?_
  intro W base args ds gs before hval0 hW hcnd _
  have hval : ∀ (j : Nat) t v, Try.f6.params[j]? = some t → args[j]? = some v → Value.okWide Try.prog W .any base t v := hval0
  have hW' := hW
  obtain ⟨p, q, hA0, hV, rfl, hfz, hnd⟩ := hW
  have hA : DataW.TrodAll enc Try.prog W 0 (fun _ => true) true Try.f6.params.toList args.toList ds p := hA0
  rw [Try.params6] at hA hval
  obtain ⟨v0, vs0, d0, ds0, p0, q0, hargs, rfl, rfl, h0, r0⟩ := trodAll_cons hA
  obtain ⟨v1, vs1, d1, ds1, p1, q1, rfl, rfl, rfl, h1, r1⟩ := trodAll_cons r0
  obtain ⟨rfl, rfl, rfl⟩ := trodAll_nil r1
  obtain rfl : args = #[v0, v1] := by cases args; simp_all
  obtain ⟨rfl, rfl⟩ := trodVars_none hV
  obtain ⟨a0, rfl, rfl, rfl, w0⟩ := open_int Try.underlying5 (hval 0 5 v0 rfl rfl) h0
  obtain ⟨a1, rfl, rfl, rfl, w1⟩ := open_int Try.underlying5 (hval 1 5 v1 rfl rfl) h1
  clear hA0 hval0
  simp only [List.append_nil] at hW'
  refine (walk a0 a1 w0 w1 W).mono fun e W' ⟨he, hg⟩ => ?_
  subst he
  exact ⟨_, rfl, _, _, _, [], [], [], hW', (trodAll_cons_mk (shut_bool Try.underlying4 _) trodAll_mk0), (trodAll_cons_mk (shut_int Try.underlying5 w0) (trodAll_cons_mk (shut_int Try.underlying5 w1) trodAll_mk0)), rfl, hg.frame _, fun h => by cases h⟩

theorem over : Rows.bufferFairRow.holds Try.pinned (OpenSpec.ofChange Rows.bufferFairSpec) :=
  OpenClaim.holds_of_wide 6 Try.f6 rfl rfl rfl rfl rfl rfl rfl ⟨rfl, rfl, rfl, rfl, rfl⟩ rfl rfl rfl rfl rfl (by kernel_rfl) Try.func6 (by kernel_rfl)
    (of_decide_eq_true (by kernel_rfl)) (by unfold Func.isWrapper; first | (rw [if_pos (by decide +kernel)]; kernel_rfl) | (rw [if_neg (by decide +kernel)]; exact ⟨rfl, rfl⟩))
    (fun os started H enc _ => lifted os started H enc)

/-- ████ THE STATEMENT ████ -/
theorem proved : Rows.BufferFairSaid :=
  over
#print axioms proved
end Go.Proofs.Ytneimdjgbblaoaa.bufferFair
namespace Go.Proofs.Ytneimdjgbblaoaa
theorem bufferFair_holds : Rows.BufferFairSaid := bufferFair.proved
end Go.Proofs.Ytneimdjgbblaoaa
