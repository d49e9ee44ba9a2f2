/-
  PROVED: the Go function detentlaw11.SemBounds returns true for every input, and each argument reads behind the call as it read before (Rows.SemBoundsSaid). No condition.
-/
import Derived.Test.YtpkfdlmfcmiabaaRows
import Derived.Test.YtpkfdlmfcmiabaaSmK
import Derived.WalkKit
import Derived.ProofKit
import Derived.OpenShut
import Derived.ShutString
import Derived.ChangeOld
import Derived.Below
namespace Go.Proofs.Ytpkfdlmfcmiabaa.semBounds
open Go.ChangeShapes Go.WideShapes Go.ChangeAt Go.RowKit
open Go.ChangeMaps (open_string shut_string)
set_option linter.unusedVariables false      -- a walk need not use every 'w<i>' (that an integer argument fits its kind)

theorem own : ownKnob Try.prog.godebug = none := by kernel_rfl

def Post (w : World) (e : Ending) (w' : World) : Prop := e = .returned (.bool true) ∧ Below w.heap.size w w'

def UpRel (s p : Nat) (c m : Int) (w : World) (i : Value) (wr : World) : Prop := ∃ t : Int, i = .int .i64 t ∧ c ≤ t ∧ t ≤ m ∧ At w s p ⟨true, [], t, m⟩ wr
def DnRel (s p : Nat) (m : Int) (w : World) (i : Value) (wr : World) : Prop := ∃ t : Int, i = .int .i64 t ∧ 0 ≤ t ∧ t ≤ m ∧ At w s p ⟨true, [], m - t, m⟩ wr

theorem sig_up {c m : Int} (h : c < m) : sig ⟨true, [], c, m⟩ = (⟨true, [], c + 1, m⟩, 0, 0) := by unfold sig; simp only; rw [if_neg (by omega)]
theorem sig_full {m : Int} : sig ⟨true, [], m, m⟩ = (⟨true, [], m, m⟩, 0, -43) := by unfold sig; simp only; rw [if_pos (by omega)]
theorem poll_dn {c m : Int} (h : 0 < c) : poll ⟨true, [], c, m⟩ = (⟨true, [], c - 1, m⟩, true) := by unfold poll; simp only; rw [if_pos h]
theorem poll_no {m : Int} : poll ⟨true, [], 0, m⟩ = (⟨true, [], 0, m⟩, false) := by unfold poll; simp

set_option maxHeartbeats 800000 in
theorem walkOut (c m : Int) (w : World) (h : m < 1 ∨ 300 < m ∨ c < 0 ∨ m < c) : Calls Try.prog 6 #[.int .i64 c, .int .i64 m] w (Post w) := by
  by_cases h1 : m < 1
  · have t1 : decide (m < 1) = true := by simpa using h1
    go_enter Try.func6, Try.ntmps6
    go_wp2_with fail
    refine (known_ok _).mono ?_
    rintro e w0 ⟨rfl, hb0⟩
    go_wp2
    go_ret
    exact ⟨rfl, hb0⟩
  have t1 : decide (m < 1) = false := by simp; omega
  by_cases h2 : 300 < m
  · have t2 : decide (300 < m) = true := by simpa using h2
    go_enter Try.func6, Try.ntmps6
    go_wp2_with fail
    refine (known_ok _).mono ?_
    rintro e w0 ⟨rfl, hb0⟩
    go_wp2
    go_ret
    exact ⟨rfl, hb0⟩
  have t2 : decide (300 < m) = false := by simp; omega
  by_cases h3 : c < 0
  · have t3 : decide (c < 0) = true := by simpa using h3
    go_enter Try.func6, Try.ntmps6
    go_wp2_with fail
    refine (known_ok _).mono ?_
    rintro e w0 ⟨rfl, hb0⟩
    go_wp2
    go_ret
    exact ⟨rfl, hb0⟩
  have t3 : decide (c < 0) = false := by simp; omega
  have t4 : decide (m < c) = true := by simp; omega
  go_enter Try.func6, Try.ntmps6
  go_wp2_with fail
  refine (known_ok _).mono ?_
  rintro e w0 ⟨rfl, hb0⟩
  go_wp2
  go_ret
  exact ⟨rfl, hb0⟩

set_option maxHeartbeats 3200000 in
theorem walkIn (c m : Int) (w : World) (h1 : 1 ≤ m) (h2 : m ≤ 300) (h3 : 0 ≤ c) (h4 : c ≤ m) : Calls Try.prog 6 #[.int .i64 c, .int .i64 m] w (Post w) := by
  have t1 : decide (m < 1) = false := by simp; omega
  have t2 : decide (300 < m) = false := by simp; omega
  have t3 : decide (c < 0) = false := by simp; omega
  have t4 : decide (m < c) = false := by simp; omega
  have HT := Lib.hid (show takes c m by unfold takes; omega)
  have HF := Lib.hid (fun (k : Int) (hk : 0 ≤ k ∧ k ≤ m) => fine_new (b := true) (c := k) (m := m) (by unfold takes; omega))
  go_enter Try.func6, Try.ntmps6
  go_wp2_with fail
  refine (known_ok _).mono ?_
  rintro e w0 ⟨rfl, hb0⟩
  go_wp2_with fail
  refine (new_at w w0 true c m HT.out hb0).mono ?_
  rintro e w1 ⟨s, p, rfl, h1'⟩
  clear hb0 t1 t2 t3 t4
  go_wp2
  go_loopw [7] (fun i wr => UpRel s p c m w i wr) (fun i _ => (m - intOf i).toNat)
  case atStart => exact ⟨c, rfl, Int.le_refl _, h4, h1'⟩
  case round =>
    obtain ⟨t, rfl, ht1, ht2, h2'⟩ := hrel
    clear h1'
    by_cases hlt : t < m
    · have u1 : decide (t < m) = true := by simpa using hlt
      go_wp2_with fail
      refine (signal_at h2' (HF.out t (by omega)) (sig_up hlt)).mono ?_
      rintro e w3 ⟨rfl, h3'⟩
      clear h2'
      go_wp2
      go_roundw
      case rel => exact ⟨t + 1, by go_num, by omega, by omega, h3'⟩
      case measure => simp [intOf]; omega
    · obtain rfl : t = m := by omega
      have u1 : decide (t < t) = false := by simp
      go_wp2_with fail
      refine (signal_at h2' (HF.out t (by omega)) sig_full).mono ?_
      rintro e w3 ⟨rfl, h3'⟩
      clear h2' hlt ht1 ht2
      go_wp2
      go_loopw [12] (fun i wr => DnRel s p t w i wr) (fun i _ => (t - intOf i).toNat)
      case atStart => exact ⟨0, rfl, Int.le_refl _, by omega, by simpa using h3'⟩
      case round =>
        obtain ⟨n, rfl, hn1, hn2, h4'⟩ := hrel
        clear h3'
        by_cases hn : n < t
        · have u2 : decide (t < n + 1) = false := by simp; omega
          go_wp2_with fail
          refine (poll_at h4' (HF.out (t - n) (by omega)) (poll_dn (by omega))).mono ?_
          rintro e w5 ⟨rfl, h5'⟩
          clear h4'
          go_wp2
          go_roundw
          case rel => exact ⟨n + 1, by go_num, by omega, by omega, by rw [show t - (n + 1) = t - n - 1 by omega]; exact h5'⟩
          case measure => simp [intOf]; omega
        · obtain rfl : n = t := by omega
          rw [Int.sub_self] at h4'
          go_wp2_with fail
          refine (poll_at h4' (HF.out 0 (by omega)) poll_no).mono ?_
          rintro e w5 ⟨rfl, h5'⟩
          have d1 := h5'.c1
          simp only at d1
          go_wp2
          go_ret
          exact ⟨rfl, h5'.b⟩


/-! ### the walk -/
theorem walk (a0 : Int) (a1 : Int) (w0 : (Lit.int .i64 a0).wf = true) (w1 : (Lit.int .i64 a1).wf = true) (w : World) :
    Calls Try.prog 6 #[.int .i64 a0, .int .i64 a1] w fun e w' => e = .returned (.bool true) ∧ Below w.heap.size w w' := by
  by_cases h : a1 < 1 ∨ 300 < a1 ∨ a0 < 0 ∨ a1 < a0
  · exact walkOut a0 a1 w h
  · exact walkIn a0 a1 w (by omega) (by omega) (by omega) (by omega)

/-! ### THE ROW's STEP: WRITTEN OUT: LEAVE IT -/
set_option maxRecDepth 100000 in
theorem lifted (os : Os) (started : os.Started) (H : Type) (enc : TypeId × Value → H) :
    ReturnsInHanded {} Try.checked os 6 .any (Rows.semBoundsSpec.pre6 enc Try.prog Try.f6 Rows.semBoundsRow.domain false) (Rows.semBoundsSpec.post enc Try.prog Try.f6 false true false false) := by
  refine returnsInHanded_of_change (C := Try.checked) own started (by kernel_rfl) Try.func6
    (ChangeSpec.witness6 (enc := enc) (C := Try.checked) false ⟨#[], #[.int .i64 0, .int .i64 0], []⟩ 8 (by kernel_rfl) (by kernel_rfl) (by kernel_rfl) (by kernel_rfl)) ?_
  intro W base args ds gs before hval0 hW hcnd _
  have hval : ∀ (j : Nat) t v, Try.f6.params[j]? = some t → args[j]? = some v → Value.okWide Try.prog W .any base t v := hval0
  have hW' := hW
  obtain ⟨p, q, hA0, hV, rfl, hfz, hnd⟩ := hW
  have hA : DataW.TrodAll enc Try.prog W 0 (fun _ => true) true Try.f6.params.toList args.toList ds p := hA0
  rw [Try.params6] at hA hval
  obtain ⟨v0, vs0, d0, ds0, p0, q0, hargs, rfl, rfl, h0, r0⟩ := trodAll_cons hA
  obtain ⟨v1, vs1, d1, ds1, p1, q1, rfl, rfl, rfl, h1, r1⟩ := trodAll_cons r0
  obtain ⟨rfl, rfl, rfl⟩ := trodAll_nil r1
  obtain rfl : args = #[v0, v1] := by cases args; simp_all
  obtain ⟨rfl, rfl⟩ := trodVars_none hV
  obtain ⟨a0, rfl, rfl, rfl, w0⟩ := open_int Try.underlying3 (hval 0 3 v0 rfl rfl) h0
  obtain ⟨a1, rfl, rfl, rfl, w1⟩ := open_int Try.underlying3 (hval 1 3 v1 rfl rfl) h1
  clear hA0 hval0
  simp only [List.append_nil] at hW'
  refine (walk a0 a1 w0 w1 W).mono fun e W' ⟨he, hg⟩ => ?_
  subst he
  exact ⟨_, rfl, _, _, _, [], [], [], hW', (trodAll_cons_mk (shut_bool Try.underlying4 _) trodAll_mk0), (trodAll_cons_mk (shut_int Try.underlying3 w0) (trodAll_cons_mk (shut_int Try.underlying3 w1) trodAll_mk0)), rfl, hg.frame _, fun h => by cases h⟩

theorem over : Rows.semBoundsRow.holds Try.pinned (OpenSpec.ofChange Rows.semBoundsSpec) :=
  OpenClaim.holds_of_wide 6 Try.f6 rfl rfl rfl rfl rfl rfl rfl ⟨rfl, rfl, rfl, rfl, rfl⟩ rfl rfl rfl rfl rfl (by kernel_rfl) Try.func6 (by kernel_rfl)
    (of_decide_eq_true (by kernel_rfl)) (by unfold Func.isWrapper; first | (rw [if_pos (by decide +kernel)]; kernel_rfl) | (rw [if_neg (by decide +kernel)]; exact ⟨rfl, rfl⟩))
    (fun os started H enc _ => lifted os started H enc)

/-- ████ THE STATEMENT ████ -/
theorem proved : Rows.SemBoundsSaid :=
  over
#print axioms proved
end Go.Proofs.Ytpkfdlmfcmiabaa.semBounds
namespace Go.Proofs.Ytpkfdlmfcmiabaa
theorem semBounds_holds : Rows.SemBoundsSaid := semBounds.proved
end Go.Proofs.Ytpkfdlmfcmiabaa
