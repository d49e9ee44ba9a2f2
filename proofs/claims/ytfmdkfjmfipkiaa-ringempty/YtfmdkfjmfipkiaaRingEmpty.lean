/-
  PROVED: the Go function detentlaw6.RingEmpty returns true for every input, and each argument reads behind the call as it read before (Rows.RingEmptySaid). No condition.
-/
import Derived.Test.YtfmdkfjmfipkiaaRows
import Derived.Test.YtfmdkfjmfipkiaaConK
import Derived.WalkKit
import Derived.ProofKit
import Derived.OpenShut
import Derived.ShutString
import Derived.ChangeOld
import Derived.Below
namespace Go.Proofs.Ytfmdkfjmfipkiaa.ringEmpty
open Go.ChangeShapes Go.WideShapes Go.ChangeAt Go.RowKit
open Go.ChangeMaps (open_string shut_string)
set_option linter.unusedVariables false      -- a walk need not use every 'w<i>' (that an integer argument fits its kind)

theorem own : ownKnob Try.prog.godebug = none := by kernel_rfl

theorem tot_rep (i : Nat) : tot (List.replicate i ([] : List Int)) = 4 * i := by
  induction i with
  | zero => rfl
  | succ i ih => rw [List.replicate_succ]; simp only [tot, ih, List.length_nil, occ]; omega
theorem put_empty (p m n i : Nat) (c : Int) (w : World) (h : Rg w p m (4 * n) c (List.replicate i [])) (hn : n ≤ 100) (hi : i < n) (hc0 : 0 ≤ c) (hc1 : c ≤ 10000000000) :
    Calls Try.prog 10 #[.pointer (some ⟨p, 0, none⟩), .slice none 0 0] w (PutYes p m (4 * n) c (List.replicate (i + 1) []) w) := by
  have := put_yes p m (4 * n) 0 0 c _ (fun _ => 0) none w h (fun h0 => absurd h0 (by omega)) (Nat.le_refl _) (by omega) hc0 hc1 (by omega) (by rw [tot_rep]; unfold occ; omega)
  rw [List.replicate_succ']; exact this
theorem put_over (p m n : Nat) (c : Int) (w : World) (h : Rg w p m (4 * n) c (List.replicate n [])) (hn : n ≤ 100) (hc0 : 0 ≤ c) (hc1 : c ≤ 10000000000) :
    Calls Try.prog 10 #[.pointer (some ⟨p, 0, none⟩), .slice none 0 0] w (PutNo p m (4 * n) c (List.replicate n []) w) :=
  put_no p m (4 * n) 0 0 c _ (fun _ => 0) none w h (fun h0 => absurd h0 (by omega)) (Nat.le_refl _) (by omega) hc0 hc1 (.inr (by rw [tot_rep]; unfold occ; omega))
theorem len_rep {p m N n : Nat} {c : Int} {w : World} (h : Rg w p m N c (List.replicate n [])) : Calls Try.prog 15 #[.pointer (some ⟨p, 0, none⟩)] w fun e w' => e = .returned (.int .i64 (n : Int)) ∧ w = w' := by
  have := glen_any h; rw [List.length_replicate] at this; exact this
theorem free_rep {p m n : Nat} {c : Int} {w : World} (h : Rg w p m (4 * n) c (List.replicate n [])) (hn : n ≤ 100) : Calls Try.prog 16 #[.pointer (some ⟨p, 0, none⟩)] w fun e w' => e = .returned (.int .i64 0) ∧ ∃ d, w' = w.drewN d := by
  have := gfree_any h (by omega); rw [tot_rep, Int.sub_self] at this; exact this
theorem get_rep {p m N n : Nat} {c : Int} {w : World} (h : Rg w p m N c (List.replicate (n + 1) [])) (hN : N ≤ 65536) (hc0 : 0 ≤ c) (hc1 : c ≤ 10000000000) :
    Calls Try.prog 12 #[.pointer (some ⟨p, 0, none⟩)] w fun e w' => ∃ (g k : Nat) (c' : Int), c ≤ c' ∧ c' ≤ c + 2000 ∧ e = .returned (.tuple #[.slice (some ⟨g, 0, none⟩) 0 k, .bool true]) ∧ Rg w' p m N c' (List.replicate n []) ∧ Only p m w w' := by
  rw [List.replicate_succ] at h
  refine (get_some p m N c [] (List.replicate n []) w h hN hc0 hc1).mono ?_
  rintro e w' ⟨g, k, c', h1, h2, _, _, _, rfl, h3, _, h4⟩
  exact ⟨g, k, c', h1, h2, rfl, h3, h4⟩
def R1 (p m n : Nat) (w : World) (i : Value) (wr : World) : Prop :=
  ∃ (t : Nat) (c : Int), t ≤ n ∧ i = .int .i64 (t : Int) ∧ 0 ≤ c ∧ c ≤ 2000 * t ∧ Rg wr p m (4 * n) c (List.replicate t []) ∧ Below w.heap.size w wr
def R2 (p m n : Nat) (w : World) (i : Value) (wr : World) : Prop :=
  ∃ (t : Nat) (c : Int), t ≤ n ∧ i = .int .i64 (t : Int) ∧ 0 ≤ c ∧ c ≤ 300000 + 2000 * t ∧ Rg wr p m (4 * n) c (List.replicate (n - t) []) ∧ Below w.heap.size w wr

set_option maxHeartbeats 1600000 in
theorem walkIn (n : Nat) (hn : n ≤ 100) (w : World) : Calls Try.prog 6 #[.int .i64 (n : Int)] w fun e w' => e = .returned (.bool true) ∧ Below w.heap.size w w' := by
  have t1 : decide ((100 : Int) < (n : Int)) = false := by simp; omega
  have t2 : decide (100 < n) = false := by simp; omega
  go_enter Try.func6, Try.ntmps6
  go_wp2_with fail
  refine (known_any w).mono ?_
  rintro e w0 ⟨rfl, hb0⟩
  have HB0 := Lib.hid hb0
  clear hb0
  go_wp2_with fail
  refine (gnew_ok (4 * n) (by omega) (by omega) _ (by omega) w0).mono ?_
  rintro e w1 ⟨p, m, hp, hm, rfl, ha, hb⟩
  have hpw : w.heap.size ≤ p := Nat.le_trans HB0.out.size hp
  have hmw : w.heap.size ≤ m := Nat.le_trans HB0.out.size hm
  have HB1 := Lib.hid (HB0.out.trans (hb.mono HB0.out.size))
  have HA := Lib.hid ha
  clear ha hb HB0 t1 t2 hp hm
  go_wp2
  go_loopw [5] (fun i wr => R1 p m n w i wr) (fun i _ => n - (intOf i).toNat)
  case atStart => exact ⟨0, 0, Nat.zero_le _, rfl, by omega, by omega, HA.out, HB1.out⟩
  case round =>
    obtain ⟨t, c, ht, rfl, hc0, hc1, hr, hw⟩ := hrel
    have HR := Lib.hid hr
    have HW := Lib.hid hw
    clear hr hw
    by_cases hlt : t < n
    · go_wp2_with fail
      refine (put_empty p m n t c wr HR.out hn hlt hc0 (by omega)).mono ?_
      rintro e w2 ⟨c2, h1, h2, rfl, ha2, ho2⟩
      have HA2 := Lib.hid ha2
      have HW2 := Lib.hid (HW.out.trans (ho2.below HW.out.size hpw hmw))
      clear ha2 ho2
      go_wp2
      go_roundw
      case rel => exact ⟨t + 1, c2, by omega, by go_num, by omega, by omega, HA2.out, HW2.out⟩
      case measure => simp [intOf]; omega
    · obtain rfl : t = n := by omega
      clear hlt
      go_wp2_with fail
      refine (put_over p m t c wr HR.out hn hc0 (by omega)).mono ?_
      rintro e w2 ⟨c2, h1, h2, rfl, ha2, ho2⟩
      have HA2 := Lib.hid ha2
      have HW2 := Lib.hid (HW.out.trans (ho2.below HW.out.size hpw hmw))
      clear ha2 ho2 HR HW
      go_wp2_with fail
      refine (len_rep HA2.out).mono ?_
      rintro e w3 ⟨rfl, rfl⟩
      go_wp2_with fail
      refine (free_rep HA2.out hn).mono ?_
      rintro e w3 ⟨rfl, d, rfl⟩
      have HA3 := Lib.hid (HA2.out.drewN d)
      have HW3 : Hid (Below w.heap.size w (w2.drewN d)) := ⟨HW2.out.os, HW2.out.tape, HW2.out.output, HW2.out.size, HW2.out.block⟩
      clear HA2 HW2
      generalize w2.drewN d = w3 at *
      go_wp2
      go_loopw [6] (fun i wr => R2 p m t w i wr) (fun i _ => t - (intOf i).toNat)
      case atStart => exact ⟨0, c2, Nat.zero_le _, rfl, by omega, by omega, HA3.out, HW3.out⟩
      case round =>
        obtain ⟨s, c3, hs, rfl, hc30, hc31, hr, hw⟩ := hrel
        have HW4 := Lib.hid hw
        clear hw HA3 HW3
        by_cases hlt : s < t
        · obtain ⟨u, hu⟩ : ∃ u, t - s = u + 1 := ⟨t - s - 1, by omega⟩
          rw [hu] at hr
          have HR := Lib.hid hr
          have HU := Lib.hid hu
          clear hr hu
          go_wp2_with fail
          refine (get_rep HR.out (by omega) hc30 (by omega)).mono ?_
          rintro e w5 ⟨g, k, c5, h51, h52, rfl, ha5, ho5⟩
          have HA5 := Lib.hid ha5
          have HW5 := Lib.hid (HW4.out.trans (ho5.below HW4.out.size hpw hmw))
          clear ha5 ho5 HR
          go_wp2
          go_roundw
          case rel =>
            have := HU.out
            have e : u = t - (s + 1) := by omega
            subst e
            exact ⟨s + 1, c5, by omega, by go_num, by omega, by omega, HA5.out, HW5.out⟩
          case measure => simp [intOf]; omega
        · obtain rfl : s = t := by omega
          rw [Nat.sub_self] at hr
          have HR := Lib.hid hr
          clear hr hlt
          go_wp2_with fail
          refine (get_nil p m _ _ wr HR.out).mono ?_
          rintro e w5 ⟨rfl, rfl⟩
          go_wp2
          go_ret
          exact ⟨rfl, HW4.out⟩

set_option maxHeartbeats 800000 in
theorem walkOut (z : Int) (h : z < 0 ∨ 100 < z) (w : World) : Calls Try.prog 6 #[.int .i64 z] w fun e w' => e = .returned (.bool true) ∧ Below w.heap.size w w' := by
  by_cases h1 : z < 0
  · clear h
    go_enter Try.func6, Try.ntmps6
    go_wp2_with fail
    refine (known_any w).mono ?_
    rintro e w0 ⟨rfl, hb0⟩
    go_wp2
    go_ret
    exact ⟨rfl, hb0⟩
  · have h2 : 100 < z := by omega
    have h3 : decide (z < 0) = false := by simpa using h1
    clear h
    go_enter Try.func6, Try.ntmps6
    go_wp2_with fail
    refine (known_any w).mono ?_
    rintro e w0 ⟨rfl, hb0⟩
    go_wp2
    go_ret
    exact ⟨rfl, hb0⟩

/-! ### the walk -/
theorem walk (a0 : Int) (w0 : (Lit.int .i64 a0).wf = true) (w : World) :
    Calls Try.prog 6 #[.int .i64 a0] w fun e w' => e = .returned (.bool true) ∧ Below w.heap.size w w' := by
  by_cases h : a0 < 0 ∨ 100 < a0
  · exact walkOut a0 h w
  · obtain ⟨n, rfl⟩ : ∃ n : Nat, a0 = n := ⟨a0.toNat, by omega⟩
    exact walkIn n (by omega) w

/-! ### THE ROW's STEP: WRITTEN OUT: LEAVE IT -/
set_option maxRecDepth 100000 in
theorem lifted (os : Os) (started : os.Started) (H : Type) (enc : TypeId × Value → H) :
    ReturnsInHanded {} Try.checked os 6 .any (Rows.ringEmptySpec.pre6 enc Try.prog Try.f6 Rows.ringEmptyRow.domain false) (Rows.ringEmptySpec.post enc Try.prog Try.f6 false true false false) := by
  refine returnsInHanded_of_change (C := Try.checked) own started (by kernel_rfl) Try.func6
    (ChangeSpec.witness6 (enc := enc) (C := Try.checked) false ⟨#[], #[.int .i64 0], []⟩ 8 (by kernel_rfl) (by kernel_rfl) (by kernel_rfl) (by kernel_rfl)) ?_
  intro W base args ds gs before hval0 hW hcnd _
  have hval : ∀ (j : Nat) t v, Try.f6.params[j]? = some t → args[j]? = some v → Value.okWide Try.prog W .any base t v := hval0
  have hW' := hW
  obtain ⟨p, q, hA0, hV, rfl, hfz, hnd⟩ := hW
  have hA : DataW.TrodAll enc Try.prog W 0 (fun _ => true) true Try.f6.params.toList args.toList ds p := hA0
  rw [Try.params6] at hA hval
  obtain ⟨v0, vs0, d0, ds0, p0, q0, hargs, rfl, rfl, h0, r0⟩ := trodAll_cons hA
  obtain ⟨rfl, rfl, rfl⟩ := trodAll_nil r0
  obtain rfl : args = #[v0] := by cases args; simp_all
  obtain ⟨rfl, rfl⟩ := trodVars_none hV
  obtain ⟨a0, rfl, rfl, rfl, w0⟩ := open_int Try.underlying3 (hval 0 3 v0 rfl rfl) h0
  clear hA0 hval0
  simp only [List.append_nil] at hW'
  refine (walk a0 w0 W).mono fun e W' ⟨he, hg⟩ => ?_
  subst he
  exact ⟨_, rfl, _, _, _, [], [], [], hW', (trodAll_cons_mk (shut_bool Try.underlying4 _) trodAll_mk0), (trodAll_cons_mk (shut_int Try.underlying3 w0) trodAll_mk0), rfl, hg.frame _, fun h => by cases h⟩

theorem over : Rows.ringEmptyRow.holds Try.pinned (OpenSpec.ofChange Rows.ringEmptySpec) :=
  OpenClaim.holds_of_wide 6 Try.f6 rfl rfl rfl rfl rfl rfl rfl ⟨rfl, rfl, rfl, rfl, rfl⟩ rfl rfl rfl rfl rfl (by kernel_rfl) Try.func6 (by kernel_rfl)
    (of_decide_eq_true (by kernel_rfl)) (by unfold Func.isWrapper; first | (rw [if_pos (by decide +kernel)]; kernel_rfl) | (rw [if_neg (by decide +kernel)]; exact ⟨rfl, rfl⟩))
    (fun os started H enc _ => lifted os started H enc)

/-- ████ THE STATEMENT ████ -/
theorem proved : Rows.RingEmptySaid :=
  over
#print axioms proved
end Go.Proofs.Ytfmdkfjmfipkiaa.ringEmpty
namespace Go.Proofs.Ytfmdkfjmfipkiaa
theorem ringEmpty_holds : Rows.RingEmptySaid := ringEmpty.proved
end Go.Proofs.Ytfmdkfjmfipkiaa
