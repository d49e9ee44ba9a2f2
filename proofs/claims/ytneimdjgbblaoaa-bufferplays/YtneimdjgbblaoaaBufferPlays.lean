/-
  PROVED: the Go function detentlaw16.BufferPlays returns true for every input, and each argument reads behind the call as it read before (Rows.BufferPlaysSaid). No condition.
-/
import Derived.Test.YtneimdjgbblaoaaRows
import Derived.Test.YtneimdjgbblaoaaPlM
import Derived.WalkKit
import Derived.ProofKit
import Derived.OpenShut
import Derived.ShutString
import Derived.ChangeOld
import Derived.Below
namespace Go.Proofs.Ytneimdjgbblaoaa.bufferPlays
open Go.ChangeShapes Go.WideShapes Go.ChangeAt Go.RowKit
open Go.ChangeMaps (open_string shut_string)
set_option linter.unusedVariables false

theorem own : ownKnob Try.prog.godebug = none := by kernel_rfl
theorem laidOut : laidOutB Try.prog = true := by kernel_rfl

theorem walk (bp : Bool) (mo z : Int) (w2 : (Lit.int .i64 z).wf = true) (A : Option Addr) (n cap b o : Nat) (op tk pr : Nat → Int) (SA : Nat → Option Addr) (sn sk : Nat → Nat) (f : Nat → Nat → Int) (w : World) (hn : n ≤ 9223372036854775807)
    (hA : 0 < n → A = some ⟨b, o, none⟩ ∧ Acts w b o n op tk pr SA sn sk f) : Calls Try.prog 3 #[.bool bp, .int .i64 mo, .int .i64 z, .slice A n cap] w fun e w' => e = .returned (.bool true) ∧ Below w.heap.size w w' := by
  have hb := bounds_i64 w2
  by_cases h : ¬ n ≤ 80 ∨ (4000 < z ∧ z ≤ 65536)
  · exact walkOut bp mo z A n cap w hn h
  · have h8 : n ≤ 80 := by omega
    have hz : ¬ (4000 < z ∧ z ≤ 65536) := by omega
    by_cases hm : mo < 1 ∨ 1024 < mo
    · exact walkBad bp mo z A n cap w h8 hz (Lib.hid fun W => nnew_par bp mo z hm W) (Lib.hid fun W => rnew_par bp mo z hm W)
    · by_cases hs : z < 0 ∨ 65536 < z ∨ z % 4 ≠ 0
      · exact walkBad bp mo z A n cap w h8 hz (Lib.hid fun W => nnew_size bp mo z (by omega) hb.1 hb.2 hs W) (Lib.hid fun W => rnew_size bp mo z (by omega) hs W)
      · exact walkIn bp mo z mo.toNat z.toNat n cap b o A op tk pr SA sn sk f w hA h8 (by omega) (by omega) (by omega) (by omega) (by omega)

set_option maxRecDepth 100000 in
theorem lifted (os : Os) (started : os.Started) (H : Type) (enc : TypeId × Value → H) :
    ReturnsInHanded {} Try.checked os 3 .any (Rows.bufferPlaysSpec.pre6 enc Try.prog Try.f3 Rows.bufferPlaysRow.domain false) (Rows.bufferPlaysSpec.post enc Try.prog Try.f3 false true false false) := by
  refine returnsInHanded_of_change (C := Try.checked) own started (by kernel_rfl) Try.func3
    (ChangeSpec.witness6 (enc := enc) (C := Try.checked) false ⟨#[], #[.bool false, .int .i64 0, .int .i64 0, .slice none 0 0], []⟩ 8 (by kernel_rfl) (by kernel_rfl) (by kernel_rfl) (by kernel_rfl)) ?_
  intro W base args ds gs before hval0 hW hcnd _
  have hval : ∀ (j : Nat) t v, Try.f3.params[j]? = some t → args[j]? = some v → Value.okWide Try.prog W .any base t v := hval0
  have hW' := hW
  obtain ⟨p, q, hA0, hV, rfl, hfz, hnd⟩ := hW
  have hA : DataW.TrodAll enc Try.prog W 0 (fun _ => true) true Try.f3.params.toList args.toList ds p := hA0
  rw [Try.params3] at hA hval
  obtain ⟨v0, vs0, d0, ds0, p0, q0, hargs, rfl, rfl, h0, r0⟩ := trodAll_cons hA
  obtain ⟨v1, vs1, d1, ds1, p1, q1, rfl, rfl, rfl, h1, r1⟩ := trodAll_cons r0
  obtain ⟨v2, vs2, d2, ds2, p2, q2, rfl, rfl, rfl, h2, r2⟩ := trodAll_cons r1
  obtain ⟨v3, vs3, d3, ds3, p3, q3, rfl, rfl, rfl, h3, r3⟩ := trodAll_cons r2
  obtain ⟨rfl, rfl, rfl⟩ := trodAll_nil r3
  obtain rfl : args = #[v0, v1, v2, v3] := by cases args; simp_all
  obtain ⟨rfl, rfl⟩ := trodVars_none hV
  obtain ⟨a0, rfl, rfl, rfl⟩ := open_bool Try.underlying4 (hval 0 4 v0 rfl rfl) h0
  obtain ⟨a1, rfl, rfl, rfl, w1⟩ := open_int Try.underlying3 (hval 1 3 v1 rfl rfl) h1
  obtain ⟨a2, rfl, rfl, rfl, w2⟩ := open_int Try.underlying3 (hval 2 3 v2 rfl rfl) h2
  obtain ⟨a3, len3, cap3, rfl⟩ := okWide_slice Try.underlying22 (hval 3 22 v3 rfl rfl)
  have k3 := h3
  have lt3 : ∀ x ∈ p3, x.block < W.heap.size := by obtain ⟨m, hm⟩ := k3; exact DataW.trod_lt m _ _ _ hm
  obtain ⟨A, n, cap, b, o, op, tk, pr, SA, sn, sk, f, hv, hn, hacts⟩ : ∃ (A : Option Addr) (n cap b o : Nat) (op tk pr : Nat → Int) (SA : Nat → Option Addr) (sn sk : Nat → Nat) (f : Nat → Nat → Int),
      Value.slice a3 len3 cap3 = .slice A n cap ∧ n ≤ 9223372036854775807 ∧ (0 < n → A = some ⟨b, o, none⟩ ∧ Acts W b o n op tk pr SA sn sk f) := by
    obtain ⟨fuel, hf⟩ := h3
    exact acts_open (v := .slice a3 len3 cap3) hf
  injection hv with e1 e2 e3
  subst e1 e2 e3
  clear hA0 hval0
  refine (walk a0 a1 a2 w2 a3 len3 cap3 b o op tk pr SA sn sk f W hn hacts).mono fun e W' ⟨he, bel⟩ => ?_
  subst he
  exact ⟨_, rfl, _, _, _, [], _, [], hW', trodAll_mk1 (shut_bool Try.underlying4 _), (trodAll_cons_mk (shut_bool Try.underlying4 _) (trodAll_cons_mk (shut_int Try.underlying3 w1) (trodAll_cons_mk (shut_int Try.underlying3 w2) (trodAll_cons_mk (Below.trod laidOut (by kernel_rfl) (of_decide_eq_true (by kernel_rfl)) k3 bel lt3) trodAll_mk0)))), rfl, bel.frame _, fun h => by cases h⟩

theorem over : Rows.bufferPlaysRow.holds Try.pinned (OpenSpec.ofChange Rows.bufferPlaysSpec) :=
  OpenClaim.holds_of_wide 3 Try.f3 rfl rfl rfl rfl rfl rfl rfl ⟨rfl, rfl, rfl, rfl, rfl⟩ rfl rfl rfl rfl rfl (by kernel_rfl) Try.func3 (by kernel_rfl)
    (of_decide_eq_true (by kernel_rfl)) (by unfold Func.isWrapper; first | (rw [if_pos (by decide +kernel)]; kernel_rfl) | (rw [if_neg (by decide +kernel)]; exact ⟨rfl, rfl⟩))
    (fun os started H enc _ => lifted os started H enc)

theorem proved : Rows.BufferPlaysSaid := over
#print axioms proved
end Go.Proofs.Ytneimdjgbblaoaa.bufferPlays
namespace Go.Proofs.Ytneimdjgbblaoaa
theorem bufferPlays_holds : Rows.BufferPlaysSaid := bufferPlays.proved
end Go.Proofs.Ytneimdjgbblaoaa
