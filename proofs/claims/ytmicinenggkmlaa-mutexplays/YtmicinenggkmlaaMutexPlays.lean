/-
  PROVED: the Go function detentlaw15.MutexPlays returns true for every input, and each argument reads behind the call as it read before (Rows.MutexPlaysSaid). No condition.
-/
import Derived.Test.YtmicinenggkmlaaRows
import Derived.Test.YtmicinenggkmlaaPlM
import Derived.WalkKit
import Derived.ProofKit
import Derived.OpenShut
import Derived.ShutString
import Derived.ChangeOld
import Derived.Below
namespace Go.Proofs.Ytmicinenggkmlaa.mutexPlays
open Go.ChangeShapes Go.WideShapes Go.ChangeAt Go.RowKit
open Go.ChangeMaps (open_string shut_string)
set_option linter.unusedVariables false

theorem own : ownKnob Try.prog.godebug = none := by kernel_rfl
theorem laidOut : laidOutB Try.prog = true := by kernel_rfl

theorem walk (X : Option Addr) (k : Nat) (L : List (Int × Int)) (A : Option Addr) (n cap b o : Nat) (op id pri dat : Nat → Int) (w : World) (hn : n ≤ 9223372036854775807) (hl : L.length ≤ 9223372036854775807)
    (hs : 0 < L.length → K.Sr K.ck w X k L) (hA : 0 < n → A = some ⟨b, o, none⟩ ∧ Acts w b o n op id pri dat) : Calls Try.prog 3 #[.slice X L.length k, .slice A n cap] w fun e w' => e = .returned (.bool true) ∧ Below w.heap.size w w' := by
  by_cases h : 80 < n ∨ 20 < L.length
  · exact walkOut X k L.length A n cap w hn hl h
  · by_cases h2 : 8 < L.length ∨ badK L
    · exact walkBad X k L A n cap w hs (by omega) (by omega) h2
    · exact walkIn X k L n cap b o A op id pri dat w hs hA (by omega) (by omega) fun x hx => Classical.byContradiction fun hn => h2 (.inr ⟨x, hx, hn⟩)

set_option maxRecDepth 100000 in
theorem lifted (os : Os) (started : os.Started) (H : Type) (enc : TypeId × Value → H) :
    ReturnsInHanded {} Try.checked os 3 .any (Rows.mutexPlaysSpec.pre6 enc Try.prog Try.f3 Rows.mutexPlaysRow.domain false) (Rows.mutexPlaysSpec.post enc Try.prog Try.f3 false true false false) := by
  refine returnsInHanded_of_change (C := Try.checked) own started (by kernel_rfl) Try.func3
    (ChangeSpec.witness6 (enc := enc) (C := Try.checked) false ⟨#[], #[.slice none 0 0, .slice none 0 0], []⟩ 8 (by kernel_rfl) (by kernel_rfl) (by kernel_rfl) (by kernel_rfl)) ?_
  intro W base args ds gs before hval0 hW hcnd _
  have hval : ∀ (j : Nat) t v, Try.f3.params[j]? = some t → args[j]? = some v → Value.okWide Try.prog W .any base t v := hval0
  have hW' := hW
  obtain ⟨p, q, hA0, hV, rfl, hfz, hnd⟩ := hW
  have hA : DataW.TrodAll enc Try.prog W 0 (fun _ => true) true Try.f3.params.toList args.toList ds p := hA0
  rw [Try.params3] at hA hval
  obtain ⟨v0, vs0, d0, ds0, p0, q0, hargs, rfl, rfl, h0, r0⟩ := trodAll_cons hA
  obtain ⟨v1, vs1, d1, ds1, p1, q1, rfl, rfl, rfl, h1, r1⟩ := trodAll_cons r0
  obtain ⟨rfl, rfl, rfl⟩ := trodAll_nil r1
  obtain rfl : args = #[v0, v1] := by cases args; simp_all
  obtain ⟨rfl, rfl⟩ := trodVars_none hV
  obtain ⟨a0, len0, cap0, rfl⟩ := okWide_slice Try.underlying22 (hval 0 22 v0 rfl rfl)
  obtain ⟨a1, len1, cap1, rfl⟩ := okWide_slice Try.underlying23 (hval 1 23 v1 rfl rfl)
  have k0 := h0
  have k1 := h1
  have lt0 : ∀ x ∈ p0, x.block < W.heap.size := by obtain ⟨m, hm⟩ := k0; exact DataW.trod_lt m _ _ _ hm
  have lt1 : ∀ x ∈ p1, x.block < W.heap.size := by obtain ⟨m, hm⟩ := k1; exact DataW.trod_lt m _ _ _ hm
  obtain ⟨X, kx, L, hv0, hl0, hsr⟩ : ∃ (X : Option Addr) (k : Nat) (L : List (Int × Int)), Value.slice a0 len0 cap0 = .slice X L.length k ∧ L.length ≤ 9223372036854775807 ∧ (0 < L.length → K.Sr K.ck W X k L) := by
    obtain ⟨fuel, hf⟩ := h0
    exact kinds_open (v := .slice a0 len0 cap0) hf
  obtain ⟨A, n, cap, b, o, op, id, pri, dat, hv, hn, hacts⟩ : ∃ (A : Option Addr) (n cap b o : Nat) (op id pri dat : Nat → Int),
      Value.slice a1 len1 cap1 = .slice A n cap ∧ n ≤ 9223372036854775807 ∧ (0 < n → A = some ⟨b, o, none⟩ ∧ Acts W b o n op id pri dat) := by
    obtain ⟨fuel, hf⟩ := h1
    exact acts_open (v := .slice a1 len1 cap1) hf
  injection hv0 with e1 e2 e3
  subst e1 e2 e3
  injection hv with e1 e2 e3
  subst e1 e2 e3
  clear hA0 hval0
  refine (walk a0 cap0 L a1 len1 cap1 b o op id pri dat W hn hl0 hsr hacts).mono fun e W' ⟨he, bel⟩ => ?_
  subst he
  exact ⟨_, rfl, _, _, _, [], _, [], hW', trodAll_mk1 (shut_bool Try.underlying4 _), (trodAll_cons_mk (Below.trod laidOut (by kernel_rfl) (of_decide_eq_true (by kernel_rfl)) k0 bel lt0) (trodAll_cons_mk (Below.trod laidOut (by kernel_rfl) (of_decide_eq_true (by kernel_rfl)) k1 bel lt1) trodAll_mk0)), rfl, bel.frame _, fun h => by cases h⟩

theorem over : Rows.mutexPlaysRow.holds Try.pinned (OpenSpec.ofChange Rows.mutexPlaysSpec) :=
  OpenClaim.holds_of_wide 3 Try.f3 rfl rfl rfl rfl rfl rfl rfl ⟨rfl, rfl, rfl, rfl, rfl⟩ rfl rfl rfl rfl rfl (by kernel_rfl) Try.func3 (by kernel_rfl)
    (of_decide_eq_true (by kernel_rfl)) (by unfold Func.isWrapper; first | (rw [if_pos (by decide +kernel)]; kernel_rfl) | (rw [if_neg (by decide +kernel)]; exact ⟨rfl, rfl⟩))
    (fun os started H enc _ => lifted os started H enc)

theorem proved : Rows.MutexPlaysSaid := over
#print axioms proved
end Go.Proofs.Ytmicinenggkmlaa.mutexPlays
namespace Go.Proofs.Ytmicinenggkmlaa
theorem mutexPlays_holds : Rows.MutexPlaysSaid := mutexPlays.proved
end Go.Proofs.Ytmicinenggkmlaa
