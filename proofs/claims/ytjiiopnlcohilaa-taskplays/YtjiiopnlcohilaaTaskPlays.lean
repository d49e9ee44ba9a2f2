/-
  PROVED: the Go function detentlaw10.TaskPlays returns true for every input, and each argument reads behind the call as it read before (Rows.TaskPlaysSaid). No condition.
-/
import Derived.Test.YtjiiopnlcohilaaRows
import Derived.Test.YtjiiopnlcohilaaConG
import Derived.WalkKit
import Derived.ProofKit
import Derived.OpenShut
import Derived.ShutString
import Derived.ChangeOld
import Derived.Below
namespace Go.Proofs.Ytjiiopnlcohilaa.taskPlays
open Go.ChangeShapes Go.WideShapes Go.ChangeAt Go.RowKit
open Go.ChangeMaps (open_string shut_string)
set_option linter.unusedVariables false

theorem own : ownKnob Try.prog.godebug = none := by kernel_rfl
theorem laidOut : laidOutB Try.prog = true := by kernel_rfl

/-- WHAT THE WALK IS TOLD OF A SLICE OF INTEGERS THAT CAME IN: it is nil; or it leads to a row of 'cap' cells, the numbers 'zs' (the first 'len' are its elements, the rest its spare room), each fitting its kind. -/
def IsRow (k : IntKind) (w : World) (a : Option Addr) (len cap : Nat) (zs : List Int) : Prop :=
  (a = none ∧ len = 0 ∧ cap = 0 ∧ zs = []) ∨
  ∃ x, a = some x ∧ len ≤ cap ∧ cap ≤ maxLen ∧ zs.length = cap ∧ (∀ i, i < zs.length → w.cell? (x.add i) = some (.int k (zs.getD i 0))) ∧ ∀ n ∈ zs, (Lit.int k n).wf = true

theorem walkOut (A : Option Addr) (n cap : Nat) (w : World) (h : 200 < n) :
    Calls Try.prog 3 #[.slice A n cap] w fun e w' => e = .returned (.bool true) ∧ Below w.heap.size w w' := by
  have t2 : decide ((200 : Int) < (n : Int)) = true := by simp; omega
  go_enter Try.func3, Try.ntmps3
  go_wp2_with fail
  refine (known_any w).mono ?_
  rintro e w1 ⟨rfl, hb⟩
  go_wp2
  go_ret
  exact ⟨rfl, hb⟩

/-- the program's task in p, the document's in q: the same; both behind what was there in w -/
structure Bo (w wr : World) (p q : Nat) (s : St) : Prop where
  pr : Pr wr p q s
  be : Below w.heap.size w wr
  hp : w.heap.size ≤ p
  hq : w.heap.size ≤ q
  gd : Good s
theorem pr_ne {w : World} {p q : Nat} {s : St} (h : Pr w p q s) : p ≠ q := by
  rintro rfl
  have h1 := h.1
  unfold Tk at h1
  rw [h.2] at h1
  injection h1 with h1
  injection h1 with _ h2
  cases h2

set_option maxRecDepth 100000 in
set_option maxHeartbeats 3200000 in
theorem walkIn (A : Option Addr) (n cap : Nat) (L : List Int) (w : World) (hL : L.length = n) (hA : Src w A L) (hn : n ≤ 200) :
    Calls Try.prog 3 #[.slice A n cap] w fun e w' => e = .returned (.bool true) ∧ Below w.heap.size w w' := by
  have HA := Lib.hid hA
  have HL := Lib.hid hL
  have t1 : decide ((200 : Int) < (n : Int)) = false := by simp; omega
  have t1' : decide (200 < n) = false := by simp; omega
  clear hA hL
  go_enter Try.func3, Try.ntmps3
  go_wp2_with fail
  refine (known_any w).mono ?_
  rintro e w1 ⟨rfl, hb⟩
  have H0 := Lib.hid hb
  clear hb
  go_wp2_with fail
  refine (new_any w1).mono ?_
  rintro e w2 ⟨p, rfl, k2, b2, hp⟩
  have H2 := Lib.hid (show Tk w2 47 p born ∧ Below w.heap.size w w2 ∧ w.heap.size ≤ p from ⟨k2, H0.out.trans (b2.mono H0.out.size), Nat.le_trans H0.out.size hp⟩)
  clear k2 b2 hp H0
  go_wp2_with fail
  refine (rnew_any w2).mono ?_
  rintro e w3 ⟨q, rfl, k3, b3, hq⟩
  have HB : Hid (Bo w w3 p q born) := Lib.hid ⟨⟨H2.out.1.below b3, k3⟩, H2.out.2.1.trans (b3.mono H2.out.2.1.size), H2.out.2.2, Nat.le_trans H2.out.2.1.size hq, good_born⟩
  clear k3 b3 hq H2
  go_wp2
  go_loopw [5] (fun i wr => ∃ (t : Nat) (s : St), t ≤ n ∧ i = .int .i64 (t : Int) ∧ Hid (Bo w wr p q s)) (fun i _ => n - (intOf i).toNat)
  case atStart => exact ⟨0, born, by omega, rfl, HB.out⟩
  case round =>
    clear HB
    obtain ⟨t, s, ht, rfl, HT⟩ := hrel
    by_cases hlt : t < n
    · have i1 : (t : Int) < (n : Int) := by omega
      obtain ⟨b, o, x, rfl, hx, hc⟩ := (HA.out.below HT.out.be).at_ (j := t) (by have := HL.out; omega)
      obtain ⟨s2, u, v, hst⟩ : ∃ a b c, step x s = (a, b, c) := ⟨_, _, _, rfl⟩
      have HC := Lib.hid (do_any wr p s HT.out.pr.1 HT.out.gd x s2 u v hst)
      have HST := Lib.hid hst
      clear hst
      go_wp2_with fail
      refine HC.out.mono ?_
      rintro e w4 ⟨rfl, k4, o4⟩
      have b4 : Below w.heap.size wr w4 := o4.below HT.out.be.size HT.out.hp
      have hc4 : w4.cell? ⟨b, o + t, none⟩ = some (.int .i64 x) := by
        obtain ⟨b', o', x', e1, e2, e3⟩ := (HA.out.below (HT.out.be.trans b4)).at_ (j := t) (by have := HL.out; omega)
        injection e1 with e1
        injection e1 with e4 e5
        subst e4 e5
        rw [hx] at e2
        injection e2 with e2
        rw [e2]; exact e3
      have H4 := Lib.hid (show Tk w4 47 p s2 ∧ Tk w4 56 q s ∧ Below w.heap.size w w4 from ⟨k4, HT.out.pr.2.only o4 (pr_ne HT.out.pr).symm, HT.out.be.trans b4⟩)
      have HD := Lib.hid (want_any w4 q s H4.out.2.1 HT.out.gd x s2 u v HST.out)
      clear k4 o4 b4 hc hx HC
      go_wp2_with fail
      refine HD.out.mono ?_
      rintro e w5 ⟨rfl, k5, o5⟩
      have HB5 : Hid (Bo w w5 p q s2) := Lib.hid ⟨⟨H4.out.1.only o5 (pr_ne HT.out.pr), k5⟩, H4.out.2.2.trans (o5.below H4.out.2.2.size HT.out.hq), HT.out.hp, HT.out.hq, by have := good_step (a := x) HT.out.gd; rw [HST.out] at this; exact this⟩
      clear k5 o5 HD H4 hc4 HT HST
      go_wp2_with fail
      refine (same_any w5 p q s2 HB5.out.pr HB5.out.gd).mono ?_
      rintro e w6 ⟨rfl, b6⟩
      have HB6 : Hid (Bo w w6 p q s2) := Lib.hid ⟨HB5.out.pr.below b6, HB5.out.be.trans (b6.mono HB5.out.be.size), HB5.out.hp, HB5.out.hq, HB5.out.gd⟩
      clear b6 HB5
      go_wp2
      go_roundw
      case rel => exact ⟨t + 1, s2, by omega, by go_num, HB6.out⟩
      case measure => simp [intOf]; omega
    · have i1 : decide ((t : Int) < (n : Int)) = false := by simp; omega
      go_wp2
      go_ret
      exact ⟨rfl, HT.out.be⟩


/-! ### the walk -/
theorem walk (a0 : Option Addr) (len0 cap0 : Nat) (z0 : List Int) (w : World) (w0 : IsRow .i64 w a0 len0 cap0 z0) :
    Calls Try.prog 3 #[.slice a0 len0 cap0] w fun e w' => e = .returned (.bool true) ∧ Below w.heap.size w w' := by
  obtain ⟨_, L, hL, hA⟩ := src_of w0
  by_cases h1 : 200 < len0
  · exact walkOut a0 len0 cap0 w h1
  · exact walkIn a0 len0 cap0 L w hL hA (by omega)

/-! ### THE ROW's STEP: WRITTEN OUT: LEAVE IT -/
set_option maxRecDepth 100000 in
theorem lifted (os : Os) (started : os.Started) (H : Type) (enc : TypeId × Value → H) :
    ReturnsInHanded {} Try.checked os 3 .any (Rows.taskPlaysSpec.pre6 enc Try.prog Try.f3 Rows.taskPlaysRow.domain false) (Rows.taskPlaysSpec.post enc Try.prog Try.f3 false true false false) := by
  refine returnsInHanded_of_change (C := Try.checked) own started (by kernel_rfl) Try.func3
    (ChangeSpec.witness6 (enc := enc) (C := Try.checked) false ⟨#[], #[.slice none 0 0], []⟩ 8 (by kernel_rfl) (by kernel_rfl) (by kernel_rfl) (by kernel_rfl)) ?_
  intro W base args ds gs before hval0 hW hcnd _
  have hval : ∀ (j : Nat) t v, Try.f3.params[j]? = some t → args[j]? = some v → Value.okWide Try.prog W .any base t v := hval0
  have hW' := hW
  obtain ⟨p, q, hA0, hV, rfl, hfz, hnd⟩ := hW
  have hA : DataW.TrodAll enc Try.prog W 0 (fun _ => true) true Try.f3.params.toList args.toList ds p := hA0
  rw [Try.params3] at hA hval
  obtain ⟨v0, vs0, d0, ds0, p0, q0, hargs, rfl, rfl, h0, r0⟩ := trodAll_cons hA
  obtain ⟨rfl, rfl, rfl⟩ := trodAll_nil r0
  obtain rfl : args = #[v0] := by cases args; simp_all
  obtain ⟨rfl, rfl⟩ := trodVars_none hV
  obtain ⟨a0, len0, cap0, rfl⟩ := okWide_slice Try.underlying22 (hval 0 22 v0 rfl rfl)
  have k0 := h0
  have lt0 : ∀ x ∈ p0, x.block < W.heap.size := by obtain ⟨m, hm⟩ := k0; exact DataW.trod_lt m _ _ _ hm
  obtain ⟨z0, w0⟩ : ∃ zs, IsRow .i64 W a0 len0 cap0 zs := by
    obtain ⟨fuel, hf⟩ := h0
    rcases open_ints Try.underlying22 Try.underlying30 (by kernel_rfl) hf with ⟨hcs, _⟩ | ⟨x, l, c, zs, hcs, _, hl, hm, hz, _, hcell, hwz⟩
    · simp [Value.cells] at hcs
      obtain ⟨rfl, rfl, rfl⟩ := hcs
      exact ⟨[], .inl ⟨rfl, rfl, rfl, rfl⟩⟩
    · simp [Value.cells] at hcs
      obtain ⟨rfl, rfl, rfl⟩ := hcs
      exact ⟨zs, .inr ⟨_, rfl, hl, hm, by simpa using hz, hcell, hwz⟩⟩
  clear hA0 hval0
  refine (walk a0 len0 cap0 z0 W w0).mono fun e W' ⟨he, bel⟩ => ?_
  subst he
  exact ⟨_, rfl, _, _, _, [], _, [], hW', trodAll_mk1 (shut_bool Try.underlying4 _), (trodAll_cons_mk (Below.trod laidOut (by kernel_rfl) (of_decide_eq_true (by kernel_rfl)) k0 bel lt0) trodAll_mk0), rfl, bel.frame _, fun h => by cases h⟩

theorem over : Rows.taskPlaysRow.holds Try.pinned (OpenSpec.ofChange Rows.taskPlaysSpec) :=
  OpenClaim.holds_of_wide 3 Try.f3 rfl rfl rfl rfl rfl rfl rfl ⟨rfl, rfl, rfl, rfl, rfl⟩ rfl rfl rfl rfl rfl (by kernel_rfl) Try.func3 (by kernel_rfl)
    (of_decide_eq_true (by kernel_rfl)) (by unfold Func.isWrapper; first | (rw [if_pos (by decide +kernel)]; kernel_rfl) | (rw [if_neg (by decide +kernel)]; exact ⟨rfl, rfl⟩))
    (fun os started H enc _ => lifted os started H enc)

/-- ████ THE STATEMENT ████ -/
theorem proved : Rows.TaskPlaysSaid := over
#print axioms proved
end Go.Proofs.Ytjiiopnlcohilaa.taskPlays
namespace Go.Proofs.Ytjiiopnlcohilaa
theorem taskPlays_holds : Rows.TaskPlaysSaid := taskPlays.proved
end Go.Proofs.Ytjiiopnlcohilaa
