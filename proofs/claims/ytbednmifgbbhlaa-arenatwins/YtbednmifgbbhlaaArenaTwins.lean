/-
  PROVED: the Go function detentlaw2.ArenaTwins returns true for every input, and each argument reads behind the call as it read before (Rows.ArenaTwinsSaid). No condition.
-/
import Derived.Test.YtbednmifgbbhlaaRows
import Derived.Test.YtbednmifgbbhlaaConL
import Derived.WalkKit
import Derived.ProofKit
import Derived.OpenShut
import Derived.ShutString
import Derived.ChangeOld
import Derived.Below
namespace Go.Proofs.Ytbednmifgbbhlaa.arenaTwins
open Go.ChangeShapes Go.WideShapes Go.ChangeAt Go.RowKit
open Go.ChangeMaps (open_string shut_string)
set_option linter.unusedVariables false

theorem own : ownKnob Try.prog.godebug = none := by kernel_rfl
theorem laidOut : laidOutB Try.prog = true := by kernel_rfl

/-- WHAT THE WALK IS TOLD OF A SLICE OF INTEGERS THAT CAME IN: it is nil; or it leads to a row of 'cap' cells, the numbers 'zs' (the first 'len' are its elements, the rest its spare room), each fitting its kind. -/
def IsRow (k : IntKind) (w : World) (a : Option Addr) (len cap : Nat) (zs : List Int) : Prop :=
  (a = none ∧ len = 0 ∧ cap = 0 ∧ zs = []) ∨
  ∃ x, a = some x ∧ len ≤ cap ∧ cap ≤ maxLen ∧ zs.length = cap ∧ (∀ i, i < zs.length → w.cell? (x.add i) = some (.int k (zs.getD i 0))) ∧ ∀ n ∈ zs, (Lit.int k n).wf = true

theorem src_of_row {w : World} {a : Option Addr} {len cap : Nat} {zs : List Int} (h : IsRow .u8 w a len cap zs) (p m : Nat) (hp : w.heap.size ≤ p) (hm : w.heap.size ≤ m) : Src w p m a len (fun j => zs.getD j 0) := by
  intro h0
  rcases h with ⟨_, rfl, _⟩ | ⟨x, rfl, hlc, _, hz, hc, hwf⟩
  · omega
  · obtain ⟨b, o, s⟩ := x
    have hc0 := hc 0 (by omega)
    have hs : s = none := by
      cases s with
      | none => rfl
      | some q => simp [Addr.add, World.cell?] at hc0; split at hc0 <;> simp at hc0
    subst hs
    have hb : b < w.heap.size := by have := block_lt_of_cell hc0; simpa [Addr.add] using this
    refine ⟨b, o, rfl, by omega, by omega, fun j hj => ?_⟩
    have hj' : j < zs.length := by omega
    have := hc j hj'
    rw [add_at] at this
    have hw := hwf (zs.getD j 0) (by rw [List.getD_eq_getElem?_getD, List.getElem?_eq_getElem hj']; exact List.getElem_mem _)
    have hb8 := bounds_u8 hw
    exact ⟨this, by simp only []; omega, by simp only []; omega⟩

def Post (w : World) (e : Ending) (w' : World) : Prop := e = .returned (.bool true) ∧ Below w.heap.size w w'

theorem len_le {w : World} {a : Option Addr} {len cap : Nat} {zs : List Int} (h : IsRow .u8 w a len cap zs) : len ≤ 9223372036854775807 := by
  rcases h with ⟨_, rfl, _⟩ | ⟨x, rfl, hlc, hm, _⟩
  · omega
  · unfold maxLen at hm; omega

def LoopRel (i : Value) : Prop := ∃ t : Nat, t ≤ 200 ∧ i = .int .i64 t

set_option maxHeartbeats 3200000 in
set_option maxRecDepth 100000 in
theorem walkIn (A : Option Addr) (n cap : Nat) (q : Nat → Int) (a : Nat) (c : Int) (w : World) (hq : ∀ p m, w.heap.size ≤ p → w.heap.size ≤ m → Src w p m A n q) (hn : n ≤ 100) (ha : a ≤ 100) (hc0 : 0 ≤ c) (hc1 : c ≤ 255) :
    Calls Try.prog 7 #[.slice A n cap, .int .i64 (a : Int), .int .u8 c] w (Post w) := by
  have t1 : decide ((100 : Int) < (n : Int)) = false := by simp; omega
  have t2 : decide ((a : Int) < 0) = false := by simp
  have t3 : decide ((100 : Int) < (a : Int)) = false := by simp; omega
  have HQ := Lib.hid hq
  clear hq
  go_enter Try.func7, Try.ntmps7
  go_wp2_with fail
  refine (known_any _).mono ?_
  rintro e w0 ⟨rfl, hb0⟩
  have HB0 := Lib.hid hb0; clear hb0
  go_wp2_with fail
  refine (new_ok 200 (by omega) w0).mono ?_
  rintro e w1 ⟨p, m, hp, hm, rfl, ha1, hb1⟩
  have HB1 : Hid (Below w.heap.size w w1) := HB0.out.trans (hb1.mono HB0.out.size)
  have hp' : w.heap.size ≤ p := Nat.le_trans HB0.out.size hp
  have hm' : w.heap.size ≤ m := Nat.le_trans HB0.out.size hm
  have HS1 : Hid (Src w1 p m A n q) := (HQ.out p m hp' hm').only (Only.of_below (p := p) (m := m) (HB1.out)) (.inl rfl) (.inr (.inl rfl))
  clear HB0 hb1 hp hm
  go_wp2_with fail
  refine (write1_ok (kk := cap) (q := q) (a := a) ha1 HS1.out (by omega) (by omega) (by omega) (by omega) _ rfl).mono ?_
  rintro e w2 ⟨rfl, ha2, ho2⟩
  have HB2 : Hid (Below w.heap.size w w2) := (HB1.out.alloc HB1.out.size _).trans (ho2.below (Nat.le_trans HB1.out.size (by simp)) hp' hm')
  have HS2 : Hid (Src w2 p m A n q) := (HS1.out.alloc _).only ho2 (.inl rfl) (.inr (.inl rfl))
  clear HB1 HS1 ha1 ho2
  go_wp2_with fail
  refine (twin_any p m 200 _ _ w2 ha2 (by omega)).mono ?_
  rintro e w3 ⟨p2, m2, hp2, hm2, rfl, hb3, hbl3⟩
  have d1 : p2 ≠ p := by have := ha2.ltp; omega
  have d2 : p2 ≠ m := by have := ha2.ltm; omega
  have d3 : m2 ≠ p := by have := ha2.ltp; omega
  have d4 : m2 ≠ m := by have := ha2.ltm; omega
  have hp2' : w.heap.size ≤ p2 := Nat.le_trans HB2.out.size hp2
  have hm2' : w.heap.size ≤ m2 := Nat.le_trans HB2.out.size hm2
  have ha3 := ha2.below hbl3 ha2.ltp ha2.ltm
  have HB3 : Hid (Below w.heap.size w w3) := HB2.out.trans (hbl3.mono HB2.out.size)
  have HS3 : Hid (Src w3 p m A n q) := HS2.out.only (Only.of_below (p := p) (m := m) hbl3) (.inl rfl) (.inr (.inl rfl))
  clear HB2 HS2 ha2 hbl3 hp2 hm2
  go_wp2_with (first | (go_at_call 18; refine (size_any p2 m2 200 _ _ w3 hb3).mono ?_; rintro e w' ⟨rfl, rfl⟩) | (go_at_call 17; with_reducible refine (cost_any p2 m2 200 _ _ w3 hb3).mono ?_; rintro e w' ⟨rfl, rfl⟩) | (go_at_call 17; with_reducible refine (cost_any p m 200 _ _ w3 ha3).mono ?_; rintro e w' ⟨rfl, rfl⟩))
  refine (fill_ok p2 m2 200 0 200 _ c _ w3 hb3 (by omega) (by omega) (by omega) (by omega) hc0 hc1).mono ?_
  rintro e w4 ⟨rfl, hb4, ho4⟩
  have ha4 := ha3.only ho4 (Ne.symm d1) (Ne.symm d3) (Ne.symm d2) (Ne.symm d4)
  have HB4 : Hid (Below w.heap.size w w4) := HB3.out.trans (ho4.below HB3.out.size hp2' hm2')
  have HS4 : Hid (Src w4 p m A n q) := by
    intro h0
    obtain ⟨b, o, hA, h1, h2, hc⟩ := (HQ.out p m hp' hm') h0
    refine ⟨b, o, hA, h1, h2, fun j hj => ⟨?_, (hc j hj).2⟩⟩
    have hbw : b < w.heap.size := block_lt_of_cell (hc j hj).1
    rw [HB4.out.cell (p := ⟨b, o + j, none⟩) hbw]; exact (hc j hj).1
  clear HB3 HS3 ha3 hb3 ho4 HQ
  go_wp2_with fail
  refine (read_ok p m 200 a n _ _ w4 ha4 (by omega) (by omega) (by omega) (by omega)).mono ?_
  rintro e w5 ⟨g1, hg1, rfl, ha5, hr5, ho5⟩
  have hr5' : Row w5 g1 n q := hr5.congr fun i hi => by rw [upd_in _ _ _ _ _ (by omega) (by omega)]; congr 1; omega
  have hb5 := hb4.only ho5 d1 d1 d3 d3
  have HB5 : Hid (Below w.heap.size w w5) := HB4.out.trans (ho5.below HB4.out.size hp' hp')
  have HS5 : Hid (Src w5 p m A n q) := HS4.out.only ho5 (.inl rfl) (.inl rfl)
  have g1p : g1 ≠ p2 := by have := hb4.ltp; omega
  clear HB4 HS4 ha4 hr5 hg1 ho5 ha5 hb4
  go_wp2_with fail
  refine (read_ok p2 m2 200 0 200 _ _ w5 hb5 (by omega) (by omega) (by omega) (by omega)).mono ?_
  rintro e w6 ⟨g2, hg2, rfl, hb6, hr6, ho6⟩
  have hr6' : Row w6 g2 200 (fun _ => c) := hr6.congr fun i hi => by rw [upd_in _ _ _ _ _ (by omega) (by omega)]
  have hx6 := hr5'.only ho6 g1p g1p
  have HB6 : Hid (Below w.heap.size w w6) := HB5.out.trans (ho6.below HB5.out.size hp2' hp2')
  have HS6 : Hid (Src w6 p m A n q) := by
    intro h0
    obtain ⟨b, o, hA, h1, h2, hc⟩ := HS5.out h0
    refine ⟨b, o, hA, h1, h2, fun j hj => ⟨?_, (hc j hj).2⟩⟩
    have hbw := block_lt_of_cell (hc j hj).1
    by_cases hbp : b = p2
    · exfalso
      obtain ⟨k, hcell, _⟩ := hb5.cells
      subst hbp
      have hh := hb5.1
      obtain ⟨k2, hk2, _⟩ := hh
      have h3 := (hc j hj).1
      rw [cell_of_row _ _ _ _ _ _ hk2] at h3
      have : o + j < 2 := by have := (Array.getElem?_eq_some_iff.1 h3).1; simpa using this
      have h4 : o + j = 0 ∨ o + j = 1 := by omega
      rcases h4 with h4 | h4 <;> rw [h4] at h3 <;> simp at h3
    · rw [ho6.cell (q := ⟨b, o + j, none⟩) hbw hbp hbp]; exact (hc j hj).1
  clear HB5 HS5 hr5' hr6 hg2 hb5 ho6 hb6
  have hs1 := run_str (cap := n) hx6.src
  have hs2 := run_str (cap := cap) HS6.out
  go_wp2
  go_loop [14] (fun i => LoopRel i) (fun i => 200 - (intOf i).toNat)
  case atStart => exact ⟨0, Nat.zero_le _, rfl⟩
  case round =>
    obtain ⟨t, ht, rfl⟩ := hrel
    by_cases hlt : t < 200
    · have hcell := hr6'.at_ hlt
      go_wp2
      go_round
      case rel => exact ⟨t + 1, by omega, by go_num⟩
      case measure => simp [intOf]; omega
    · go_wp2
      go_ret
      exact ⟨rfl, HB6.out⟩

set_option maxHeartbeats 800000 in
set_option maxRecDepth 100000 in
theorem walkOut (A : Option Addr) (n cap : Nat) (a c : Int) (hn : n ≤ 9223372036854775807) (h : 100 < (n : Int) ∨ a < 0 ∨ 100 < a) (w : World) : Calls Try.prog 7 #[.slice A n cap, .int .i64 a, .int .u8 c] w (Post w) := by
  by_cases c1 : (100 : Int) < (n : Int)
  · go_enter Try.func7, Try.ntmps7
    go_wp2_with fail
    refine (known_any _).mono ?_
    rintro e w0 ⟨rfl, hb0⟩
    go_wp2
    go_ret
    exact ⟨rfl, hb0⟩
  have t1 : decide ((100 : Int) < (n : Int)) = false := by simpa using c1
  by_cases c2 : a < 0
  · go_enter Try.func7, Try.ntmps7
    go_wp2_with fail
    refine (known_any _).mono ?_
    rintro e w0 ⟨rfl, hb0⟩
    go_wp2
    go_ret
    exact ⟨rfl, hb0⟩
  have t2 : decide (a < 0) = false := by simpa using c2
  have c3 : 100 < a := by omega
  clear h c1 c2
  go_enter Try.func7, Try.ntmps7
  go_wp2_with fail
  refine (known_any _).mono ?_
  rintro e w0 ⟨rfl, hb0⟩
  go_wp2
  go_ret
  exact ⟨rfl, hb0⟩

/-! ### the walk -/
theorem walk (a0 : Option Addr) (len0 cap0 : Nat) (z0 : List Int) (a1 : Int) (a2 : Int) (w : World) (w0 : IsRow .u8 w a0 len0 cap0 z0) (w1 : (Lit.int .i64 a1).wf = true) (w2 : (Lit.int .u8 a2).wf = true) :
    Calls Try.prog 7 #[.slice a0 len0 cap0, .int .i64 a1, .int .u8 a2] w fun e w' => e = .returned (.bool true) ∧ Below w.heap.size w w' := by
  have b2 := bounds_u8 w2
  by_cases h : 100 < (len0 : Int) ∨ a1 < 0 ∨ 100 < a1
  · exact walkOut a0 len0 cap0 a1 a2 (len_le w0) h w
  · obtain ⟨a, rfl⟩ : ∃ a : Nat, a1 = a := ⟨a1.toNat, by omega⟩
    exact walkIn a0 len0 cap0 (fun j => z0.getD j 0) a a2 w (fun p m hp hm => src_of_row w0 p m hp hm) (by omega) (by omega) (by omega) (by omega)

/-! ### THE ROW's STEP: WRITTEN OUT: LEAVE IT -/
set_option maxRecDepth 100000 in
theorem lifted (os : Os) (started : os.Started) (H : Type) (enc : TypeId × Value → H) :
    ReturnsInHanded {} Try.checked os 7 .any (Rows.arenaTwinsSpec.pre6 enc Try.prog Try.f7 Rows.arenaTwinsRow.domain false) (Rows.arenaTwinsSpec.post enc Try.prog Try.f7 false true false false) := by
  refine returnsInHanded_of_change (C := Try.checked) own started (by kernel_rfl) Try.func7
    (ChangeSpec.witness6 (enc := enc) (C := Try.checked) false ⟨#[], #[.slice none 0 0, .int .i64 0, .int .u8 0], []⟩ 8 (by kernel_rfl) (by kernel_rfl) (by kernel_rfl) (by kernel_rfl)) ?_
  intro W base args ds gs before hval0 hW hcnd _
  have hval : ∀ (j : Nat) t v, Try.f7.params[j]? = some t → args[j]? = some v → Value.okWide Try.prog W .any base t v := hval0
  have hW' := hW
  obtain ⟨p, q, hA0, hV, rfl, hfz, hnd⟩ := hW
  have hA : DataW.TrodAll enc Try.prog W 0 (fun _ => true) true Try.f7.params.toList args.toList ds p := hA0
  rw [Try.params7] at hA hval
  obtain ⟨v0, vs0, d0, ds0, p0, q0, hargs, rfl, rfl, h0, r0⟩ := trodAll_cons hA
  obtain ⟨v1, vs1, d1, ds1, p1, q1, rfl, rfl, rfl, h1, r1⟩ := trodAll_cons r0
  obtain ⟨v2, vs2, d2, ds2, p2, q2, rfl, rfl, rfl, h2, r2⟩ := trodAll_cons r1
  obtain ⟨rfl, rfl, rfl⟩ := trodAll_nil r2
  obtain rfl : args = #[v0, v1, v2] := by cases args; simp_all
  obtain ⟨rfl, rfl⟩ := trodVars_none hV
  obtain ⟨a0, len0, cap0, rfl⟩ := okWide_slice Try.underlying28 (hval 0 28 v0 rfl rfl)
  have k0 := h0
  have lt0 : ∀ x ∈ p0, x.block < W.heap.size := by obtain ⟨m, hm⟩ := k0; exact DataW.trod_lt m _ _ _ hm
  obtain ⟨z0, w0⟩ : ∃ zs, IsRow .u8 W a0 len0 cap0 zs := by
    obtain ⟨fuel, hf⟩ := h0
    rcases open_ints Try.underlying28 Try.underlying5 (by kernel_rfl) hf with ⟨hcs, _⟩ | ⟨x, l, c, zs, hcs, _, hl, hm, hz, _, hcell, hwz⟩
    · simp [Value.cells] at hcs
      obtain ⟨rfl, rfl, rfl⟩ := hcs
      exact ⟨[], .inl ⟨rfl, rfl, rfl, rfl⟩⟩
    · simp [Value.cells] at hcs
      obtain ⟨rfl, rfl, rfl⟩ := hcs
      exact ⟨zs, .inr ⟨_, rfl, hl, hm, by simpa using hz, hcell, hwz⟩⟩
  obtain ⟨a1, rfl, rfl, rfl, w1⟩ := open_int Try.underlying3 (hval 1 3 v1 rfl rfl) h1
  obtain ⟨a2, rfl, rfl, rfl, w2⟩ := open_int Try.underlying5 (hval 2 5 v2 rfl rfl) h2
  clear hA0 hval0
  refine (walk a0 len0 cap0 z0 a1 a2 W w0 w1 w2).mono fun e W' ⟨he, bel⟩ => ?_
  subst he
  exact ⟨_, rfl, _, _, _, [], _, [], hW', trodAll_mk1 (shut_bool Try.underlying4 _), (trodAll_cons_mk (Below.trod laidOut (by kernel_rfl) (of_decide_eq_true (by kernel_rfl)) k0 bel lt0) (trodAll_cons_mk (shut_int Try.underlying3 w1) (trodAll_cons_mk (shut_int Try.underlying5 w2) trodAll_mk0))), rfl, bel.frame _, fun h => by cases h⟩

theorem over : Rows.arenaTwinsRow.holds Try.pinned (OpenSpec.ofChange Rows.arenaTwinsSpec) :=
  OpenClaim.holds_of_wide 7 Try.f7 rfl rfl rfl rfl rfl rfl rfl ⟨rfl, rfl, rfl, rfl, rfl⟩ rfl rfl rfl rfl rfl (by kernel_rfl) Try.func7 (by kernel_rfl)
    (of_decide_eq_true (by kernel_rfl)) (by unfold Func.isWrapper; first | (rw [if_pos (by decide +kernel)]; kernel_rfl) | (rw [if_neg (by decide +kernel)]; exact ⟨rfl, rfl⟩))
    (fun os started H enc _ => lifted os started H enc)

/-- ████ THE STATEMENT ████ -/
theorem proved : Rows.ArenaTwinsSaid := over
#print axioms proved
end Go.Proofs.Ytbednmifgbbhlaa.arenaTwins
namespace Go.Proofs.Ytbednmifgbbhlaa
theorem arenaTwins_holds : Rows.ArenaTwinsSaid := arenaTwins.proved
end Go.Proofs.Ytbednmifgbbhlaa
