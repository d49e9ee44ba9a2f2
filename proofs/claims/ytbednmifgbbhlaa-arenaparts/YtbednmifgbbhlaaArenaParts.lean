/-
  PROVED: the Go function detentlaw2.ArenaParts returns true for every input, and each argument reads behind the call as it read before (Rows.ArenaPartsSaid). No condition.
-/
import Derived.Test.YtbednmifgbbhlaaRows
import Derived.Test.YtbednmifgbbhlaaConP
import Derived.WalkKit
import Derived.IntWalk
import Derived.Deep.QuietTactic
import Derived.BigQuiet
import Derived.ProofKit
import Derived.OpenShut
import Derived.ShutString
import Derived.ChangeOld
import Derived.Below
namespace Go.Proofs.Ytbednmifgbbhlaa.arenaParts
open Go.ChangeShapes Go.WideShapes Go.ChangeAt Go.RowKit
open Go.ChangeMaps (open_string shut_string)
set_option linter.unusedVariables false

theorem own : ownKnob Try.prog.godebug = none := by kernel_rfl
theorem laidOut : laidOutB Try.prog = true := by kernel_rfl

def Post (w : World) (e : Ending) (w' : World) : Prop := e = .returned (.bool true) ∧ Below w.heap.size w w'

theorem bl_drewN {B : Nat} {a w : World} (h : Below B a w) (n : Nat) : Below B a (w.drewN n) := ⟨h.os, h.tape, h.output, h.size, h.block⟩

def RelA (ps : List (List Int)) (w : World) (v i : Value) (wr : World) : Prop :=
  ∃ t : Nat, t ≤ ps.length ∧ i = .int .i64 t ∧ wr.ownsRow w.heap.size 5 1 v (joined ps t).length ((joined ps t).map (Value.int .u8)) ∧ Below w.heap.size w wr ∧ (joined ps t).length ≤ 100 * t ∧ (∀ z ∈ joined ps t, 0 ≤ z ∧ z ≤ 255)

theorem rel_step {ps : List (List Int)} {w wr w1 : World} {v v' : Value} {t p m : Nat} {A : Option Addr} (hlt : t < ps.length) (hs : Src wr p m A (part ps t).length (fun j => (part ps t).getD j 0)) (hle : (part ps t).length ≤ 100)
    (hl : (joined ps t).length ≤ 100 * t) (hb : Below w.heap.size w wr) (hz : ∀ z ∈ joined ps t, 0 ≤ z ∧ z ≤ 255) (hv : wr.ownsRow w.heap.size 5 1 v (joined ps t).length ((joined ps t).map (Value.int .u8)))
    (h1 : w1.ownsRow w.heap.size 5 1 v' ((joined ps t).length + (part ps t).length) ((joined ps t).map (Value.int .u8) ++ (part ps t).map (Value.int .u8))) (hg : wr.grownBy w1 v.ownBlock) : RelA ps w v' (.int .i64 ((t : Int) + 1)) w1 := by
  refine ⟨t + 1, by omega, by simp, by rw [joined_succ ps t hlt]; simpa using h1, hb.grown hg hb.size (fun k hk => (hv.lt k hk).1), by rw [joined_len_succ ps t hlt]; omega, ?_⟩
  rw [joined_succ ps t hlt]
  intro z hzm
  rcases List.mem_append.1 hzm with h | h
  · exact hz z h
  · obtain ⟨j, hj, rfl⟩ := List.getElem_of_mem h
    have := hs.lo (j := j) hj
    simpa [List.getD_eq_getElem?_getD, List.getElem?_eq_getElem hj] using this

set_option maxHeartbeats 3200000 in
set_option maxRecDepth 100000 in
theorem walkIn (B : Option Addr) (cap : Nat) (ps : List (List Int)) (a : Nat) (w : World) (hP : Parts w w.heap.size w.heap.size B ps) (hn : ps.length ≤ 20) (ha : a ≤ 500) :
    Calls Try.prog 4 #[.slice B ps.length cap, .int .i64 (a : Int)] w (Post w) := by
  have t1 : decide ((20 : Int) < (ps.length : Int)) = false := by simp; omega
  have t2 : decide ((a : Int) < 0) = false := by simp
  have t3 : decide ((500 : Int) < (a : Int)) = false := by simp; omega
  have HP := Lib.hid hP
  clear hP
  go_enter Try.func4, Try.ntmps4
  go_wp2_with fail
  refine (known_any _).mono ?_
  rintro e w0 ⟨rfl, hb0⟩
  have HB0 := Lib.hid hb0; clear hb0
  go_wp2_with fail
  go_loopw [5, 6] (fun v i wr => RelA ps w v i wr) (fun _ i _ => ps.length - (intOf i).toNat)
  case atStart => exact ⟨0, Nat.zero_le _, rfl, by rw [joined_zero]; exact World.ownsRow_nil _ _ _ _, HB0.out, by simp [joined_zero], by simp [joined_zero]⟩
  case round =>
    obtain ⟨t, ht, rfl, hown, hb, hl, hz⟩ := hrel
    have HO := Lib.hid hown
    have HBr := Lib.hid hb
    have HZ := Lib.hid hz
    clear hown hb hz
    by_cases hlt : t < ps.length
    · obtain ⟨b, o, rfl, hb1, hb2, hc⟩ := HP.out (by omega)
      obtain ⟨A, k, h3, h4, h5⟩ := hc t hlt
      clear hc
      have hbl := block_lt_of_cell h3
      have h3' : wr.cell? ⟨b, o + t, none⟩ = some (.slice A (part ps t).length k) := by
        rw [HBr.out.cell (p := ⟨b, o + t, none⟩) hbl]; exact h3
      have HS : Hid (Src wr wr.heap.size wr.heap.size A (part ps t).length (fun j => (part ps t).getD j 0)) :=
        (h4.only (Only.of_below (p := w.heap.size) (m := w.heap.size) HBr.out) (.inl rfl) (.inl rfl)).re (Nat.le_refl _) (Nat.le_refl _)
      clear h3 h4 hb1 hb2
      by_cases hgt : (100 : Int) < ((part ps t).length : Int)
      · go_wp2
        go_ret
        exact ⟨rfl, HBr.out⟩
      · have hgt' : decide ((100 : Int) < ((part ps t).length : Int)) = false := by simpa using hgt
        go_wp2_with (at_builtin; refine wpList_append_bytes rfl _ _ rfl w.heap.size _ (joined ps t) rfl HO.out wr.heap.size wr.heap.size A k (part ps t) rfl HS.out (by omega) HBr.out.size ?c1)
        case c1 =>
          intro v' w1 h1 hg
          have HR := Lib.hid (rel_step hlt HS.out (by omega) hl HBr.out HZ.out HO.out h1 hg)
          clear h1 hg
          go_wp2
          go_roundw
          case rel => exact HR.out
          case measure => simp [intOf]; omega
    · obtain rfl : t = ps.length := by omega
      rw [joined_all] at HO hl HZ
      obtain ⟨X, capX, rfl, hx1, hx2, hxs⟩ := own_src HO.out HZ.out
      have HX := Lib.hid hxs
      clear hxs HO HZ
      have hN : (whole ps).length ≤ 2000 := by omega
      clear hl HB0 ht hlt
      go_wp2_with fail
      refine (new_ok 2500 (by omega) wr).mono ?_
      rintro e w1 ⟨p, m, hp, hm, rfl, ha1, hb1⟩
      have hp' : w.heap.size ≤ p := Nat.le_trans HBr.out.size hp
      have hm' : w.heap.size ≤ m := Nat.le_trans HBr.out.size hm
      have HB1 := Lib.hid hb1
      clear hb1
      go_wp2_with fail
      refine (new_ok 2500 (by omega) w1).mono ?_
      rintro e w2 ⟨p2, m2, hp2, hm2, rfl, hb2, hbl2⟩
      have ha2 := ha1.below hbl2 ha1.ltp ha1.ltm
      have d1 : p2 ≠ p := by have := ha1.ltp; omega
      have d2 : p2 ≠ m := by have := ha1.ltm; omega
      have d3 : m2 ≠ p := by have := ha1.ltp; omega
      have d4 : m2 ≠ m := by have := ha1.ltm; omega
      have hp2' : wr.heap.size ≤ p2 := Nat.le_trans HB1.out.size hp2
      have hm2' : wr.heap.size ≤ m2 := Nat.le_trans HB1.out.size hm2
      have HB2 : Hid (Below wr.heap.size wr w2) := HB1.out.trans (hbl2.mono HB1.out.size)
      have HPp : Hid (Parts w2 p m B ps) := (HP.out.re hp' hm').only (Only.of_below (p := p) (m := m) (HBr.out.trans (HB2.out.mono HBr.out.size))) (.inl rfl) (.inr (.inl rfl))
      clear HB1 hbl2 ha1 hp2 hm2
      go_wp2_with fail
      refine (write_ok p m 2500 a 0 _ B cap ps w2 ha2 HPp.out (by omega) (by omega) (by omega) (by omega) (by omega)).mono ?_
      rintro e w3 ⟨rfl, ha3, ho3⟩
      have hb3 := hb2.only ho3 d1 d2 d3 d4
      have HB3 : Hid (Below wr.heap.size wr w3) := HB2.out.trans (ho3.below HB2.out.size hp hm)
      have HX3 : Hid (Src w3 p2 m2 X (whole ps).length (bytesOf ps)) := (HX.out p2 m2 hp2' hm2').only (Only.of_below (p := p2) (m := m2) HB3.out) (.inl rfl) (.inr (.inl rfl))
      clear HB2 ha2 hb2 ho3 HPp
      go_wp2_with fail
      refine (write1_ok (kk := capX) (q := bytesOf ps) (a := a) hb3 HX3.out (by omega) (by omega) (by omega) (by omega) _ rfl).mono ?_
      rintro e w4 ⟨rfl, hb4, ho4⟩
      have ha4 := (ha3.alloc (.cells #[.slice X (whole ps).length capX] 28)).only ho4 (Ne.symm d1) (Ne.symm d3) (Ne.symm d2) (Ne.symm d4)
      have HB4 : Hid (Below wr.heap.size wr w4) := (HB3.out.alloc HB3.out.size _).trans (ho4.below (Nat.le_trans HB3.out.size (by simp)) hp2' hm2')
      clear HB3 HX3 ha3 hb3 ho4
      go_wp2_with (first | (go_at_call 17; with_reducible refine (cost_any p2 m2 2500 _ _ w4 hb4).mono ?_; rintro e w' ⟨rfl, rfl⟩) | (go_at_call 17; with_reducible refine (cost_any p m 2500 _ _ w4 ha4).mono ?_; rintro e w' ⟨rfl, rfl⟩))
      refine (read_ok p m 2500 0 2500 _ _ w4 ha4 (by omega) (by omega) (by omega) (by omega)).mono ?_
      rintro e w5 ⟨g1, hg1, rfl, ha5, hr5, ho5⟩
      have hr5' : Row w5 g1 2500 (upd (fun _ => 0) a (whole ps).length (bytesOf ps)) := hr5.congr fun i hi => by rw [Nat.zero_add]
      have hb5 := hb4.only ho5 d1 d1 d3 d3
      have g1p : g1 ≠ p2 := by have := hb4.ltp; omega
      have HB5 : Hid (Below wr.heap.size wr w5) := HB4.out.trans (ho5.below HB4.out.size hp hp)
      clear HB4 ha4 hb4 hr5 ho5 ha5 hg1
      go_wp2_with fail
      refine (read_ok p2 m2 2500 0 2500 _ _ w5 hb5 (by omega) (by omega) (by omega) (by omega)).mono ?_
      rintro e w6 ⟨g2, hg2, rfl, hb6, hr6, ho6⟩
      have hr6' : Row w6 g2 2500 (upd (fun _ => 0) a (whole ps).length (bytesOf ps)) := hr6.congr fun i hi => by rw [Nat.zero_add]
      have hx6 := hr5'.only ho6 g1p g1p
      have HB6 : Hid (Below wr.heap.size wr w6) := HB5.out.trans (ho6.below HB5.out.size hp2' hp2')
      have HX6 : Hid (Src w6 p2 m2 X (whole ps).length (bytesOf ps)) := (HX.out p2 m2 hp2' hm2').only (Only.of_below (p := p2) (m := m2) HB6.out) (.inl rfl) (.inr (.inl rfl))
      have hs1 := fun k => run_str (W := w6.drewN k) (cap := 2500) (hx6.drewN k).src
      have hs2 := fun k => run_str (W := w6.drewN k) (cap := 2500) (hr6'.drewN k).src
      have hs3 := fun k => run_str (W := w6.drewN k) (cap := 2500 - a) (Src.of_row (q := bytesOf ps) (hx6.drewN k) (p := g1 + 1) (m := g1 + 1) (by omega) (by omega) a (k := (whole ps).length) (by omega) (fun j hj => by rw [upd_in _ _ _ _ _ (by omega) (by omega)]; congr 1; omega))
      have hs4 := fun k => run_str (W := w6.drewN k) (p := p2) (m := m2) (A := X) (n := (whole ps).length) (f := bytesOf ps) (cap := capX) HX6.out
      clear HB5 HX6 hr5' hr6 hg2 hb5 ho6 hb6
      have hwr : IntKind.i64.wrap ((a : Int) + (whole ps).length) = (a : Int) + (whole ps).length := IntWalk.i64_in _ (by omega)
      have q1 : ((a : Int) + (whole ps).length).toNat = a + (whole ps).length := by omega
      have q2 : ¬ (2500 = a) := by omega
      have q3 : (0 : Int) ≤ (a : Int) + (whole ps).length := by omega
      have q4 : (a : Int) ≤ (a : Int) + (whole ps).length := by omega
      have q5 : (a : Int) + (whole ps).length ≤ 2500 := by omega
      have q6 : a + (whole ps).length - a = (whole ps).length := by omega
      go_wp2_with fail
      go_quiet (fail)
      go_wp2
      go_ret
      exact ⟨rfl, bl_drewN (HBr.out.trans (HB6.out.mono HBr.out.size)) _⟩

set_option maxHeartbeats 800000 in
set_option maxRecDepth 100000 in
theorem walkOut (B : Option Addr) (cap : Nat) (ps : List (List Int)) (a1 : Int) (w : World) (hn : ps.length ≤ 9223372036854775807) (h : 20 < (ps.length : Int) ∨ a1 < 0 ∨ 500 < a1) :
    Calls Try.prog 4 #[.slice B ps.length cap, .int .i64 a1] w (Post w) := by
  by_cases c1 : (20 : Int) < (ps.length : Int)
  · go_enter Try.func4, Try.ntmps4
    go_wp2_with fail
    refine (known_any _).mono ?_
    rintro e w0 ⟨rfl, hb0⟩
    go_wp2
    go_ret
    exact ⟨rfl, hb0⟩
  have t1 : decide ((20 : Int) < (ps.length : Int)) = false := by simpa using c1
  by_cases c2 : a1 < 0
  · go_enter Try.func4, Try.ntmps4
    go_wp2_with fail
    refine (known_any _).mono ?_
    rintro e w0 ⟨rfl, hb0⟩
    go_wp2
    go_ret
    exact ⟨rfl, hb0⟩
  have t2 : decide (a1 < 0) = false := by simpa using c2
  have c3 : 500 < a1 := by omega
  clear h c1 c2
  go_enter Try.func4, Try.ntmps4
  go_wp2_with fail
  refine (known_any _).mono ?_
  rintro e w0 ⟨rfl, hb0⟩
  go_wp2
  go_ret
  exact ⟨rfl, hb0⟩

theorem walk (B : Option Addr) (cap : Nat) (ps : List (List Int)) (a1 : Int) (w : World) (hP : Parts w w.heap.size w.heap.size B ps) (hn : ps.length ≤ 9223372036854775807) :
    Calls Try.prog 4 #[.slice B ps.length cap, .int .i64 a1] w fun e w' => e = .returned (.bool true) ∧ Below w.heap.size w w' := by
  by_cases h : 20 < (ps.length : Int) ∨ a1 < 0 ∨ 500 < a1
  · exact walkOut B cap ps a1 w hn h
  · obtain ⟨a, rfl⟩ : ∃ a : Nat, a1 = a := ⟨a1.toNat, by omega⟩
    exact walkIn B cap ps a w hP (by omega) (by omega)

/-! ### the row's step -/
set_option maxRecDepth 100000 in
theorem lifted (os : Os) (started : os.Started) (H : Type) (enc : TypeId × Value → H) :
    ReturnsInHanded {} Try.checked os 4 .any (Rows.arenaPartsSpec.pre6 enc Try.prog Try.f4 Rows.arenaPartsRow.domain false) (Rows.arenaPartsSpec.post enc Try.prog Try.f4 false true false false) := by
  refine returnsInHanded_of_change (C := Try.checked) own started (by kernel_rfl) Try.func4
    (ChangeSpec.witness6 (enc := enc) (C := Try.checked) false ⟨#[], #[.slice none 0 0, .int .i64 0], []⟩ 8 (by kernel_rfl) (by kernel_rfl) (by kernel_rfl) (by kernel_rfl)) ?_
  intro W base args ds gs before hval0 hW hcnd _
  have hval : ∀ (j : Nat) t v, Try.f4.params[j]? = some t → args[j]? = some v → Value.okWide Try.prog W .any base t v := hval0
  have hW' := hW
  obtain ⟨p, q, hA0, hV, rfl, hfz, hnd⟩ := hW
  have hA : DataW.TrodAll enc Try.prog W 0 (fun _ => true) true Try.f4.params.toList args.toList ds p := hA0
  rw [Try.params4] at hA hval
  obtain ⟨v0, vs0, d0, ds0, p0, q0, hargs, rfl, rfl, h0, r0⟩ := trodAll_cons hA
  obtain ⟨v1, vs1, d1, ds1, p1, q1, rfl, rfl, rfl, h1, r1⟩ := trodAll_cons r0
  obtain ⟨rfl, rfl, rfl⟩ := trodAll_nil r1
  obtain rfl : args = #[v0, v1] := by cases args; simp_all
  obtain ⟨rfl, rfl⟩ := trodVars_none hV
  obtain ⟨a0, len0, cap0, rfl⟩ := okWide_slice Try.underlying29 (hval 0 29 v0 rfl rfl)
  have k0 := h0
  have lt0 : ∀ x ∈ p0, x.block < W.heap.size := by obtain ⟨m, hm⟩ := k0; exact DataW.trod_lt m _ _ _ hm
  obtain ⟨B, k, ps, hv, hP, hl⟩ : ∃ (B : Option Addr) (k : Nat) (ps : List (List Int)), Value.slice a0 len0 cap0 = .slice B ps.length k ∧ Parts W W.heap.size W.heap.size B ps ∧ ps.length ≤ 9223372036854775807 := by
    obtain ⟨fuel, hf⟩ := h0
    obtain ⟨B, k, ps, h1, h2, h3, _⟩ := parts_open (v := .slice a0 len0 cap0) hf
    exact ⟨B, k, ps, h1, h2, h3⟩
  injection hv with e1 e2 e3
  subst e1 e2 e3
  obtain ⟨a1, rfl, rfl, rfl, w1⟩ := open_int Try.underlying3 (hval 1 3 v1 rfl rfl) h1
  clear hA0 hval0
  refine (walk a0 cap0 ps a1 W hP hl).mono fun e W' ⟨he, bel⟩ => ?_
  subst he
  exact ⟨_, rfl, _, _, _, [], _, [], hW', trodAll_mk1 (shut_bool Try.underlying4 _), (trodAll_cons_mk (Below.trod laidOut (by kernel_rfl) (of_decide_eq_true (by kernel_rfl)) k0 bel lt0) (trodAll_cons_mk (shut_int Try.underlying3 w1) trodAll_mk0)), rfl, bel.frame _, fun h => by cases h⟩

theorem over : Rows.arenaPartsRow.holds Try.pinned (OpenSpec.ofChange Rows.arenaPartsSpec) :=
  OpenClaim.holds_of_wide 4 Try.f4 rfl rfl rfl rfl rfl rfl rfl ⟨rfl, rfl, rfl, rfl, rfl⟩ rfl rfl rfl rfl rfl (by kernel_rfl) Try.func4 (by kernel_rfl)
    (of_decide_eq_true (by kernel_rfl)) (by unfold Func.isWrapper; first | (rw [if_pos (by decide +kernel)]; kernel_rfl) | (rw [if_neg (by decide +kernel)]; exact ⟨rfl, rfl⟩))
    (fun os started H enc _ => lifted os started H enc)

theorem proved : Rows.ArenaPartsSaid := over
#print axioms proved
end Go.Proofs.Ytbednmifgbbhlaa.arenaParts
namespace Go.Proofs.Ytbednmifgbbhlaa
theorem arenaParts_holds : Rows.ArenaPartsSaid := arenaParts.proved
end Go.Proofs.Ytbednmifgbbhlaa
