/-
  PROVED: the Go function detentlaw6.RingWhole returns true for every input, and each argument reads behind the call as it read before (Rows.RingWholeSaid). No condition.
-/
import Derived.Test.YtfmdkfjmfipkiaaRows
import Derived.Test.YtfmdkfjmfipkiaaConK
import Derived.WalkKit
import Derived.ProofKit
import Derived.OpenShut
import Derived.ShutString
import Derived.ChangeOld
import Derived.Below
namespace Go.Proofs.Ytfmdkfjmfipkiaa.ringWhole
open Go.ChangeShapes Go.WideShapes Go.ChangeAt Go.RowKit
open Go.ChangeMaps (open_string shut_string)
set_option linter.unusedVariables false

theorem own : ownKnob Try.prog.godebug = none := by kernel_rfl
theorem laidOut : laidOutB Try.prog = true := by kernel_rfl

/-- WHAT THE WALK IS TOLD OF A SLICE OF INTEGERS THAT CAME IN: it is nil; or it leads to a row of 'cap' cells, the numbers 'zs' (the first 'len' are its elements, the rest its spare room), each fitting its kind. -/
def IsRow (k : IntKind) (w : World) (a : Option Addr) (len cap : Nat) (zs : List Int) : Prop :=
  (a = none ∧ len = 0 ∧ cap = 0 ∧ zs = []) ∨
  ∃ x, a = some x ∧ len ≤ cap ∧ cap ≤ maxLen ∧ zs.length = cap ∧ (∀ i, i < zs.length → w.cell? (x.add i) = some (.int k (zs.getD i 0))) ∧ ∀ n ∈ zs, (Lit.int k n).wf = true

/-- bytes that came in: q 0, q 1, .. -/
def Inp (w : World) (A : Option Addr) (n : Nat) (q : Nat → Nat) : Prop :=
  0 < n → ∃ b o : Nat, A = some ⟨b, o, none⟩ ∧ b < w.heap.size ∧ ∀ j, j < n → w.cell? ⟨b, o + j, none⟩ = some (.int .u8 (q j : Int)) ∧ q j ≤ 255
theorem inp_of {w : World} {a : Option Addr} {len cap : Nat} {zs : List Int} (h : IsRow .u8 w a len cap zs) :
    len ≤ 9223372036854775807 ∧ ∃ q, Inp w a len q := by
  rcases h with ⟨_, rfl, _⟩ | ⟨x, rfl, hlc, hm, hz, hc, hwf⟩
  · exact ⟨by omega, fun _ => 0, fun h => absurd h (by omega)⟩
  · refine ⟨by unfold maxLen at hm; omega, fun j => (zs.getD j 0).toNat, fun h0 => ?_⟩
    obtain ⟨b, o, s⟩ := x
    have hc0 := hc 0 (by omega)
    have hs : s = none := by
      cases s with
      | none => rfl
      | some q => simp [Addr.add, World.cell?] at hc0; split at hc0 <;> simp at hc0
    subst hs
    have hb : b < w.heap.size := by have := block_lt_of_cell hc0; simpa [Addr.add] using this
    refine ⟨b, o, rfl, hb, fun j hj => ?_⟩
    have hj' : j < zs.length := by omega
    have := hc j hj'
    rw [add_at] at this
    have hw := hwf (zs.getD j 0) (by rw [List.getD_eq_getElem?_getD, List.getElem?_eq_getElem hj']; exact List.getElem_mem _)
    have hb8 : 0 ≤ zs.getD j 0 ∧ zs.getD j 0 ≤ 255 := by have := bounds_u8 hw; omega
    refine ⟨?_, by simp only []; omega⟩
    rw [this]
    congr 2
    show _ = (((zs.getD j 0).toNat : Nat) : Int)
    omega

theorem get_mk (p m N n : Nat) (c : Int) (q : Nat → Int) (L : List (List Int)) (w : World) (h : Rg w p m N c (mkm n q :: L)) (hN : N ≤ 65536) (hc0 : 0 ≤ c) (hc1 : c ≤ 10000000000) :
    Calls Try.prog 12 #[.pointer (some ⟨p, 0, none⟩)] w fun e w' => ∃ (g k : Nat) (c' : Int), c ≤ c' ∧ c' ≤ c + 2000 ∧ w.heap.size ≤ g ∧ n ≤ k ∧ k ≤ 9223372036854775807 ∧ e = .returned (.tuple #[.slice (some ⟨g, 0, none⟩) n k, .bool true]) ∧ Rg w' p m N c' L ∧ Row w' g n q ∧ Only p m w w' := by
  refine (get_some p m N c (mkm n q) L w h hN hc0 hc1).mono ?_
  rintro e w' ⟨g, k, c', h1, h2, h3, h4, h5, h6, h7, h8, h9⟩
  rw [mkm_len] at h4 h6 h8
  exact ⟨g, k, c', h1, h2, h3, h4, h5, h6, h7, h8.congr fun x hx => (nth_mkm n q x hx).symm, h9⟩

def bq (k i : Nat) (j : Nat) : Int := (((i + j + k) % 256 : Nat) : Int)
theorem bq_lo (k i j : Nat) : 0 ≤ bq k i j ∧ bq k i j ≤ 255 := by unfold bq; omega
theorem Row.put0 {w : World} {g n k : Nat} {f q : Nat → Int} (h : Row w g n (upd f 0 k q)) (z : Int) (hz : z = q k) (h0 : 0 ≤ q k) (h1 : q k ≤ 255) (hi : k < n) :
    Row (w.setCell ⟨g, k, none⟩ (.int .u8 z)) g n (upd f 0 (k + 1) q) := by
  subst hz
  have := h.put h0 h1 (by omega)
  rw [Nat.zero_add] at this
  exact this

def R1 (p m T : Nat) (w : World) (i : Value) (wr : World) : Prop :=
  ∃ (t : Nat) (c : Int), t ≤ T + 1 ∧ i = .int .i64 (t : Int) ∧ 0 ≤ c ∧ c ≤ 200000 * t ∧ Rg wr p m 320 c [] ∧ Below w.heap.size w wr
def R2 (p m n k : Nat) (w : World) (i : Value) (wr : World) : Prop :=
  ∃ (t : Nat) (c : Int), t ≤ n ∧ i = .int .i64 (t : Int) ∧ 0 ≤ c ∧ c ≤ 200000 * k + 4000 * t ∧ Rg wr p m 320 c [] ∧ Below w.heap.size w wr
def R3 (g n k i : Nat) (w w1 : World) (j : Value) (wr : World) : Prop :=
  ∃ t : Nat, t ≤ n ∧ j = .int .i64 (t : Int) ∧ Row wr g n (upd (fun _ => 0) 0 t (bq k i)) ∧ Only g g w1 wr ∧ Below w.heap.size w wr

set_option maxHeartbeats 3200000 in
theorem walkIn (A : Option Addr) (n cap : Nat) (q : Nat → Nat) (z : Int) (T : Nat) (w : World) (hA : Inp w A n q) (h0 : 0 < n) (hn : n ≤ 40) (hz0 : 0 ≤ z) (hz1 : z ≤ 255) (hT : z % 8 = (T : Int)) :
    Calls Try.prog 5 #[.slice A n cap, .int .u8 z] w fun e w' => e = .returned (.bool true) ∧ Below w.heap.size w w' := by
  obtain ⟨b, o, rfl, hb, hc⟩ := hA h0
  have HC := Lib.hid hc
  have hTl : T ≤ 7 := by omega
  have t1 : ((n : Int) == 0) = false := by simp; omega
  have t1' : (n == 0) = false := by simp; omega
  have t2 : decide ((40 : Int) < (n : Int)) = false := by simp; omega
  have t2' : decide (40 < n) = false := by simp; omega
  clear hA hc
  go_enter Try.func5, Try.ntmps5
  go_wp2_with fail
  refine (known_any w).mono ?_
  rintro e w0 ⟨rfl, hb0⟩
  have HB0 := Lib.hid hb0
  clear hb0
  go_wp2_with fail
  refine (gnew_ok 320 (by omega) (by omega) 320 rfl w0).mono ?_
  rintro e w1 ⟨p, m, hp, hm, rfl, ha, hb1⟩
  have hpw : w.heap.size ≤ p := Nat.le_trans HB0.out.size hp
  have hmw : w.heap.size ≤ m := Nat.le_trans HB0.out.size hm
  have HB1 := Lib.hid (HB0.out.trans (hb1.mono HB0.out.size))
  have HA := Lib.hid ha
  clear ha hb1 HB0 t1 t1' t2 t2' hp hm
  go_wp2
  go_loopw [7] (fun i wr => R1 p m T w i wr) (fun i _ => T + 1 - (intOf i).toNat)
  case atStart => exact ⟨0, 0, Nat.zero_le _, rfl, by omega, by omega, HA.out, HB1.out⟩
  case round =>
    obtain ⟨k, c, hk, rfl, hc0, hc1, hr, hw⟩ := hrel
    have HR := Lib.hid hr
    have HW := Lib.hid hw
    clear hr hw HA HB1
    by_cases hlt : k ≤ T
    · go_wp2
      clear hT
      go_loopw [8] (fun i wr => R2 p m n k w i wr) (fun i _ => n - (intOf i).toNat)
      case atStart => exact ⟨0, c, Nat.zero_le _, rfl, by omega, by omega, HR.out, HW.out⟩
      case round =>
        obtain ⟨i, c2, hi, rfl, hc20, hc21, hr, hw⟩ := hrel
        have HR2 := Lib.hid hr
        have HW2 := Lib.hid hw
        clear hr hw HR HW
        by_cases hin : i < n
        · obtain ⟨v, hv⟩ : ∃ v, q i = v := ⟨_, rfl⟩
          obtain ⟨hci, hvl⟩ := HC.out i hin
          rw [hv] at hci hvl
          have ci := (HW2.out.cell (p := ⟨b, o + i, none⟩) hb).trans hci
          have hmk := run_make_bytes v (by omega)
          clear hci hv
          go_wp2
          have HR3 := Lib.hid (HR2.out.alloc (.cells (madeCells #[.int .u8 0] v) 5))
          have HROW := Lib.hid (row_made wr v)
          have HW3 := Lib.hid (HW2.out.alloc HW2.out.size (.cells (madeCells #[.int .u8 0] v) 5))
          have gp : wr.heap.size ≠ p := by have := HR2.out.ltp; omega
          have gm : wr.heap.size ≠ m := by have := HR2.out.ltm; omega
          have gw : w.heap.size ≤ wr.heap.size := HW2.out.size
          clear HR2 HW2 ci hmk
          generalize wr.alloc (.cells (madeCells #[.int .u8 0] v) 5) = w3 at *
          generalize wr.heap.size = g at *
          go_loopw [10] (fun j wr => R3 g v k i w w3 j wr) (fun j _ => v - (intOf j).toNat)
          case atStart => exact ⟨0, Nat.zero_le _, rfl, by rw [upd_zero]; exact HROW.out, Only.refl _ _ _, HW3.out⟩
          case round =>
            obtain ⟨j, hj, rfl, hrow, ho, hw⟩ := hrel
            have HO := Lib.hid ho
            have HW4 := Lib.hid hw
            clear ho hw
            by_cases hjv : j < v
            · have hc1 := hrow.at_ (i := j) hjv
              have hc2 := hrow.frozen j
              have HROW4 := Lib.hid hrow
              clear hrow
              go_wp2
              go_roundw
              case rel => exact ⟨j + 1, by omega, by go_num, Row.put0 HROW4.out _ (by unfold bq; omega) (bq_lo k i j).1 (bq_lo k i j).2 hjv, HO.out.setCell (q := ⟨g, j, none⟩) (.inl rfl) _, HW4.out.setCell (p := ⟨g, j, none⟩) gw _⟩
              case measure => simp [intOf] <;> omega
            · obtain rfl : j = v := by omega
              have hrow5 : Row wr g j (bq k i) := hrow.congr fun x hx => by rw [upd_in _ _ _ _ _ (by omega) (by omega), Nat.sub_zero]
              have HROW5 := Lib.hid hrow5
              have HR5 := Lib.hid (HR3.out.only HO.out (Ne.symm gp) (Ne.symm gp) (Ne.symm gm) (Ne.symm gm))
              clear hrow hrow5 hjv HROW HR3 HW3 HO
              go_wp2_with fail
              refine (put_yes p m 320 j j c2 [] (bq k i) (some ⟨g, 0, none⟩) wr HR5.out (Src.of_row HROW5.out gp gm 0 (by omega) (fun x _ => by rw [Nat.zero_add])) (Nat.le_refl _) (by omega) hc20 (by omega) (by omega) (by have := occ_lo j; simp only [tot]; omega)).mono ?_
              rintro e w6 ⟨c6, h61, h62, rfl, ha6, ho6⟩
              have HA6 := Lib.hid ha6
              have HW6 := Lib.hid (HW4.out.trans (ho6.below HW4.out.size hpw hmw))
              have HROW6 := Lib.hid (HROW5.out.only ho6 gp gm)
              clear ha6 ho6 HR5 HW4 HROW5
              go_wp2_with fail
              refine (get_mk p m 320 j c6 (bq k i) [] w6 HA6.out (by omega) (by omega) (by omega)).mono ?_
              rintro e w7 ⟨g7, k7, c7, h71, h72, hg7, hk7, hk72, rfl, ha7, hr7, ho7⟩
              have HA7 := Lib.hid ha7
              have HW7 := Lib.hid (HW6.out.trans (ho7.below HW6.out.size hpw hmw))
              have hrb := HROW6.out.only ho7 gp gm
              have s1 := run_str (cap := k7) hr7.src
              have s2 := run_str (cap := j) hrb.src
              clear ha7 ho7 hr7 hrb HA6 HW6 HROW6
              go_wp2
              go_roundw
              case rel => exact ⟨i + 1, c7, by omega, by go_num, by omega, by omega, HA7.out, HW7.out⟩
              case measure => simp [intOf] <;> omega
        · obtain rfl : i = n := by omega
          clear hin
          go_wp2
          go_roundw
          case rel => exact ⟨k + 1, c2, by omega, by go_num, by omega, by omega, HR2.out, HW2.out⟩
          case measure => simp [intOf] <;> omega
    · have hlt' : decide ((k : Int) ≤ (T : Int)) = false := by simp; omega
      have hlt2 : decide (k ≤ T) = false := by simp; omega
      clear hlt
      go_wp2_with fail
      refine (glen_any HR.out).mono ?_
      rintro e w3 ⟨rfl, rfl⟩
      go_wp2_with fail
      refine (gfree_any HR.out (by omega)).mono ?_
      rintro e w3 ⟨rfl, d, rfl⟩
      go_wp2
      go_ret
      exact ⟨rfl, HW.out.os, HW.out.tape, HW.out.output, HW.out.size, HW.out.block⟩

set_option maxHeartbeats 800000 in
theorem walkOut (A : Option Addr) (n cap : Nat) (z : Int) (w : World) (hn : n ≤ 9223372036854775807) (h : n = 0 ∨ 40 < n) :
    Calls Try.prog 5 #[.slice A n cap, .int .u8 z] w fun e w' => e = .returned (.bool true) ∧ Below w.heap.size w w' := by
  rcases h with h | h
  · subst h
    go_enter Try.func5, Try.ntmps5
    go_wp2_with fail
    refine (known_any w).mono ?_
    rintro e w0 ⟨rfl, hb0⟩
    go_wp2
    go_ret
    exact ⟨rfl, hb0⟩
  · have t1 : ((n : Int) == 0) = false := by simp; omega
    have t1' : (n == 0) = false := by simp; omega
    have t2 : (40 : Int) < (n : Int) := by omega
    go_enter Try.func5, Try.ntmps5
    go_wp2_with fail
    refine (known_any w).mono ?_
    rintro e w0 ⟨rfl, hb0⟩
    go_wp2
    go_ret
    exact ⟨rfl, hb0⟩

/-! ### the walk -/
theorem walk (a0 : Option Addr) (len0 cap0 : Nat) (z0 : List Int) (a1 : Int) (w : World) (w0 : IsRow .u8 w a0 len0 cap0 z0) (w1 : (Lit.int .u8 a1).wf = true) :
    Calls Try.prog 5 #[.slice a0 len0 cap0, .int .u8 a1] w fun e w' => e = .returned (.bool true) ∧ Below w.heap.size w w' := by
  obtain ⟨hn, q, hq⟩ := inp_of w0
  by_cases h : len0 = 0 ∨ 40 < len0
  · exact walkOut a0 len0 cap0 a1 w hn h
  · have hb8 : 0 ≤ a1 ∧ a1 ≤ 255 := by have := bounds_u8 w1; omega
    exact walkIn a0 len0 cap0 q a1 (a1 % 8).toNat w hq (by omega) (by omega) hb8.1 hb8.2 (by omega)

/-! ### THE ROW's STEP: WRITTEN OUT: LEAVE IT -/
set_option maxRecDepth 100000 in
theorem lifted (os : Os) (started : os.Started) (H : Type) (enc : TypeId × Value → H) :
    ReturnsInHanded {} Try.checked os 5 .any (Rows.ringWholeSpec.pre6 enc Try.prog Try.f5 Rows.ringWholeRow.domain false) (Rows.ringWholeSpec.post enc Try.prog Try.f5 false true false false) := by
  refine returnsInHanded_of_change (C := Try.checked) own started (by kernel_rfl) Try.func5
    (ChangeSpec.witness6 (enc := enc) (C := Try.checked) false ⟨#[], #[.slice none 0 0, .int .u8 0], []⟩ 8 (by kernel_rfl) (by kernel_rfl) (by kernel_rfl) (by kernel_rfl)) ?_
  intro W base args ds gs before hval0 hW hcnd _
  have hval : ∀ (j : Nat) t v, Try.f5.params[j]? = some t → args[j]? = some v → Value.okWide Try.prog W .any base t v := hval0
  have hW' := hW
  obtain ⟨p, q, hA0, hV, rfl, hfz, hnd⟩ := hW
  have hA : DataW.TrodAll enc Try.prog W 0 (fun _ => true) true Try.f5.params.toList args.toList ds p := hA0
  rw [Try.params5] at hA hval
  obtain ⟨v0, vs0, d0, ds0, p0, q0, hargs, rfl, rfl, h0, r0⟩ := trodAll_cons hA
  obtain ⟨v1, vs1, d1, ds1, p1, q1, rfl, rfl, rfl, h1, r1⟩ := trodAll_cons r0
  obtain ⟨rfl, rfl, rfl⟩ := trodAll_nil r1
  obtain rfl : args = #[v0, v1] := by cases args; simp_all
  obtain ⟨rfl, rfl⟩ := trodVars_none hV
  obtain ⟨a0, len0, cap0, rfl⟩ := okWide_slice Try.underlying31 (hval 0 31 v0 rfl rfl)
  have k0 := h0
  have lt0 : ∀ x ∈ p0, x.block < W.heap.size := by obtain ⟨m, hm⟩ := k0; exact DataW.trod_lt m _ _ _ hm
  obtain ⟨z0, w0⟩ : ∃ zs, IsRow .u8 W a0 len0 cap0 zs := by
    obtain ⟨fuel, hf⟩ := h0
    rcases open_ints Try.underlying31 Try.underlying5 (by kernel_rfl) hf with ⟨hcs, _⟩ | ⟨x, l, c, zs, hcs, _, hl, hm, hz, _, hcell, hwz⟩
    · simp [Value.cells] at hcs
      obtain ⟨rfl, rfl, rfl⟩ := hcs
      exact ⟨[], .inl ⟨rfl, rfl, rfl, rfl⟩⟩
    · simp [Value.cells] at hcs
      obtain ⟨rfl, rfl, rfl⟩ := hcs
      exact ⟨zs, .inr ⟨_, rfl, hl, hm, by simpa using hz, hcell, hwz⟩⟩
  obtain ⟨a1, rfl, rfl, rfl, w1⟩ := open_int Try.underlying5 (hval 1 5 v1 rfl rfl) h1
  clear hA0 hval0
  refine (walk a0 len0 cap0 z0 a1 W w0 w1).mono fun e W' ⟨he, bel⟩ => ?_
  subst he
  exact ⟨_, rfl, _, _, _, [], _, [], hW', trodAll_mk1 (shut_bool Try.underlying4 _), (trodAll_cons_mk (Below.trod laidOut (by kernel_rfl) (of_decide_eq_true (by kernel_rfl)) k0 bel lt0) (trodAll_cons_mk (shut_int Try.underlying5 w1) trodAll_mk0)), rfl, bel.frame _, fun h => by cases h⟩

theorem over : Rows.ringWholeRow.holds Try.pinned (OpenSpec.ofChange Rows.ringWholeSpec) :=
  OpenClaim.holds_of_wide 5 Try.f5 rfl rfl rfl rfl rfl rfl rfl ⟨rfl, rfl, rfl, rfl, rfl⟩ rfl rfl rfl rfl rfl (by kernel_rfl) Try.func5 (by kernel_rfl)
    (of_decide_eq_true (by kernel_rfl)) (by unfold Func.isWrapper; first | (rw [if_pos (by decide +kernel)]; kernel_rfl) | (rw [if_neg (by decide +kernel)]; exact ⟨rfl, rfl⟩))
    (fun os started H enc _ => lifted os started H enc)

/-- ████ THE STATEMENT ████ -/
theorem proved : Rows.RingWholeSaid := over
#print axioms proved
end Go.Proofs.Ytfmdkfjmfipkiaa.ringWhole
namespace Go.Proofs.Ytfmdkfjmfipkiaa
theorem ringWhole_holds : Rows.RingWholeSaid := ringWhole.proved
end Go.Proofs.Ytfmdkfjmfipkiaa
