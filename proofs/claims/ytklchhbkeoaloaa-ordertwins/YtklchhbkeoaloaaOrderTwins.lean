/-
  PROVED: the Go function detentlaw4.OrderTwins returns true for every input, and each argument reads behind the call as it read before (Rows.OrderTwinsSaid). No condition.
-/
import Derived.Test.YtklchhbkeoaloaaRows
import Derived.Test.YtklchhbkeoaloaaConL
import Derived.Deep.Slices
import Derived.Deep.Fields
import Derived.WalkKit
import Derived.ProofKit
import Derived.OpenShut
import Derived.ShutString
import Derived.ChangeOld
import Derived.Below
namespace Go.Proofs.Ytklchhbkeoaloaa.orderTwins
open Go.ChangeShapes Go.WideShapes Go.ChangeAt Go.RowKit Go.Deep
open Go.ChangeMaps (open_string shut_string)
set_option linter.unusedVariables false

theorem own : ownKnob Try.prog.godebug = none := by kernel_rfl
theorem laidOut : laidOutB Try.prog = true := by kernel_rfl

/-- WHAT THE WALK IS TOLD OF A SLICE OF INTEGERS THAT CAME IN: it is nil; or it leads to a row of 'cap' cells, the numbers 'zs' (the first 'len' are its elements, the rest its spare room), each fitting its kind. -/
def IsRow (k : IntKind) (w : World) (a : Option Addr) (len cap : Nat) (zs : List Int) : Prop :=
  (a = none ∧ len = 0 ∧ cap = 0 ∧ zs = []) ∨
  ∃ x, a = some x ∧ len ≤ cap ∧ cap ≤ maxLen ∧ zs.length = cap ∧ (∀ i, i < zs.length → w.cell? (x.add i) = some (.int k (zs.getD i 0))) ∧ ∀ n ∈ zs, (Lit.int k n).wf = true

/-- bools that are read -/
def SrcB (w : World) (A : Option Addr) (n : Nat) (q : Nat → Bool) : Prop :=
  0 < n → ∃ b o : Nat, A = some ⟨b, o, none⟩ ∧ b < w.heap.size ∧ ∀ j, j < n → w.cell? ⟨b, o + j, none⟩ = some (.bool (q j))

theorem spot_none {w : World} {a : Addr} {v : Value} (h : w.cell? a = some v) : a.spot = none := by
  obtain ⟨b, o, s⟩ := a
  cases s with
  | none => rfl
  | some q => simp [World.cell?] at h; split at h <;> simp at h

theorem bools_open {H : Type} {enc : TypeId × Value → H} {W : World} {base : Nat} {spare : Nat → Bool} {held : Bool} {fuel : Nat} {v : Value} {x : DataW H × List MemPlace} (h : DataW.trod enc Try.prog W base spare held fuel 63 [v] = some x) :
    ∃ (A : Option Addr) (n cap : Nat) (q : Nat → Bool), v = .slice A n cap ∧ n ≤ 9223372036854775807 ∧ SrcB W A n q := by
  rcases open_slice (e := 4) Try.underlying63 h with ⟨hcs, rfl⟩ | ⟨a, len, cap, m, n, D, Pl, hcs, _, hl, hm, hmm, rfl, hel⟩
  · simp only [List.cons.injEq, and_true] at hcs
    subst hcs
    exact ⟨none, 0, 0, fun _ => false, rfl, by omega, fun h => absurd h (by omega)⟩
  · simp only [List.cons.injEq, and_true] at hcs
    subst hcs
    unfold maxLen at hm
    have hlm : len ≤ m := by rw [hmm]; split <;> omega
    have c4 : Try.prog.cellsOf 4 = 1 := by kernel_rfl
    rw [c4] at hel
    have hch : ∀ i, i < len → ∃ y : Bool, W.cell? (a.add i) = some (.bool y) := fun i hi => by
      obtain ⟨cs', h1, h2⟩ := hel i (by omega)
      obtain ⟨y, hy, _⟩ := DataW.trod_bool Try.underlying4 h2
      obtain ⟨_, _, h3⟩ := World.cells?_some h1
      have := h3 0 (by omega)
      rw [hy, add_add] at this
      simp only [Nat.mul_one, Nat.add_zero] at this
      exact ⟨y, this⟩
    obtain ⟨Y, hY⟩ := choose_lt hch
    refine ⟨some a, len, cap, Y, rfl, by omega, fun h0 => ?_⟩
    have hc0 := hY 0 h0
    have e0 : a.add 0 = a := by simp [Addr.add]
    rw [e0] at hc0
    have hs := spot_none hc0
    have hbl := block_lt_of_cell hc0
    obtain ⟨b, o, sp⟩ := a
    simp only at hs hbl
    subst hs
    exact ⟨b, o, rfl, hbl, fun j hj => by rw [← addr_add]; exact hY j hj⟩

def Post (w : World) (e : Ending) (w' : World) : Prop := e = .returned (.bool true) ∧ Below w.heap.size w w'

/-- the priorities -/
def pr (q : Nat → Nat) (j : Nat) : Int := ((1 + q j % 5 : Nat) : Int)
theorem pr_in (q : Nat → Nat) (j : Nat) : 1 ≤ pr q j ∧ pr q j ≤ 16 := by unfold pr; omega

theorem sl_form {w : World} {v : Value} {L : List It} (h : Sl w 37 v L) : ∃ (X : Option Addr) (k : Nat), v = .slice X L.length k ∧ L.length ≤ k ∧ k ≤ 9223372036854775807 := by
  rcases h with ⟨rfl, rfl⟩ | ⟨g, o, k, cs, h1, h2, h3, h4, h5⟩
  · exact ⟨none, 0, rfl, by simp, by omega⟩
  · exact ⟨_, k, h1, h2, h3⟩
theorem sl_open {w : World} {X : Option Addr} {m k : Nat} {L : List It} (h : Sl w 37 (.slice X m k) L) (h0 : 0 < L.length) : ∃ g o : Nat, X = some ⟨g, o, none⟩ ∧ ∀ (j : Nat) (x : It), L[j]? = some x → w.cell? ⟨g, o + j * 2, none⟩ = some (.int .i64 x.1) ∧ w.cell? ⟨g, o + j * 2 + 1, none⟩ = some (.int .i64 x.2) := by
  rcases h with ⟨_, h⟩ | ⟨g, o, k, cs, h1, h2, h3, h4, h5⟩
  · subst h; simp at h0
  · injection h1 with h1
    exact ⟨g, o, h1, fun j x hx => Sl.cell h4 h5 hx⟩
theorem dd (w : World) (d e : Nat) : (w.drewN d).drewN e = w.drewN (d + e) := by
  simp [World.drewN, Nat.add_assoc]

def FillRel (p n : Nat) (b : Bool) (q : Nat → Nat) (w : World) (i : Value) (wr : World) : Prop :=
  ∃ t : Nat, t ≤ n ∧ i = .int .i64 (t : Int) ∧ Ln wr p 42 b (fil b (pr q) t) ∧ Below w.heap.size w wr
def TurnRel (p r m : Nat) (b : Bool) (F : List It) (v : Value) (w : World) (k i : Value) (wr : World) : Prop :=
  ∃ (t c : Nat) (L : List It), t ≤ m ∧ i = .int .i64 (t : Int) ∧ k = .int .i64 (c : Int) ∧ L.length + c = F.length ∧ Ln wr r 42 b L ∧ Good b L ∧ Ln wr p 42 b F ∧ Sl wr 37 v F ∧ Below w.heap.size w wr
def LookRel (n : Nat) (W : World) (i : Value) (wr : World) : Prop :=
  ∃ t d : Nat, t ≤ n ∧ i = .int .i64 (t : Int) ∧ wr = W.drewN d

set_option maxHeartbeats 800000 in
theorem walkOut (bp : Bool) (A : Option Addr) (n cap : Nat) (B : Option Addr) (m cap2 : Nat) (w : World) (hn0 : n ≤ 9223372036854775807) (hm0 : m ≤ 9223372036854775807) (hn : ¬ (n ≤ 16 ∧ m ≤ 40)) : Calls Try.prog 9 #[.bool bp, .slice A n cap, .slice B m cap2] w (Post w) := by
  by_cases h : n ≤ 16
  · have t1 : decide ((16 : Int) < (n : Int)) = false := by simp; omega
    have t2 : (40 : Int) < (m : Int) := by omega
    have t3 : 40 < m := by omega
    have t4 : decide (16 < n) = false := by simp; omega
    clear hn h
    go_enter Try.func9, Try.ntmps9
    go_wp2_with fail
    refine (known_ok _).mono ?_
    rintro e w0 ⟨rfl, hb0⟩
    go_wp2
    go_ret
    exact ⟨rfl, hb0⟩
  · have t1 : (16 : Int) < (n : Int) := by omega
    have t2 : 16 < n := by omega
    clear hn h
    go_enter Try.func9, Try.ntmps9
    go_wp2_with fail
    refine (known_ok _).mono ?_
    rintro e w0 ⟨rfl, hb0⟩
    go_wp2
    go_ret
    exact ⟨rfl, hb0⟩

set_option maxHeartbeats 3200000 in
set_option maxRecDepth 100000 in
theorem walkIn (bp : Bool) (A : Option Addr) (n cap : Nat) (q : Nat → Nat) (B : Option Addr) (m cap2 : Nat) (tb : Nat → Bool) (w : World) (hs : Src w A n q) (hs2 : SrcB w B m tb) (hn : n ≤ 16) (hm : m ≤ 40) : Calls Try.prog 9 #[.bool bp, .slice A n cap, .slice B m cap2] w (Post w) := by
  have t1 : decide ((16 : Int) < (n : Int)) = false := by simp; omega
  have t2 : decide (16 < n) = false := by simp; omega
  have t3 : decide ((40 : Int) < (m : Int)) = false := by simp; omega
  have t4 : decide (40 < m) = false := by simp; omega
  go_enter Try.func9, Try.ntmps9
  go_wp2_with fail
  refine (known_ok _).mono ?_
  rintro e w0 ⟨rfl, hb0⟩
  go_wp2_with fail
  refine (new_ok bp w0).mono ?_
  rintro e w1 ⟨p, hp, rfl, hl1, hk1⟩
  have hpw : w.heap.size ≤ p := Nat.le_trans hb0.size hp
  have hb1 := hb0.trans (hk1.mono hb0.size)
  clear hb0 hk1 hp t1 t2 t3 t4
  go_wp2
  go_loopw [8] (fun i wr => FillRel p n bp q w i wr) (fun i _ => n - (intOf i).toNat)
  case atStart => exact ⟨0, Nat.zero_le _, rfl, hl1, hb1⟩
  case round =>
    obtain ⟨t, ht, rfl, hl2, hb2⟩ := hrel
    clear hl1 hb1
    by_cases hlt : t < n
    · obtain ⟨b, o, rfl, hbl, hcl⟩ := hs (by omega)
      obtain ⟨hc, hq⟩ := hcl t hlt
      have hct : wr.cell? ⟨b, o + t, none⟩ = _ := (hb2.cell (p := ⟨b, o + t, none⟩) hbl).trans hc
      have HC := Lib.hid hcl
      clear hc hcl
      go_wp2_with fail
      refine (add_fil p bp (pr q) (pr_in q) t (by omega) wr hl2 _ _ (by omega) (by unfold pr; omega)).mono ?_
      rintro e w3 ⟨rfl, hl3, ho3⟩
      have hb3 := hb2.trans (ho3.below hb2.size hpw)
      clear hl2 hb2 ho3 hct
      go_wp2
      go_roundw
      case rel => exact ⟨t + 1, by omega, by go_num, hl3, hb3⟩
      case measure => simp [intOf]; omega
    · obtain rfl : t = n := by omega
      have HG := Lib.hid (fil_good (b := bp) (pr_in q) hn)
      have HFL := Lib.hid (fil_len bp (pr q) t)
      generalize fil bp (pr q) t = F at *
      clear hlt ht
      go_wp2_with fail
      refine (row_ok p 42 bp F wr hl2 (by rw [HFL.out]; exact hn)).mono ?_
      rintro e w3 ⟨v, rfl, hs3, hk3⟩
      have hl3 := hl2.below hk3
      have hb3 := hb2.trans (hk3.mono hb2.size)
      clear hl2 hb2 hk3
      go_wp2_with fail
      refine (twin_ok p bp F w3 hl3).mono ?_
      rintro e w4 ⟨r, hr, rfl, hr4, hk4⟩
      have hrp : p ≠ r := by have := hl3.lt; omega
      have hrw : w.heap.size ≤ r := Nat.le_trans hb3.size hr
      have hl4 := hl3.below hk4
      have hs4 := hs3.below hk4
      have hb4 := hb3.trans (hk4.mono hb3.size)
      clear hl3 hb3 hs3 hk4 hr
      go_wp2
      go_loopw [11, 12] (fun k i wr => TurnRel p r m bp F v w k i wr) (fun _ i _ => m - (intOf i).toNat)
      case atStart => exact ⟨0, 0, F, Nat.zero_le _, rfl, rfl, rfl, hr4, HG.out, hl4, hs4, hb4⟩
      case round =>
        obtain ⟨s, c, L, hsm, rfl, rfl, hcL, hr5, hG5, hl5, hs5, hb5⟩ := hrel
        clear hr4 hl4 hs4 hb4
        have HG5 := Lib.hid hG5
        have HCL := Lib.hid hcL
        have HL5 := Lib.hid hl5
        have HS5 := Lib.hid hs5
        rw [HFL.out] at hcL
        clear hG5 hl5 hs5
        by_cases hlt : s < m
        · obtain ⟨b, o, rfl, hbl, hcl⟩ := hs2 (by omega)
          have hct : wr.cell? ⟨b, o + s, none⟩ = _ := (hb5.cell (p := ⟨b, o + s, none⟩) hbl).trans (hcl s hlt)
          clear hcl
          cases htb : tb s with
          | true =>
            rw [htb] at hct
            cases L with
            | nil =>
              go_wp2_with fail
              refine (take_none r bp wr hr5).mono ?_
              rintro e w6 ⟨rfl, hk6⟩
              have hk7 := hk6.alloc hk6.size (.cells #[.int .i64 0, .int .i64 0] 37)
              have hb7 := Lib.hid (hb5.trans (hk7.mono hb5.size))
              have hr7 := Lib.hid (hr5.below hk7)
              have hl7 := Lib.hid (HL5.out.below hk7)
              have hs7 := Lib.hid (HS5.out.below hk7)
              clear hr5 hb5 hk6 hk7 hct htb
              go_wp2
              go_roundw
              case rel => exact ⟨s + 1, c, [], by omega, by go_num, rfl, HCL.out, hr7.out, HG5.out, hl7.out, hs7.out, hb7.out⟩
              case measure => simp [intOf]; omega
            | cons x L =>
              have hlen : L.length + (c + 1) = F.length := by have := HCL.out; rw [List.length_cons] at this; omega
              have HLEN := Lib.hid hlen
              clear hlen
              go_wp2_with fail
              refine (take_some r bp x L wr hr5 HG5.out.len).mono ?_
              rintro e w6 ⟨rfl, hr6, ho6⟩
              have hb6 := hb5.trans (ho6.below hb5.size hrw)
              have hl6 := HL5.out.only ho6 hrp
              have hs6 := HS5.out.only ho6 (hr5.type (by decide))
              have hb7 := Lib.hid (hb6.alloc hb6.size (.cells #[.int .i64 x.1, .int .i64 x.2] 37))
              have hr7 := Lib.hid (hr6.alloc (.cells #[.int .i64 x.1, .int .i64 x.2] 37))
              have hl7 := Lib.hid (hl6.alloc (.cells #[.int .i64 x.1, .int .i64 x.2] 37))
              have hs7 := Lib.hid (hs6.below ((Below.refl w6.heap.size w6).alloc (Nat.le_refl _) (.cells #[.int .i64 x.1, .int .i64 x.2] 37)))
              have HG6 := Lib.hid (HG5.out.tail 1)
              clear hr5 hb5 hr6 ho6 hb6 hl6 hs6 hct htb
              have hc17 : c ≤ 16 := by omega
              clear hcL
              go_wp2
              go_roundw
              case rel => exact ⟨s + 1, c + 1, L, by omega, by go_num, by go_num, HLEN.out, hr7.out, HG6.out, hl7.out, hs7.out, hb7.out⟩
              case measure => simp [intOf]; omega
          | false =>
            rw [htb] at hct
            go_wp2_with fail
            refine (change_any r bp L wr hr5 HG5.out _ _).mono ?_
            rintro e w6 ⟨rfl, hr6, ho6⟩
            have hb6 := Lib.hid (hb5.trans (ho6.below hb5.size hrw))
            have hl6 := Lib.hid (HL5.out.only ho6 hrp)
            have hs6 := Lib.hid (HS5.out.only ho6 (hr5.type (by decide)))
            have HG6 := Lib.hid (HG5.out.chgL (1 + (s : Int) % 16) 3)
            have HLN := Lib.hid (chgL_len (b := bp) (L := L) (1 + (s : Int) % 16) 3)
            generalize chgL bp L (1 + (s : Int) % 16) 3 = L' at *
            generalize chgOk L (1 + (s : Int) % 16) 3 = ok' at *
            have HR6 := Lib.hid hr6
            clear hr5 hb5 ho6 hct htb hr6
            go_wp2
            go_roundw
            case rel => exact ⟨s + 1, c, L', by omega, by go_num, rfl, by rw [HLN.out]; exact HCL.out, HR6.out, HG6.out, hl6.out, hs6.out, hb6.out⟩
            case measure => simp [intOf]; omega
        · go_wp2_with fail
          refine (row_ok p 42 bp F wr HL5.out (by rw [HFL.out]; exact hn)).mono ?_
          rintro e w6 ⟨v6, rfl, hs6, hk6⟩
          have hr6 := hr5.below hk6
          have hb6 := hb5.trans (hk6.mono hb5.size)
          have hs7 := HS5.out.below hk6
          clear hr5 hb5 hk6 HS5 HL5
          obtain ⟨X, k, rfl, hk1, hk2⟩ := sl_form hs7
          obtain ⟨X', k', rfl, hk1', hk2'⟩ := sl_form hs6
          have HS6 := Lib.hid hs6
          have HS7 := Lib.hid hs7
          rw [HFL.out] at hk1 hk1' ⊢
          have hlc : (L.length : Int) = (t : Int) - (c : Int) := by omega
          have HLL := Lib.hid (len_ok r 42 bp L w6 hr6)
          rw [hlc] at HLL
          clear hs6 hs7 hr6 hlc
          go_wp2_with fail
          refine HLL.out.mono ?_
          rintro e w7 ⟨rfl, rfl⟩
          go_wp2
          go_loopw [16] (fun i wr => LookRel t w6 i wr) (fun i _ => t - (intOf i).toNat)
          case atStart => exact ⟨0, 0, Nat.zero_le _, rfl, rfl⟩
          case round =>
            obtain ⟨u, d, hu1, rfl, hW0⟩ := hrel
            have HW0 : Hid (∃ d, wr = w6.drewN d) := ⟨d, hW0⟩
            have HB : Hid (Below w.heap.size w wr) := by rw [hW0]; exact ⟨hb6.os, hb6.tape, hb6.output, hb6.size, hb6.block⟩
            by_cases hlt2 : u < t
            · obtain ⟨x, hx⟩ : ∃ x, F[u]? = some x := ⟨_, List.getElem?_eq_getElem (by rw [HFL.out]; exact hlt2)⟩
              obtain ⟨g, o, rfl, hc1⟩ := sl_open HS7.out (by rw [HFL.out]; omega)
              obtain ⟨g', o', rfl, hc2⟩ := sl_open HS6.out (by rw [HFL.out]; omega)
              have hx0 : wr.cell? ⟨g, o + u * 2, none⟩ = some (.int .i64 x.1) := by rw [hW0]; exact (hc1 u x hx).1
              have hx1 : wr.cell? ⟨g, o + u * 2 + 1, none⟩ = some (.int .i64 x.2) := by rw [hW0]; exact (hc1 u x hx).2
              have hy0 : wr.cell? ⟨g', o' + u * 2, none⟩ = some (.int .i64 x.1) := by rw [hW0]; exact (hc2 u x hx).1
              have hy1 : wr.cell? ⟨g', o' + u * 2 + 1, none⟩ = some (.int .i64 x.2) := by rw [hW0]; exact (hc2 u x hx).2
              have iu : (u : Int) < (t : Int) := by omega
              clear hx hc1 hc2 hW0
              go_wp2
              go_quiet (fail)
              go_wp2
              go_roundw
              case rel => obtain ⟨d9, e9⟩ := HW0.out; exact ⟨u + 1, d9 + nq, by omega, by go_num, by rw [e9, dd]⟩
              case measure => simp [intOf]; omega
            · clear hW0
              go_wp2
              go_ret
              exact ⟨rfl, HB.out⟩

theorem walk (a0 : Bool) (a1 : Option Addr) (len1 cap1 : Nat) (z1 : List Int) (a2 : Option Addr) (len2 cap2 : Nat) (tb : Nat → Bool) (w : World) (w1 : IsRow .u8 w a1 len1 cap1 z1) (hm : len2 ≤ 9223372036854775807) (w2 : SrcB w a2 len2 tb) :
    Calls Try.prog 9 #[.bool a0, .slice a1 len1 cap1, .slice a2 len2 cap2] w fun e w' => e = .returned (.bool true) ∧ Below w.heap.size w w' := by
  obtain ⟨h1, q, h2⟩ := src_of w1
  by_cases h : len1 ≤ 16 ∧ len2 ≤ 40
  · exact walkIn a0 a1 len1 cap1 q a2 len2 cap2 tb w h2 w2 h.1 h.2
  · exact walkOut a0 a1 len1 cap1 a2 len2 cap2 w h1 hm h

/-! ### THE ROW's STEP: WRITTEN OUT: LEAVE IT -/
set_option maxRecDepth 100000 in
theorem lifted (os : Os) (started : os.Started) (H : Type) (enc : TypeId × Value → H) :
    ReturnsInHanded {} Try.checked os 9 .any (Rows.orderTwinsSpec.pre6 enc Try.prog Try.f9 Rows.orderTwinsRow.domain false) (Rows.orderTwinsSpec.post enc Try.prog Try.f9 false true false false) := by
  refine returnsInHanded_of_change (C := Try.checked) own started (by kernel_rfl) Try.func9
    (ChangeSpec.witness6 (enc := enc) (C := Try.checked) false ⟨#[], #[.bool false, .slice none 0 0, .slice none 0 0], []⟩ 8 (by kernel_rfl) (by kernel_rfl) (by kernel_rfl) (by kernel_rfl)) ?_
  intro W base args ds gs before hval0 hW hcnd _
  have hval : ∀ (j : Nat) t v, Try.f9.params[j]? = some t → args[j]? = some v → Value.okWide Try.prog W .any base t v := hval0
  have hW' := hW
  obtain ⟨p, q, hA0, hV, rfl, hfz, hnd⟩ := hW
  have hA : DataW.TrodAll enc Try.prog W 0 (fun _ => true) true Try.f9.params.toList args.toList ds p := hA0
  rw [Try.params9] at hA hval
  obtain ⟨v0, vs0, d0, ds0, p0, q0, hargs, rfl, rfl, h0, r0⟩ := trodAll_cons hA
  obtain ⟨v1, vs1, d1, ds1, p1, q1, rfl, rfl, rfl, h1, r1⟩ := trodAll_cons r0
  obtain ⟨v2, vs2, d2, ds2, p2, q2, rfl, rfl, rfl, h2, r2⟩ := trodAll_cons r1
  obtain ⟨rfl, rfl, rfl⟩ := trodAll_nil r2
  obtain rfl : args = #[v0, v1, v2] := by cases args; simp_all
  obtain ⟨rfl, rfl⟩ := trodVars_none hV
  obtain ⟨a0, rfl, rfl, rfl⟩ := open_bool Try.underlying4 (hval 0 4 v0 rfl rfl) h0
  obtain ⟨a1, len1, cap1, rfl⟩ := okWide_slice Try.underlying53 (hval 1 53 v1 rfl rfl)
  have k1 := h1
  have lt1 : ∀ x ∈ p1, x.block < W.heap.size := by obtain ⟨m, hm⟩ := k1; exact DataW.trod_lt m _ _ _ hm
  obtain ⟨z1, w1⟩ : ∃ zs, IsRow .u8 W a1 len1 cap1 zs := by
    obtain ⟨fuel, hf⟩ := h1
    rcases open_ints Try.underlying53 Try.underlying5 (by kernel_rfl) hf with ⟨hcs, _⟩ | ⟨x, l, c, zs, hcs, _, hl, hm, hz, _, hcell, hwz⟩
    · simp [Value.cells] at hcs
      obtain ⟨rfl, rfl, rfl⟩ := hcs
      exact ⟨[], .inl ⟨rfl, rfl, rfl, rfl⟩⟩
    · simp [Value.cells] at hcs
      obtain ⟨rfl, rfl, rfl⟩ := hcs
      exact ⟨zs, .inr ⟨_, rfl, hl, hm, by simpa using hz, hcell, hwz⟩⟩
  obtain ⟨a2, len2, cap2, rfl⟩ := okWide_slice Try.underlying63 (hval 2 63 v2 rfl rfl)
  have k2 := h2
  have lt2 : ∀ x ∈ p2, x.block < W.heap.size := by obtain ⟨m, hm⟩ := k2; exact DataW.trod_lt m _ _ _ hm
  obtain ⟨A, n, cap, tb, hv, hn, hsb⟩ : ∃ (A : Option Addr) (n cap : Nat) (tb : Nat → Bool), Value.slice a2 len2 cap2 = .slice A n cap ∧ n ≤ 9223372036854775807 ∧ SrcB W A n tb := by
    obtain ⟨fuel, hf⟩ := h2
    exact bools_open (v := .slice a2 len2 cap2) hf
  injection hv with e1 e2 e3
  subst e1 e2 e3
  clear hA0 hval0
  refine (walk a0 a1 len1 cap1 z1 a2 len2 cap2 tb W w1 hn hsb).mono fun e W' ⟨he, bel⟩ => ?_
  subst he
  exact ⟨_, rfl, _, _, _, [], _, [], hW', trodAll_mk1 (shut_bool Try.underlying4 _), (trodAll_cons_mk (shut_bool Try.underlying4 _) (trodAll_cons_mk (Below.trod laidOut (by kernel_rfl) (of_decide_eq_true (by kernel_rfl)) k1 bel lt1) (trodAll_cons_mk (Below.trod laidOut (by kernel_rfl) (of_decide_eq_true (by kernel_rfl)) k2 bel lt2) trodAll_mk0))), rfl, bel.frame _, fun h => by cases h⟩

theorem over : Rows.orderTwinsRow.holds Try.pinned (OpenSpec.ofChange Rows.orderTwinsSpec) :=
  OpenClaim.holds_of_wide 9 Try.f9 rfl rfl rfl rfl rfl rfl rfl ⟨rfl, rfl, rfl, rfl, rfl⟩ rfl rfl rfl rfl rfl (by kernel_rfl) Try.func9 (by kernel_rfl)
    (of_decide_eq_true (by kernel_rfl)) (by unfold Func.isWrapper; first | (rw [if_pos (by decide +kernel)]; kernel_rfl) | (rw [if_neg (by decide +kernel)]; exact ⟨rfl, rfl⟩))
    (fun os started H enc _ => lifted os started H enc)

/-- ████ THE STATEMENT ████ -/
theorem proved : Rows.OrderTwinsSaid := over
#print axioms proved
end Go.Proofs.Ytklchhbkeoaloaa.orderTwins
namespace Go.Proofs.Ytklchhbkeoaloaa
theorem orderTwins_holds : Rows.OrderTwinsSaid := orderTwins.proved
end Go.Proofs.Ytklchhbkeoaloaa
