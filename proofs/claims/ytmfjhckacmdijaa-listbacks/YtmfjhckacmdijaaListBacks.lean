/-
  PROVED: the Go function detentlaw3.ListBacks returns true for every input, and each argument reads behind the call as it read before (Rows.ListBacksSaid). No condition.
-/
import Derived.Test.YtmfjhckacmdijaaRows
import Derived.Test.YtmfjhckacmdijaaConM
import Derived.WalkKit
import Derived.ProofKit
import Derived.OpenShut
import Derived.ShutString
import Derived.ChangeOld
import Derived.Below
namespace Go.Proofs.Ytmfjhckacmdijaa.listBacks
open Go.ChangeShapes Go.WideShapes Go.ChangeAt Go.RowKit
open Go.ChangeMaps (open_string shut_string)
set_option linter.unusedVariables false

theorem own : ownKnob Try.prog.godebug = none := by kernel_rfl
theorem laidOut : laidOutB Try.prog = true := by kernel_rfl

/-- WHAT THE WALK IS TOLD OF A SLICE OF INTEGERS THAT CAME IN: it is nil; or it leads to a row of 'cap' cells, the numbers 'zs' (the first 'len' are its elements, the rest its spare room), each fitting its kind. -/
def IsRow (k : IntKind) (w : World) (a : Option Addr) (len cap : Nat) (zs : List Int) : Prop :=
  (a = none ∧ len = 0 ∧ cap = 0 ∧ zs = []) ∨
  ∃ x, a = some x ∧ len ≤ cap ∧ cap ≤ maxLen ∧ zs.length = cap ∧ (∀ i, i < zs.length → w.cell? (x.add i) = some (.int k (zs.getD i 0))) ∧ ∀ n ∈ zs, (Lit.int k n).wf = true

def Post (w : World) (e : Ending) (w' : World) : Prop := e = .returned (.bool true) ∧ Below w.heap.size w w'

/-- the bytes that came in -/
def Ub (w : World) (A : Option Addr) (L : List Nat) : Prop :=
  0 < L.length → ∃ b o : Nat, A = some ⟨b, o, none⟩ ∧ ∀ (j x : Nat), L[j]? = some x → w.cell? ⟨b, o + j, none⟩ = some (.int .u8 (x : Int))
theorem Ub.below {w w' : World} {A : Option Addr} {L : List Nat} (h : Ub w A L) (hb : Below w.heap.size w w') : Ub w' A L := by
  intro h0
  obtain ⟨b, o, hA, hc⟩ := h h0
  refine ⟨b, o, hA, fun j x hx => ?_⟩
  have h1 := hc j x hx
  rw [hb.cell (p := ⟨b, o + j, none⟩) (block_lt_of_cell h1)]; exact h1

def dup (L : List Nat) (t : Nat) : Bool := decide (¬ (L.take t).Nodup)
def hit (L : List Nat) (t x s : Nat) : Bool := dup L t || decide (x ∈ L.take s)
theorem take_succ' {L : List Nat} {t x : Nat} (h : L[t]? = some x) : L.take (t + 1) = L.take t ++ [x] := by rw [List.take_add_one, h]; rfl
theorem dup_succ {L : List Nat} {t x : Nat} (h : L[t]? = some x) : dup L (t + 1) = hit L t x t := by
  unfold hit dup
  rw [take_succ' h]
  by_cases h1 : (L.take t).Nodup
  · by_cases h2 : x ∈ L.take t
    · have : ¬ (L.take t ++ [x]).Nodup := fun h3 => (List.nodup_append.1 h3).2.2 x h2 x (by simp) rfl
      simp [h1, h2, this]
    · have : (L.take t ++ [x]).Nodup := List.nodup_append.2 ⟨h1, by simp, fun a ha b hb => by rw [List.mem_singleton.1 hb]; rintro rfl; exact h2 ha⟩
      simp [h1, h2, this]
  · have : ¬ (L.take t ++ [x]).Nodup := fun h3 => h1 (List.nodup_append.1 h3).1
    simp [h1, this]
theorem hit_succ {L : List Nat} {t x s y : Nat} (h : L[s]? = some y) : hit L t x (s + 1) = (hit L t x s || decide (y = x)) := by
  unfold hit
  rw [take_succ' h]
  have : (x ∈ L.take s ++ [y]) ↔ (x ∈ L.take s ∨ y = x) := by simp [eq_comm]
  simp only [this, Bool.decide_or, Bool.or_assoc]

theorem beq_dec (x y : Nat) : ((x : Int) == (y : Int)) = decide (x = y) := by
  by_cases h : x = y
  · subst h; simp
  · have : ¬ (x : Int) = (y : Int) := by omega
    simp [h]; omega
theorem ints_nodup : ∀ L : List Nat, (ints L).Nodup ↔ L.Nodup
  | [] => by simp [ints]
  | x :: l => by
    have ih := ints_nodup l
    have : (x : Int) ∈ ints l ↔ x ∈ l := by
      simp only [ints, List.mem_map]
      constructor
      · rintro ⟨y, hy, e⟩; obtain rfl : y = x := by omega
        exact hy
      · intro h; exact ⟨x, h, rfl⟩
    show ((x : Int) :: ints l).Nodup ↔ _
    rw [List.nodup_cons, List.nodup_cons, this, ih]
theorem ints_toNat (L : List Nat) : (ints L).map Int.toNat = L := by simp [ints, Function.comp_def]

def BRel (p2 m2 : Nat) (L : List Nat) (w4 : World) (i : Value) (wr : World) : Prop :=
  ∃ (t : Nat) (R : Nat → List Nat), t ≤ L.length ∧ i = .int .i64 (t : Int) ∧ Lst wr p2 m2 256 1 R ∧ R 0 = L.take t ∧ Only m2 m2 w4 wr

def OutRel (L : List Nat) (w2 : World) (ns tw i : Value) (wr : World) : Prop :=
  ∃ t : Nat, t ≤ L.length ∧ i = .int .i64 (t : Int) ∧ tw = .bool (dup L t) ∧ wr.ownsRow w2.heap.size 3 1 ns t (vals (L.take t)) ∧ Below w2.heap.size w2 wr
def InRel (L : List Nat) (t x : Nat) (w3 : World) (tw k : Value) (wr : World) : Prop :=
  ∃ s j : Nat, s ≤ t ∧ k = .int .i64 (s : Int) ∧ tw = .bool (hit L t x s) ∧ wr = w3.drewN j

set_option maxHeartbeats 3200000 in
set_option maxRecDepth 100000 in
theorem walkIn (A : Option Addr) (cap : Nat) (L : List Nat) (hn : L.length ≤ 100) (hL : ∀ x, x ∈ L → x < 256) (w : World) (hu : Ub w A L) :
    Calls Try.prog 5 #[.slice A L.length cap] w (Post w) := by
  have t1 : decide ((100 : Int) < (L.length : Int)) = false := by simp; omega
  have HL := Lib.hid hL
  obtain ⟨i0, hi, hz0, hz1, hz2⟩ := info_parts info3
  clear hL
  go_enter Try.func5, Try.ntmps5
  go_wp2_with fail
  refine (known_any _).mono ?_
  rintro e w0 ⟨rfl, hb0⟩
  go_wp2_with fail
  refine (new_ok 256 1 (by omega) (by omega) (by omega) (by omega) w0).mono ?_
  rintro e w1 ⟨p, m, hp, hm, rfl, hl1, hb1⟩
  go_wp2_with fail
  refine (new_ok 256 1 (by omega) (by omega) (by omega) (by omega) w1).mono ?_
  rintro e w2 ⟨p2, m2, hp2, hm2, rfl, hk2, hb2⟩
  have hl2 := hl1.below hb2 hl1.ltp hl1.ltm
  have HB2 : Hid (Below w.heap.size w w2) := (hb0.trans (hb1.mono hb0.size)).trans (hb2.mono (Nat.le_trans hb0.size hb1.size))
  have hu2 := hu.below HB2.out
  have d1 : p2 ≠ m := by have := hl1.ltm; omega
  have d2 : m2 ≠ m := by have := hl1.ltm; omega
  have d3 : p ≠ m2 := by have := hl1.ltp; omega
  have hm' : w.heap.size ≤ m := Nat.le_trans hb0.size hm
  have hm2' : w.heap.size ≤ m2 := Nat.le_trans hb0.size (Nat.le_trans hb1.size hm2)
  clear hb0 hb1 hb2 hl1 hu hp hm hp2 hm2
  go_wp2
  go_loopw [7, 8, 9] (fun ns tw i wr => OutRel L w2 ns tw i wr) (fun _ _ i _ => L.length - (intOf i).toNat)
  case atStart => exact ⟨0, Nat.zero_le _, rfl, rfl, World.ownsRow_nil _ _ _ _, Below.refl _ _⟩
  case round =>
    obtain ⟨t, ht, rfl, rfl, hown, hb3⟩ := hrel
    by_cases hlt : t < L.length
    · obtain ⟨x, hx⟩ : ∃ x, L[t]? = some x := ⟨_, List.getElem?_eq_getElem hlt⟩
      have hx256 := HL.out x (List.mem_of_getElem? hx)
      have hu3 := hu2.below hb3
      obtain ⟨b, o, rfl, hc⟩ := hu3 (by omega)
      have HC := Lib.hid hc
      have HX := Lib.hid hx
      have HB3 := Lib.hid hb3
      have HO := Lib.hid hown
      clear hc hx hb3 hown hu2 hl2 hk2
      go_wp2
      go_loopw [8, 10] (fun tw k w' => InRel L t x wr tw k w') (fun _ k _ => t - (intOf k).toNat)
      case atStart => exact ⟨0, 0, Nat.zero_le _, rfl, by simp [hit], rfl⟩
      case round =>
        obtain ⟨s, j, hs, rfl, rfl, rfl⟩ := hrel
        by_cases hlt2 : s < t
        · obtain ⟨y, hy⟩ : ∃ y, L[s]? = some y := ⟨_, List.getElem?_eq_getElem (by omega)⟩
          have hy256 := HL.out y (List.mem_of_getElem? hy)
          have HY := Lib.hid hy
          have h1 : (wr.drewN j).cell? ⟨b, o + s, none⟩ = some (.int .u8 (y : Int)) := HC.out s y hy
          have h2 : (wr.drewN j).cell? ⟨b, o + t, none⟩ = some (.int .u8 (x : Int)) := HC.out t x HX.out
          have i1 : (s : Int) < (L.length : Int) := by omega
          have i2 : (t : Int) < (L.length : Int) := by omega
          have HW := Lib.hid (drewN_drewN wr j)
          clear hy
          generalize wr.drewN j = w4 at *
          cases htw : hit L t x s with
          | true =>
            have HT := Lib.hid htw
            clear htw
            go_wp2
            go_quiet (fail)
            go_wp2
            go_roundw
            case rel => exact ⟨s + 1, _, by omega, by go_num, by rw [hit_succ HY.out, HT.out]; rfl, HW.out _⟩
            case measure => simp [intOf]; omega
          | false =>
            have HT := Lib.hid htw
            clear htw
            go_wp2
            go_quiet (fail)
            go_wp2
            go_roundw
            case rel => exact ⟨s + 1, _, by omega, by go_num, by rw [hit_succ HY.out, HT.out, beq_dec]; rfl, HW.out _⟩
            case measure => simp [intOf]; omega
        · obtain rfl : s = t := by omega
          have h2 : (wr.drewN j).cell? ⟨b, o + s, none⟩ = some (.int .u8 (x : Int)) := HC.out s x HX.out
          have hown4 : (wr.drewN j).ownsRow w2.heap.size 3 1 _ s (vals (L.take s)) := HO.out
          have hb4 : Below w2.heap.size w2 (wr.drewN j) := ⟨HB3.out.os, HB3.out.tape, HB3.out.output, HB3.out.size, HB3.out.block⟩
          have i2 : (s : Int) < (L.length : Int) := by omega
          rw [← dup_succ HX.out]
          generalize wr.drewN j = w4 at *
          clear HC HO HB3 hlt2
          go_wp2_with (at_builtin; refine wpList_append_own _ rfl _ _ 31 rfl w2.heap.size 3 i0 (.int .i64 0) 1 8 Try.underlying31 hi hz0 hz1 hz2 rfl (by decide) _ _ _ rfl (hown4.alloc _) ⟨w4.heap.size, 0, none⟩ 1 1 [.int .i64 (x : Int)] rfl rfl (cell_one_new _ _ _) (by intro u hu; simp at hu; subst hu; rfl) (by unfold maxLen; omega) (by omega) (by have := hb4.size; simp; omega) ?_; intro v1 w5 hown5 hgrow5 hnil5)
          have hb5 : Below w2.heap.size w2 w5 := (hb4.alloc hb4.size _).grown hgrow5 (by have := hb4.size; simp; omega) (fun k hk => (hown4.lt k hk).1)
          have hown6 : w5.ownsRow w2.heap.size 3 1 v1 (s + 1) (vals (L.take (s + 1))) := by
            rw [take_succ' HX.out]; simpa [vals] using hown5
          clear hgrow5 hnil5 hown4 hb4 hown5 h2
          go_wp2
          go_roundw
          case rel => exact ⟨s + 1, by omega, by go_num, rfl, hown6, hb5⟩
          case measure => simp [intOf]; omega
    · obtain rfl : t = L.length := by omega
      rw [List.take_length] at hown
      have hl3 := hl2.below hb3 hl2.ltp hl2.ltm
      have hk3 := hk2.below hb3 hk2.ltp hk2.ltm
      obtain ⟨B, k, hv, hk1, hk2', hnd, _⟩ := own_post hown hl2.ltm hb3
      obtain ⟨B', k', hv', _, _, hnd2, _⟩ := own_post hown hk2.ltm hb3
      injection hv with hv
      injection hv' with hv'
      subst hv
      injection hv' with e1 e2 e3
      subst e1
      have HB3 : Hid (Below w.heap.size w wr) := HB2.out.trans (hb3.mono HB2.out.size)
      clear e2 e3 hown hb3 hl2 hk2 HB2 hu2 hlt
      by_cases hdup : L.Nodup
      · have hd : dup L L.length = false := by unfold dup; rw [List.take_length]; simpa using hdup
        rw [hd]
        clear hd
        have HK := Lib.hid (back_ok p m 256 1 0 B k (ints L) (fun _ => []) wr hl3 (by omega) (by omega) hnd (by rw [ints_len]; omega) ⟨by omega, fun n hn => by obtain ⟨x, hx, rfl⟩ := List.mem_map.1 hn; have := HL.out x hx; omega, fun n hn => by rw [inn1]; simp, (ints_nodup L).2 hdup⟩)
        rw [ints_len] at HK
        have e0 : ((0 : Nat) : Int) = 0 := rfl
        rw [e0] at HK
        go_wp2_with fail
        refine HK.out.mono ?_
        rintro e w4 ⟨rfl, hl4, ho4⟩
        have hk4 := hk3.only ho4 d1 d1 d2 d2
        have hnd4 := hnd.only ho4 (.inl rfl) (.inl rfl)
        have hnd5 : Nd w4 m2 B (ints L) := by
          intro h0
          obtain ⟨b, o, hA, hbm, hc⟩ := hnd4 h0
          obtain ⟨b', o', hA', hbm', _⟩ := hnd2 h0
          rw [hA] at hA'; injection hA' with hA'; injection hA' with hA' _
          exact ⟨b, o, hA, by omega, hc⟩
        have HB4 := Lib.hid (HB3.out.trans (ho4.below HB3.out.size hm' hm'))
        have hR4 : setR (fun _ => ([] : List Nat)) 0 ([] ++ List.map Int.toNat (ints L)) 0 = L := by rw [setR_same, List.nil_append, ints_toNat]
        have HR4 := Lib.hid hR4
        generalize setR (fun _ => ([] : List Nat)) 0 ([] ++ List.map Int.toNat (ints L)) = R4 at *
        clear hR4 HK ho4 hl3 hk3 hnd HB3 hnd2
        go_wp2
        go_loopw [12] (fun i wr => BRel p2 m2 L w4 i wr) (fun i _ => L.length - (intOf i).toNat)
        case atStart => exact ⟨0, _, Nat.zero_le _, rfl, hk4, by rw [List.take_zero], Only.refl _ _ _⟩
        case round =>
          obtain ⟨s, S, hs, rfl, hk5, hS, ho5⟩ := hrel
          have HS := Lib.hid hS
          clear hS hk4
          by_cases hlt : s < L.length
          · obtain ⟨x, hx⟩ : ∃ x, L[s]? = some x := ⟨_, List.getElem?_eq_getElem hlt⟩
            have hx256 := HL.out x (List.mem_of_getElem? hx)
            have hnd6 := hnd5.only ho5 (.inl rfl) (.inl rfl)
            obtain ⟨b, o, rfl, hbm⟩ := hnd6.some (by omega)
            have hc := hnd6.cell (j := s) rfl hx
            have hxs : x ∉ L.take s := fun hm => by
              have h3 := hdup
              rw [← List.take_append_drop (s + 1) L, take_succ' hx] at h3
              exact (List.nodup_append.1 (List.nodup_append.1 h3).1).2.2 x hm x (by simp) rfl
            have HX := Lib.hid hx
            have HK := Lib.hid (back_one p2 m2 256 1 0 x S wr hk5 (by omega) (by omega) (by omega) hx256 (by rw [inn1, HS.out]; exact hxs) x rfl 0 rfl)
            clear hx hxs hnd6
            go_wp2_with fail
            refine HK.out.mono ?_
            rintro e w6 ⟨rfl, hk6, ho6⟩
            go_wp2
            go_roundw
            case rel => exact ⟨s + 1, _, by omega, by go_num, hk6, by rw [setR_same, HS.out, take_succ' HX.out], ho5.trans ho6⟩
            case measure => simp [intOf]; omega
          · obtain rfl : s = L.length := by omega
            rw [List.take_length] at HS
            have hl5 := hl4.only ho5 d3 d3 (Ne.symm d2) (Ne.symm d2)
            have hnd6 := hnd5.only ho5 (.inl rfl) (.inl rfl)
            have HB5 := Lib.hid (HB4.out.trans (ho5.below HB4.out.size hm2' hm2'))
            clear ho5 hl4 HB4 hnd5 hlt
            have HK := Lib.hid (row_l p m 256 1 0 R4 wr hl5 (by omega) (by omega) (by omega) L HR4.out L.length rfl 0 rfl)
            go_wp2_with fail
            refine HK.out.mono ?_
            rintro e w6 ⟨A6, k6, rfl, hk61, hk62, hnd7, hb6⟩
            have hl6 := hl5.below hb6 hl5.ltp hl5.ltm
            have hk6 := hk5.below hb6 hk5.ltp hk5.ltm
            have hnd8 := hnd6.below hb6
            have HB6 := Lib.hid (HB5.out.trans (hb6.mono HB5.out.size))
            clear HK HB5 hb6 hl5 hk5 hnd6
            have HK := Lib.hid (row_l p2 m2 256 1 0 S w6 hk6 (by omega) (by omega) (by omega) L HS.out L.length rfl 0 rfl)
            go_wp2_with fail
            refine HK.out.mono ?_
            rintro e w7 ⟨A7, k7, rfl, hk71, hk72, hnd9, hb7⟩
            have hl7 := hl6.below hb7 hl6.ltp hl6.ltm
            have hnd10 := hnd8.below hb7
            have hnd11 := hnd7.below hb7
            have HB7 := Lib.hid (HB6.out.trans (hb7.mono HB6.out.size))
            clear HK HB6 hb7 hl6 hk6 hnd7 hnd8
            have HK := Lib.hid (same_true m m2 A6 A7 k6 k7 (ints L) w7 hnd11 hnd9 (by rw [ints_len]; omega))
            rw [ints_len] at HK
            go_wp2_with fail
            refine HK.out.mono ?_
            rintro e w8 ⟨rfl, n8, rfl⟩
            have hl8 := hl7.drewN n8
            have hnd12 := hnd10.drewN n8
            have HB8 : Hid (Below w.heap.size w (w7.drewN n8)) := ⟨HB7.out.os, HB7.out.tape, HB7.out.output, HB7.out.size, HB7.out.block⟩
            generalize w7.drewN n8 = w8 at *
            clear HK HB7 hl7 hnd9 hnd10 hnd11
            have HK := Lib.hid (row_l p m 256 1 0 R4 w8 hl8 (by omega) (by omega) (by omega) L HR4.out L.length rfl 0 rfl)
            go_wp2_with fail
            refine HK.out.mono ?_
            rintro e w9 ⟨A9, k9, rfl, hk91, hk92, hnd13, hb9⟩
            have hnd14 := hnd12.below hb9
            have HB9 := Lib.hid (HB8.out.trans (hb9.mono HB8.out.size))
            clear HK HB8 hb9 hl8 hnd12
            have HK := Lib.hid (same_true m m2 A9 B k9 k (ints L) w9 hnd13 hnd14 (by rw [ints_len]; omega))
            rw [ints_len] at HK
            go_wp2_with fail
            refine HK.out.mono ?_
            rintro e w10 ⟨rfl, n10, rfl⟩
            go_wp2
            go_ret
            exact ⟨rfl, HB9.out.os, HB9.out.tape, HB9.out.output, HB9.out.size, HB9.out.block⟩
      · have hd : dup L L.length = true := by unfold dup; rw [List.take_length]; simpa using hdup
        rw [hd]
        clear hd
        have HK := Lib.hid (back_bad p m 256 1 0 B k (ints L) (fun _ => []) wr hl3 (by omega) (by omega) hnd (by rw [ints_len]; omega) (-41) (.inr (.inr (.inl ⟨by omega, fun n hn => by obtain ⟨x, hx, rfl⟩ := List.mem_map.1 hn; have := HL.out x hx; omega, .inr (fun h => hdup ((ints_nodup L).1 h)), rfl⟩))) rfl)
        rw [ints_len] at HK
        go_wp2_with fail
        refine HK.out.mono ?_
        rintro e w4 ⟨rfl, hl4, ho4⟩
        have HB4 := Lib.hid (HB3.out.trans (ho4.below HB3.out.size hm' hm'))
        clear HK
        have HK := Lib.hid (len_l p m 256 1 0 _ w4 hl4 (by omega) (by omega) (by omega) [] rfl 0 rfl 0 rfl)
        go_wp2_with fail
        refine HK.out.mono ?_
        rintro e w5 ⟨rfl, n5, rfl⟩
        go_wp2
        go_ret
        exact ⟨rfl, HB4.out.os, HB4.out.tape, HB4.out.output, HB4.out.size, HB4.out.block⟩

set_option maxHeartbeats 800000 in
theorem walkOut (A : Option Addr) (len cap : Nat) (hn : 100 < len) (w : World) : Calls Try.prog 5 #[.slice A len cap] w (Post w) := by
  have t1 : (100 : Int) < (len : Int) := by omega
  go_enter Try.func5, Try.ntmps5
  go_wp2_with fail
  refine (known_any _).mono ?_
  rintro e w0 ⟨rfl, hb0⟩
  go_wp2
  go_ret
  exact ⟨rfl, hb0⟩

theorem add_eq (b off i : Nat) : (⟨b, off, none⟩ : Addr).add i = ⟨b, off + i, none⟩ := by cases i <;> simp [Addr.add]

/-! ### the walk -/
theorem walk (a0 : Option Addr) (len0 cap0 : Nat) (z0 : List Int) (w : World) (w0 : IsRow .u8 w a0 len0 cap0 z0) :
    Calls Try.prog 5 #[.slice a0 len0 cap0] w fun e w' => e = .returned (.bool true) ∧ Below w.heap.size w w' := by
  by_cases hn : 100 < len0
  · exact walkOut a0 len0 cap0 hn w
  · obtain ⟨L, hl, hL, hu⟩ : ∃ L : List Nat, L.length = len0 ∧ (∀ x, x ∈ L → x < 256) ∧ Ub w a0 L := by
      rcases w0 with ⟨rfl, rfl, rfl, rfl⟩ | ⟨x, rfl, h1, h2, h3, h4, h5⟩
      · exact ⟨[], rfl, by simp, fun h => by simp at h⟩
      · refine ⟨(z0.take len0).map Int.toNat, by simp; omega, fun y hy => ?_, fun h0 => ?_⟩
        · obtain ⟨z, hz, rfl⟩ := List.mem_map.1 hy
          have := h5 z (List.mem_of_mem_take hz)
          simp [Lit.wf] at this
          have e1 : IntKind.u8.min = 0 := rfl
          have e2 : IntKind.u8.max = 255 := rfl
          omega
        · have hlen : 0 < len0 := by simp at h0; omega
          have hc0 := h4 0 (by omega)
          obtain ⟨b, o, sp⟩ := x
          have hsp : sp = none := by
            cases sp with
            | none => rfl
            | some q => exfalso; simp [Addr.add, World.cell?] at hc0; split at hc0 <;> simp at hc0
          subst hsp
          refine ⟨b, o, rfl, fun j y hy => ?_⟩
          rw [List.getElem?_map] at hy
          obtain ⟨z, hz, rfl⟩ := Option.map_eq_some_iff.1 hy
          rw [List.getElem?_take] at hz
          split at hz
          · next hj =>
            have hjz := (List.getElem?_eq_some_iff.1 hz).1
            have h6 := h4 j hjz
            rw [add_eq] at h6
            rw [h6, List.getD_eq_getElem?_getD, hz]
            have := h5 z (List.mem_of_getElem? hz)
            simp [Lit.wf] at this
            simp only [Option.getD_some]
            have e1 : IntKind.u8.min = 0 := rfl
            congr 2
            omega
          · cases hz
    subst hl
    exact walkIn a0 cap0 L (by omega) hL w hu

/-! ### THE ROW's STEP: WRITTEN OUT: LEAVE IT -/
set_option maxRecDepth 100000 in
theorem lifted (os : Os) (started : os.Started) (H : Type) (enc : TypeId × Value → H) :
    ReturnsInHanded {} Try.checked os 5 .any (Rows.listBacksSpec.pre6 enc Try.prog Try.f5 Rows.listBacksRow.domain false) (Rows.listBacksSpec.post enc Try.prog Try.f5 false true false false) := by
  refine returnsInHanded_of_change (C := Try.checked) own started (by kernel_rfl) Try.func5
    (ChangeSpec.witness6 (enc := enc) (C := Try.checked) false ⟨#[], #[.slice none 0 0], []⟩ 8 (by kernel_rfl) (by kernel_rfl) (by kernel_rfl) (by kernel_rfl)) ?_
  intro W base args ds gs before hval0 hW hcnd _
  have hval : ∀ (j : Nat) t v, Try.f5.params[j]? = some t → args[j]? = some v → Value.okWide Try.prog W .any base t v := hval0
  have hW' := hW
  obtain ⟨p, q, hA0, hV, rfl, hfz, hnd⟩ := hW
  have hA : DataW.TrodAll enc Try.prog W 0 (fun _ => true) true Try.f5.params.toList args.toList ds p := hA0
  rw [Try.params5] at hA hval
  obtain ⟨v0, vs0, d0, ds0, p0, q0, hargs, rfl, rfl, h0, r0⟩ := trodAll_cons hA
  obtain ⟨rfl, rfl, rfl⟩ := trodAll_nil r0
  obtain rfl : args = #[v0] := by cases args; simp_all
  obtain ⟨rfl, rfl⟩ := trodVars_none hV
  obtain ⟨a0, len0, cap0, rfl⟩ := okWide_slice Try.underlying44 (hval 0 44 v0 rfl rfl)
  have k0 := h0
  have lt0 : ∀ x ∈ p0, x.block < W.heap.size := by obtain ⟨m, hm⟩ := k0; exact DataW.trod_lt m _ _ _ hm
  obtain ⟨z0, w0⟩ : ∃ zs, IsRow .u8 W a0 len0 cap0 zs := by
    obtain ⟨fuel, hf⟩ := h0
    rcases open_ints Try.underlying44 Try.underlying5 (by kernel_rfl) hf with ⟨hcs, _⟩ | ⟨x, l, c, zs, hcs, _, hl, hm, hz, _, hcell, hwz⟩
    · simp [Value.cells] at hcs
      obtain ⟨rfl, rfl, rfl⟩ := hcs
      exact ⟨[], .inl ⟨rfl, rfl, rfl, rfl⟩⟩
    · simp [Value.cells] at hcs
      obtain ⟨rfl, rfl, rfl⟩ := hcs
      exact ⟨zs, .inr ⟨_, rfl, hl, hm, by simpa using hz, hcell, hwz⟩⟩
  clear hA0 hval0
  refine (walk a0 len0 cap0 z0 W w0).mono fun e W' ⟨he, bel⟩ => ?_
  subst he
  exact ⟨_, rfl, _, _, _, [], _, [], hW', trodAll_mk1 (shut_bool Try.underlying4 _), (trodAll_cons_mk (Below.trod laidOut (by kernel_rfl) (of_decide_eq_true (by kernel_rfl)) k0 bel lt0) trodAll_mk0), rfl, bel.frame _, fun h => by cases h⟩

theorem over : Rows.listBacksRow.holds Try.pinned (OpenSpec.ofChange Rows.listBacksSpec) :=
  OpenClaim.holds_of_wide 5 Try.f5 rfl rfl rfl rfl rfl rfl rfl ⟨rfl, rfl, rfl, rfl, rfl⟩ rfl rfl rfl rfl rfl (by kernel_rfl) Try.func5 (by kernel_rfl)
    (of_decide_eq_true (by kernel_rfl)) (by unfold Func.isWrapper; first | (rw [if_pos (by decide +kernel)]; kernel_rfl) | (rw [if_neg (by decide +kernel)]; exact ⟨rfl, rfl⟩))
    (fun os started H enc _ => lifted os started H enc)

/-- ████ THE STATEMENT ████ -/
theorem proved : Rows.ListBacksSaid := over
#print axioms proved
end Go.Proofs.Ytmfjhckacmdijaa.listBacks
namespace Go.Proofs.Ytmfjhckacmdijaa
theorem listBacks_holds : Rows.ListBacksSaid := listBacks.proved
end Go.Proofs.Ytmfjhckacmdijaa
