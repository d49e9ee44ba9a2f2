/- Contracts of package arena: length, Write. -/
import Derived.Test.YtneimdjgbblaoaaRgConC
namespace Go.Proofs.Ytneimdjgbblaoaa.R
open Go.RowKit
set_option maxRecDepth 100000
variable {X : TypeId × List Value}

def part (ps : List (List Int)) (i : Nat) : List Int := ps.getD i []
def whole (ps : List (List Int)) : List Int := ps.flatten
def joined (ps : List (List Int)) (t : Nat) : List Int := (ps.take t).flatten
theorem joined_zero (ps : List (List Int)) : joined ps 0 = [] := by simp [joined]
theorem joined_succ (ps : List (List Int)) (t : Nat) (h : t < ps.length) : joined ps (t + 1) = joined ps t ++ part ps t := by
  unfold joined part
  rw [List.take_succ_eq_append_getElem h, List.flatten_append]
  simp [List.getD_eq_getElem?_getD, h]
theorem joined_all (ps : List (List Int)) : joined ps ps.length = whole ps := by simp [joined, whole]
theorem joined_rest (ps : List (List Int)) (t : Nat) : whole ps = joined ps t ++ (ps.drop t).flatten := by
  unfold joined whole; rw [← List.flatten_append, List.take_append_drop]
theorem joined_le (ps : List (List Int)) (t : Nat) : (joined ps t).length ≤ (whole ps).length := by
  rw [joined_rest ps t]; simp
theorem joined_succ_le (ps : List (List Int)) (t : Nat) (h : t < ps.length) : (joined ps t).length + (part ps t).length ≤ (whole ps).length := by
  have := joined_le ps (t + 1); rw [joined_succ ps t h] at this; simpa using this
theorem joined_len_succ (ps : List (List Int)) (t : Nat) (h : t < ps.length) : (joined ps (t + 1)).length = (joined ps t).length + (part ps t).length := by
  rw [joined_succ ps t h]; simp
theorem joined_at (ps : List (List Int)) (t j : Nat) (h : t < ps.length) (hj : j < (part ps t).length) : (whole ps).getD ((joined ps t).length + j) 0 = (part ps t).getD j 0 := by
  rw [joined_rest ps (t + 1), joined_succ ps t h, List.append_assoc, List.getD_eq_getElem?_getD, List.getElem?_append_right (by omega), List.getD_eq_getElem?_getD]
  congr 1
  rw [List.getElem?_append_left (by omega)]
  congr 1; omega

/-- The parts, as they lie in memory. -/
def Parts (w : World) (p m : Nat) (B : Option Addr) (ps : List (List Int)) : Prop :=
  0 < ps.length → ∃ b o : Nat, B = some ⟨b, o, none⟩ ∧ b ≠ p ∧ b ≠ m ∧ ∀ i, i < ps.length → ∃ (A : Option Addr) (k : Nat),
    w.cell? ⟨b, o + i, none⟩ = some (.slice A (part ps i).length k) ∧ Src w p m A (part ps i).length (fun j => (part ps i).getD j 0) ∧ (part ps i).length ≤ 9223372036854775807
theorem Parts.only {w w' : World} {p m q r : Nat} {B : Option Addr} {ps : List (List Int)} (h : Parts w p m B ps) (k : Only q r w w') (hq : q = p ∨ q = m ∨ w.heap.size ≤ q) (hr : r = p ∨ r = m ∨ w.heap.size ≤ r) : Parts w' p m B ps := by
  intro hn
  obtain ⟨b, o, hB, h1, h2, hc⟩ := h hn
  have hb : b < w.heap.size := by obtain ⟨A, k, h3, _⟩ := hc 0 hn; exact block_lt_of_cell h3
  refine ⟨b, o, hB, h1, h2, fun i hi => ?_⟩
  obtain ⟨A, j, h3, h4, h5⟩ := hc i hi
  exact ⟨A, j, by rw [k.cell (q := ⟨b, o + i, none⟩) hb (by simp only; omega) (by simp only; omega)]; exact h3, h4.only k hq hr, h5⟩

/-- what length returns -/
def lenZ (n : Nat) : Nat := if n ≤ 65536 then n else 65537

def LenRel (ps : List (List Int)) (v i : Value) : Prop :=
  ∃ t : Nat, t ≤ ps.length ∧ i = .int .i64 t ∧ v = .int .i64 (joined ps t).length ∧ (joined ps t).length ≤ 65536

theorem ret_int {k : IntKind} {a b : Int} (h : a = b) : Ending.returned (.int k a) = .returned (.int k b) := by rw [h]

set_option maxHeartbeats 800000 in
theorem length_any (p m : Nat) (B : Option Addr) (cap : Nat) (ps : List (List Int)) (w : World) (hp : Parts w p m B ps) (hl : ps.length ≤ 9223372036854775807) :
    Calls Try.prog 88 #[.slice B ps.length cap] w fun e w' => e = .returned (.int .i64 (lenZ (whole ps).length)) ∧ w = w' := by
  have HP := Lib.hid hp
  clear hp
  go_enter Try.func88, Try.ntmps88
  go_wp2
  go_loop [3, 8] (fun v i => LenRel ps v i) (fun _ i => ps.length - (intOf i).toNat)
  case atStart => exact ⟨0, Nat.zero_le _, rfl, by simp [joined_zero], by simp [joined_zero]⟩
  case round =>
    obtain ⟨t, ht, rfl, rfl, hj⟩ := hrel
    by_cases hlt : t < ps.length
    · obtain ⟨b, o, rfl, _, _, hc⟩ := HP.out (by omega)
      obtain ⟨A, k, h3, _, h5⟩ := hc t hlt
      clear hc
      have HS := Lib.hid (joined_len_succ ps t hlt)
      have HL := Lib.hid (joined_succ_le ps t hlt)
      by_cases hgt : (65536 : Int) - (joined ps t).length < (part ps t).length
      · go_wp2
        go_ret
        have := HL.out
        exact ⟨ret_int (by unfold lenZ; rw [if_neg (by omega)]; rfl), rfl⟩
      · have hgt' : decide ((65536 : Int) - (joined ps t).length < (part ps t).length) = false := by simpa using hgt
        go_wp2
        go_round
        case rel => exact ⟨t + 1, by omega, by go_num, by rw [HS.out]; go_num, by rw [HS.out]; omega⟩
        case measure => simp [intOf]; omega
    · go_wp2
      go_ret
      obtain rfl : t = ps.length := by omega
      rw [joined_all] at hj
      exact ⟨ret_int (by unfold lenZ; rw [if_pos hj, joined_all]), rfl⟩

/-- the bytes of the parts, one after the other -/
def bytesOf (ps : List (List Int)) (j : Nat) : Int := (whole ps).getD j 0

def WriteRel (m n a : Nat) (f : Nat → Int) (ps : List (List Int)) (w1 : World) (v i : Value) (wr : World) : Prop :=
  ∃ (t : Nat) (A : Option Addr) (j : Nat), t ≤ ps.length ∧ i = .int .i64 t ∧ v = .slice A ((whole ps).length - (joined ps t).length) j ∧
    (0 < (whole ps).length - (joined ps t).length → A = some ⟨m, a + (joined ps t).length, none⟩) ∧ (whole ps).length - (joined ps t).length ≤ j ∧ j ≤ 9223372036854775807 ∧
    Row wr m n (upd f a (joined ps t).length (bytesOf ps)) ∧ Only m m w1 wr

theorem add_at (m x y : Nat) : (⟨m, x, none⟩ : Addr).add y = ⟨m, x + y, none⟩ := by
  unfold Addr.add; split
  · next h => subst h; rfl
  · rfl

theorem write_step {m n a t j : Nat} {f : Nat → Int} {ps : List (List Int)} {w1 w2 : World} {A : Option Addr} (hlt : t < ps.length) (hj : (whole ps).length - (joined ps t).length ≤ j) (hj2 : j ≤ 9223372036854775807)
    (hA : 0 < (whole ps).length - (joined ps t).length → A = some ⟨m, a + (joined ps t).length, none⟩)
    (hr : Row w2 m n (upd (upd f a (joined ps t).length (bytesOf ps)) (a + (joined ps t).length) (part ps t).length fun j => (part ps t)[j]?.getD 0)) (hw : Only m m w1 w2) :
    WriteRel m n a f ps w1 (.slice (if j = (part ps t).length then A else Option.map (fun x => x.add (part ps t).length) A) ((whole ps).length - (joined ps t).length - (part ps t).length) (j - (part ps t).length)) (.int .i64 ((t : Int) + 1)) w2 := by
  have hS := joined_len_succ ps t hlt
  have hL := joined_succ_le ps t hlt
  refine ⟨t + 1, _, _, by omega, by simp, by rw [hS, Nat.sub_sub], fun h0 => ?_, by omega, by omega, ?_, hw⟩
  · rw [hS] at h0 ⊢
    rw [if_neg (by omega), hA (by omega)]
    simp only [Option.map_some, add_at, Nat.add_assoc]
  · rw [hS]
    refine hr.congr fun i _ => ?_
    rw [upd_upd f a _ _ (bytesOf ps) _ (bytesOf ps) (fun _ _ => rfl) (fun i hi => by unfold bytesOf; rw [joined_at ps t i hlt hi, List.getD_eq_getElem?_getD])]

set_option maxHeartbeats 1600000 in
theorem write_ok (p m n a : Nat) (c : Int) (f : Nat → Int) (B : Option Addr) (cap : Nat) (ps : List (List Int)) (w : World) (h : Ar X w p m n c f) (hp : Parts w p m B ps) (hl : ps.length ≤ 9223372036854775807)
    (hk : a + (whole ps).length ≤ n) (hn : n ≤ 65536) (hc0 : 0 ≤ c) (hc1 : c ≤ 1000000000000) :
    Calls Try.prog 83 #[.pointer (some ⟨p, 0, none⟩), .int .i64 (a : Int), .slice B ps.length cap] w (Wrote X p m n (c + (whole ps).length) (upd f a (whole ps).length (bytesOf ps)) w) := by
  have e1 : lenZ (whole ps).length = (whole ps).length := by unfold lenZ; rw [if_pos (by omega)]
  have HL := Lib.hid (length_any p m B cap ps w hp hl)
  rw [e1] at HL
  clear e1
  have HO := Lib.hid (open_okv p m n a (whole ps).length c f w h hk hn hc0 hc1)
  have HP := Lib.hid hp
  clear h hp
  go_enter Try.func83, Try.ntmps83
  go_wp2_with fail
  refine HL.out.mono ?_
  rintro e w1 ⟨rfl, rfl⟩
  go_wp2_with fail
  refine HO.out.mono ?_
  rintro e w1 ⟨A, j, hA, hj, hj2, rfl, ha, ho⟩
  have HP1 := Lib.hid (HP.out.only ho (.inl rfl) (.inl rfl))
  have HA := Lib.hid hA
  clear hA
  go_wp2
  go_loopw [7, 24] (fun v i wr => WriteRel m n a f ps w1 v i wr) (fun _ i _ => ps.length - (intOf i).toNat)
  case atStart => exact ⟨0, A, j, Nat.zero_le _, rfl, by simp [joined_zero], by simpa [joined_zero] using HA.out, by omega, hj2, by rw [joined_zero]; simp only [List.length_nil, upd_zero]; exact ha.row, Only.refl _ _ _⟩
  case round =>
    obtain ⟨t, A', j', ht, rfl, rfl, hA', hj', hj2', hr, hw⟩ := hrel
    have HA' := Lib.hid hA'
    clear hA'
    by_cases hlt : t < ps.length
    · obtain ⟨b, o, rfl, hb1, hb2, hc⟩ := HP1.out (by omega)
      obtain ⟨A2, k2, h3, h4, h5⟩ := hc t hlt
      clear hc
      have HS := Lib.hid (joined_len_succ ps t hlt)
      have hL := joined_succ_le ps t hlt
      have h3' : wr.cell? ⟨b, o + t, none⟩ = some (.slice A2 (part ps t).length k2) := by
        rw [hw.cell (q := ⟨b, o + t, none⟩) (block_lt_of_cell h3) hb2 hb2]; exact h3
      have HSr := Lib.hid (h4.only hw (.inr (.inl rfl)) (.inr (.inl rfl)))
      clear h3 h4
      go_wp2_with (with_reducible refine wpList_copy_bytes rfl _ _ _ _ rfl Try.underlying31 size5 _ _ _ _ _ _ rfl rfl m (a + (joined ps t).length) n p (upd f a (joined ps t).length (bytesOf ps)) (fun j => (part ps t).getD j 0) hr (by omega) HA'.out (by omega) HSr.out ?c1)
      case c1 =>
        intro w2 hr2 hw2 _
        have HR2 := Lib.hid hr2
        clear hr2
        go_wp2
        go_roundw
        case rel => exact write_step hlt hj' hj2' HA'.out HR2.out (hw.trans hw2)
        case measure => simp [intOf]; omega
    · go_wp2
      go_ret
      obtain rfl : t = ps.length := by omega
      rw [joined_all] at hr
      exact ⟨rfl, ha.bytes hw hr, ho.wide.trans hw.wide'⟩

end Go.Proofs.Ytneimdjgbblaoaa.R
