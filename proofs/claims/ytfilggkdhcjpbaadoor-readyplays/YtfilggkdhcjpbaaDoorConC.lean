/- Contracts of package bits: Set, Clear. -/
import Derived.Test.YtfilggkdhcjpbaaDoorConB
namespace Go.Proofs.YtfilggkdhcjpbaaDoor
open Go.RowKit
variable {X : Nat → Int}

/-- behind Set and Clear -/
def Done (p : Nat) (X : Nat → Int) (B : Nat → Bool) (w : World) (e : Ending) (w' : World) : Prop := e = .returned (.tuple #[]) ∧ Mp w' p X B ∧ Only p w w'

theorem take_one {L : List Int} {t : Nat} {x : Int} (h : L[t]? = some x) : L.take (t + 1) = L.take t ++ [x] := by rw [List.take_add_one, h]; rfl

set_option maxRecDepth 100000 in
set_option maxHeartbeats 1000000 in
theorem set_any (p : Nat) (B : Nat → Bool) (a : Option Addr) (L : List Int) (cap n : Nat) (w : World) (hm : Mp w p X B) (hs : Src p w a L) (hn : L.length = n) (hz : n ≤ 9223372036854775807) :
    Calls Tryd.prog 45 #[.pointer (some ⟨p, 0, none⟩), .slice a n cap] w (Done p X (upd B L true) w) := by
  have HL := Lib.hid hn
  have HM := Lib.hid hm
  have HS := Lib.hid hs
  clear hn hm hs
  go_enter Tryd.func45, Tryd.ntmps45
  go_wp2
  go_loopw [8] (fun i wr => ∃ t : Nat, t ≤ n ∧ i = .int .i64 (t : Int) ∧ Mp wr p X (upd B (L.take t) true) ∧ Only p w wr) (fun i _ => n - (intOf i).toNat)
  case atStart => exact ⟨0, Nat.zero_le _, rfl, by rw [List.take_zero, upd_nil]; exact HM.out, Only.refl _ _⟩
  case round =>
    obtain ⟨t, ht, rfl, hm, ho⟩ := hrel
    have HM2 := Lib.hid hm
    have HO := Lib.hid ho
    clear hm ho
    by_cases hlt : t < n
    · have hlt' : (t : Int) < (n : Int) := by omega
      obtain ⟨x, hx⟩ : ∃ x, L[t]? = some x := ⟨_, List.getElem?_eq_getElem (by rw [HL.out]; exact hlt)⟩
      obtain ⟨b, o, rfl, hb1, hb2, hb3⟩ := (HS.out.only HO.out) (by rw [HL.out]; omega)
      have hc := hb3 t x hx
      have HX := Lib.hid (take_one hx)
      clear hb3 hx hb1
      by_cases hpx : 1 ≤ x ∧ x ≤ 256
      · obtain ⟨h1, h2⟩ := hpx
        obtain ⟨h0, f, hw, hr⟩ := HM2.out
        have HP := Lib.hid (permitted_any x wr true (by simp [h1, h2]))
        obtain ⟨j, hj⟩ : ∃ j, (x.toNat - 1) / 64 = j := ⟨_, rfl⟩
        obtain ⟨k, hk⟩ : ∃ k, (x.toNat - 1) % 64 = k := ⟨_, rfl⟩
        have hj4 : j < 4 := by omega
        have hji : (j : Int) < 4 := by omega
        have HW := fun w => Lib.hid (word_any x h1 h2 w j (by omega))
        have HK := fun w => Lib.hid (mask_any x h1 h2 w k (by omega))
        have hcw := hw.at_ hj4
        have hfr := hw.frozen j
        have HR := Lib.hid (rep_set hr h1 h2)
        rw [hj, hk, ← HX.out] at HR
        have HA := Lib.hid (bits_or_u64_nat (f j) (2 ^ k) (hr.lt j hj4) (pow_lt64 k (by omega)))
        have hw2 := Lib.hid (hw.set j (f j ||| 2 ^ k) hj4)
        clear hj hk hr
        have ha := HA.out
        generalize 2 ^ k = m at *
        generalize f j ||| m = z at *
        generalize hy : f j = y at *
        clear hy HA
        go_wp2_with fail
        refine HP.out.mono ?_
        rintro e w' ⟨rfl, rfl⟩
        go_wp2
        go_still_tail 13, (by kernel_rfl)
        still_call (call_sym (HW _).out)
        repeat still_step
        still_call (call_sym (HK _).out)
        repeat still_step
        refine wpStill_nil ?_
        change wpList _ _ _ _ _ wr.drew
        have ho2 := Lib.hid (HO.out.drew.setCell (q := ⟨p, j, none⟩) (.inl rfl) (.int .u64 (z : Int)))
        have hwd : Hid (Wd (wr.drew.setCell ⟨p, j, none⟩ (.int .u64 (z : Int))) p X (fun i => if i = j then z else f i)) := Lib.hid (hw.drew.set j z hj4)
        have hcw2 : wr.drew.cell? ⟨p, j, none⟩ = some (.int .u64 (y : Int)) := hcw
        have hfr2 : wr.drew.frozen? ⟨p, j, none⟩ = false := hfr
        clear hw hcw hfr
        generalize wr.drew = wd at *
        go_wp2
        exact ⟨⟨t + 1, by omega, by go_num, ⟨h0, _, hwd.out, HR.out⟩, ho2.out⟩, by simp [intOf]; omega⟩
      · have HP := Lib.hid (permitted_any x wr false (by simp only [hpx, decide_false]))
        obtain ⟨h0, f, hw, hr⟩ := HM2.out
        have HR := Lib.hid (rep_out (x := x) hr hpx)
        rw [← HX.out] at HR
        clear hr hpx
        go_wp2_with fail
        refine HP.out.mono ?_
        rintro e w' ⟨rfl, rfl⟩
        go_wp2
        exact ⟨⟨t + 1, by omega, by go_num, ⟨h0, _, hw, HR.out⟩, HO.out⟩, by simp [intOf]; omega⟩
    · obtain rfl : t = n := by omega
      have hm := HM2.out
      rw [List.take_of_length_le (by rw [HL.out]; omega)] at hm
      have HM3 := Lib.hid hm
      clear hm
      go_wp2
      go_end0
      exact ⟨rfl, HM3.out, HO.out⟩

set_option maxRecDepth 100000 in
set_option maxHeartbeats 1000000 in
theorem clear_any (p : Nat) (B : Nat → Bool) (a : Option Addr) (L : List Int) (cap n : Nat) (w : World) (hm : Mp w p X B) (hs : Src p w a L) (hn : L.length = n) (hz : n ≤ 9223372036854775807) :
    Calls Tryd.prog 39 #[.pointer (some ⟨p, 0, none⟩), .slice a n cap] w (Done p X (upd B L false) w) := by
  have HL := Lib.hid hn
  have HM := Lib.hid hm
  have HS := Lib.hid hs
  clear hn hm hs
  go_enter Tryd.func39, Tryd.ntmps39
  go_wp2
  go_loopw [8] (fun i wr => ∃ t : Nat, t ≤ n ∧ i = .int .i64 (t : Int) ∧ Mp wr p X (upd B (L.take t) false) ∧ Only p w wr) (fun i _ => n - (intOf i).toNat)
  case atStart => exact ⟨0, Nat.zero_le _, rfl, by rw [List.take_zero, upd_nil]; exact HM.out, Only.refl _ _⟩
  case round =>
    obtain ⟨t, ht, rfl, hm, ho⟩ := hrel
    have HM2 := Lib.hid hm
    have HO := Lib.hid ho
    clear hm ho
    by_cases hlt : t < n
    · have hlt' : (t : Int) < (n : Int) := by omega
      obtain ⟨x, hx⟩ : ∃ x, L[t]? = some x := ⟨_, List.getElem?_eq_getElem (by rw [HL.out]; exact hlt)⟩
      obtain ⟨b, o, rfl, hb1, hb2, hb3⟩ := (HS.out.only HO.out) (by rw [HL.out]; omega)
      have hc := hb3 t x hx
      have HX := Lib.hid (take_one hx)
      clear hb3 hx hb1
      by_cases hpx : 1 ≤ x ∧ x ≤ 256
      · obtain ⟨h1, h2⟩ := hpx
        obtain ⟨h0, f, hw, hr⟩ := HM2.out
        have HP := Lib.hid (permitted_any x wr true (by simp [h1, h2]))
        obtain ⟨j, hj⟩ : ∃ j, (x.toNat - 1) / 64 = j := ⟨_, rfl⟩
        obtain ⟨k, hk⟩ : ∃ k, (x.toNat - 1) % 64 = k := ⟨_, rfl⟩
        have hj4 : j < 4 := by omega
        have hji : (j : Int) < 4 := by omega
        have HW := fun w => Lib.hid (word_any x h1 h2 w j (by omega))
        have HK := fun w => Lib.hid (mask_any x h1 h2 w k (by omega))
        have hcw := hw.at_ hj4
        have hfr := hw.frozen j
        have HR := Lib.hid (rep_clear hr h1 h2)
        rw [hj, hk, ← HX.out] at HR
        have HA := Lib.hid (u64_andNot_nat (f j) (2 ^ k) (hr.lt j hj4) (pow_lt64 k (by omega)))
        have hw2 := Lib.hid (hw.set j (f j &&& (18446744073709551615 - 2 ^ k)) hj4)
        clear hj hk hr
        have ha := HA.out
        generalize 2 ^ k = m at *
        generalize f j &&& (18446744073709551615 - m) = z at *
        generalize hy : f j = y at *
        clear hy HA
        go_wp2_with fail
        refine HP.out.mono ?_
        rintro e w' ⟨rfl, rfl⟩
        go_wp2
        go_still_tail 13, (by kernel_rfl)
        still_call (call_sym (HW _).out)
        repeat still_step
        still_call (call_sym (HK _).out)
        repeat still_step
        refine wpStill_nil ?_
        change wpList _ _ _ _ _ wr.drew
        have ho2 := Lib.hid (HO.out.drew.setCell (q := ⟨p, j, none⟩) (.inl rfl) (.int .u64 (z : Int)))
        have hwd : Hid (Wd (wr.drew.setCell ⟨p, j, none⟩ (.int .u64 (z : Int))) p X (fun i => if i = j then z else f i)) := Lib.hid (hw.drew.set j z hj4)
        have hcw2 : wr.drew.cell? ⟨p, j, none⟩ = some (.int .u64 (y : Int)) := hcw
        have hfr2 : wr.drew.frozen? ⟨p, j, none⟩ = false := hfr
        clear hw hcw hfr
        generalize wr.drew = wd at *
        go_wp2
        exact ⟨⟨t + 1, by omega, by go_num, ⟨h0, _, hwd.out, HR.out⟩, ho2.out⟩, by simp [intOf]; omega⟩
      · have HP := Lib.hid (permitted_any x wr false (by simp only [hpx, decide_false]))
        obtain ⟨h0, f, hw, hr⟩ := HM2.out
        have HR := Lib.hid (rep_out (x := x) hr hpx)
        rw [← HX.out] at HR
        clear hr hpx
        go_wp2_with fail
        refine HP.out.mono ?_
        rintro e w' ⟨rfl, rfl⟩
        go_wp2
        exact ⟨⟨t + 1, by omega, by go_num, ⟨h0, _, hw, HR.out⟩, HO.out⟩, by simp [intOf]; omega⟩
    · obtain rfl : t = n := by omega
      have hm := HM2.out
      rw [List.take_of_length_le (by rw [HL.out]; omega)] at hm
      have HM3 := Lib.hid hm
      clear hm
      go_wp2
      go_end0
      exact ⟨rfl, HM3.out, HO.out⟩
end Go.Proofs.YtfilggkdhcjpbaaDoor
