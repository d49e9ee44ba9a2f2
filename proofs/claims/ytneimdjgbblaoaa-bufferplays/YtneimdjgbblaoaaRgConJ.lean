/- A ring as a whole: New, Twin, Len, Free, Fits, Size. -/
import Derived.Test.YtneimdjgbblaoaaRgConI
namespace Go.Proofs.Ytneimdjgbblaoaa.R
open Go.RowKit
set_option maxRecDepth 100000

theorem Rg.ltp {w : World} {p m N : Nat} {c : Int} {L : List (List Int)} (h : Rg w p m N c L) : p < w.heap.size := by obtain ⟨F, f, ha, _⟩ := h; exact ha.ltp
theorem Rg.ltm {w : World} {p m N : Nat} {c : Int} {L : List (List Int)} (h : Rg w p m N c L) : m < w.heap.size := by obtain ⟨F, f, ha, _⟩ := h; exact ha.ltm
theorem Rg.ne {w : World} {p m N : Nat} {c : Int} {L : List (List Int)} (h : Rg w p m N c L) : p ≠ m := by obtain ⟨F, f, ha, _⟩ := h; exact ha.ne
theorem Rg.only {w w' : World} {p m N q r : Nat} {c : Int} {L : List (List Int)} (h : Rg w p m N c L) (k : Only q r w w') (h1 : p ≠ q) (h2 : p ≠ r) (h3 : m ≠ q) (h4 : m ≠ r) : Rg w' p m N c L := by
  obtain ⟨F, f, ha, hg⟩ := h; exact ⟨F, f, ha.only k h1 h2 h3 h4, hg⟩
theorem Rg.below {w w' : World} {p m N : Nat} {c : Int} {L : List (List Int)} (h : Rg w p m N c L) (k : Below w.heap.size w w') : Rg w' p m N c L := by
  obtain ⟨F, f, ha, hg⟩ := h; exact ⟨F, f, ha.below k ha.ltp ha.ltm, hg⟩
theorem Rg.alloc {w : World} {p m N : Nat} {c : Int} {L : List (List Int)} (h : Rg w p m N c L) (o : Obj) : Rg (w.alloc o) p m N c L := by
  obtain ⟨F, f, ha, hg⟩ := h; exact ⟨F, f, ha.alloc o, hg⟩
theorem Rg.drewN {w : World} {p m N : Nat} {c : Int} {L : List (List Int)} (h : Rg w p m N c L) (n : Nat) : Rg (w.drewN n) p m N c L := h
theorem Rg.drew {w : World} {p m N : Nat} {c : Int} {L : List (List Int)} (h : Rg w p m N c L) : Rg w.drew p m N c L := h
theorem Rg.fit {w : World} {p m N : Nat} {c : Int} {L : List (List Int)} (h : Rg w p m N c L) : tot L ≤ N := by obtain ⟨F, f, _, hg⟩ := h; exact hg.fit
theorem Rg.four {w : World} {p m N : Nat} {c : Int} {L : List (List Int)} (h : Rg w p m N c L) : N % 4 = 0 := by obtain ⟨F, f, _, hg⟩ := h; exact hg.n4

theorem glen_any {w : World} {p m N : Nat} {c : Int} {L : List (List Int)} (h : Rg w p m N c L) : Calls Try.prog 26 #[.pointer (some ⟨p, 0, none⟩)] w fun e w' => e = .returned (.int .i64 L.length) ∧ w = w' := by
  obtain ⟨F, f, ha, _⟩ := h; exact len_any p m N F _ _ c f w ha
theorem gsize_any {w : World} {p m N : Nat} {c : Int} {L : List (List Int)} (h : Rg w p m N c L) : Calls Try.prog 59 #[.pointer (some ⟨p, 0, none⟩)] w fun e w' => e = .returned (.int .i64 N) ∧ w = w' := by
  obtain ⟨F, f, ha, _⟩ := h; exact rsize_any p m N c f w ha
theorem gfree_any {w : World} {p m N : Nat} {c : Int} {L : List (List Int)} (h : Rg w p m N c L) (hN : N ≤ 65536) : Calls Try.prog 27 #[.pointer (some ⟨p, 0, none⟩)] w fun e w' => e = .returned (.int .i64 ((N : Int) - (tot L : Int))) ∧ ∃ d, w' = w.drewN d := by
  obtain ⟨F, f, ha, hg⟩ := h; exact free_any p m N F _ _ c f w ha hg.fit hN
theorem gfits_any {w : World} {p m N : Nat} {c : Int} {L : List (List Int)} (h : Rg w p m N c L) (hN : N ≤ 65536) (z : Int) : Calls Try.prog 66 #[.pointer (some ⟨p, 0, none⟩), .int .i64 z] w fun e w' => e = .returned (.bool (fits N (tot L) z)) ∧ ∃ d, w' = w.drewN d := by
  obtain ⟨F, f, ha, hg⟩ := h; exact fits_any p m N F _ _ c f w ha hg.fit hN z _ rfl

theorem tmod4 (z : Int) : z.tmod 4 = 0 ↔ z % 4 = 0 := by
  constructor
  · intro h; exact Int.emod_eq_zero_of_dvd (Int.dvd_of_tmod_eq_zero h)
  · intro h; exact Int.tmod_eq_zero_of_dvd (Int.dvd_of_emod_eq_zero h)

def NewPost (N : Nat) (w : World) (e : Ending) (w' : World) : Prop :=
  ∃ p m : Nat, w.heap.size ≤ p ∧ w.heap.size ≤ m ∧ e = .returned (.tuple #[.pointer (some ⟨p, 0, none⟩), .int .i64 0]) ∧ Rg w' p m N 0 [] ∧ Below w.heap.size w w'

set_option maxHeartbeats 400000 in
theorem gnew_ok (N : Nat) (hN : N ≤ 65536) (h4 : N % 4 = 0) (z : Int) (hz : z = N) (w : World) : Calls Try.prog 32 #[.int .i64 z] w (NewPost N w) := by
  subst hz
  have t1 : ((N : Int) % 4 != 0) = false := by simp; omega
  have t2 : ((N : Int) % 4 == 0) = true := by simp; omega
  have H4 := Lib.hid h4
  clear h4
  go_enter Try.func32, Try.ntmps32
  go_wp2_with fail
  refine (new_ok N hN w).mono ?_
  rintro e w1 ⟨p, m, hp, hm, rfl, ha, hb⟩
  obtain ⟨k, c0, c1, _, hk1, hk2⟩ := ha.cells
  have HA := Lib.hid ha
  have HB := Lib.hid hb
  clear ha hb
  go_wp2
  go_ret2
  refine ⟨w1.heap.size, m, HB.out.size, hm, rfl, ⟨0, fun _ => 0, ⟨by decide, ⟨k, heap_alloc_new _ _, hk1, hk2⟩, HA.out.row.alloc _⟩, good_new N H4.out _⟩, HB.out.alloc HB.out.size _⟩

set_option maxHeartbeats 400000 in
theorem gnew_bad (z : Int) (h0 : -9223372036854775808 ≤ z) (h1 : z ≤ 9223372036854775807) (hz : z < 0 ∨ 65536 < z ∨ z % 4 ≠ 0) (w : World) : Calls Try.prog 32 #[.int .i64 z] w fun e w' => e = .returned (.tuple #[.pointer none, .int .i64 (-17)]) ∧ w = w' := by
  by_cases c : z % 4 = 0
  · have t1 : (z.tmod 4 != 0) = false := by simp; exact (tmod4 z).2 c
    have t2 : (z.tmod 4 == 0) = true := by simp; exact (tmod4 z).2 c
    have HN := Lib.hid (new_bad z (by omega) w)
    clear hz c
    go_enter Try.func32, Try.ntmps32
    go_wp2_with fail
    refine HN.out.mono ?_
    rintro e w1 ⟨rfl, rfl⟩
    go_wp2
    go_ret2
    exact ⟨rfl, rfl⟩
  · have t1 : (z.tmod 4 != 0) = true := by simp; exact fun h => c ((tmod4 z).1 h)
    have t2 : (z.tmod 4 == 0) = false := by simp; exact fun h => c ((tmod4 z).1 h)
    clear hz c
    go_enter Try.func32, Try.ntmps32
    go_wp2
    go_ret2
    exact ⟨rfl, rfl⟩

def GTwinPost (N : Nat) (c : Int) (L : List (List Int)) (w : World) (e : Ending) (w' : World) : Prop :=
  ∃ p2 m2 : Nat, w.heap.size ≤ p2 ∧ w.heap.size ≤ m2 ∧ e = .returned (.pointer (some ⟨p2, 0, none⟩)) ∧ Rg w' p2 m2 N c L ∧ Below w.heap.size w w'

set_option maxHeartbeats 800000 in
theorem gtwin_any {w : World} {p m N : Nat} {c : Int} {L : List (List Int)} (h : Rg w p m N c L) (hN : N ≤ 65536) : Calls Try.prog 57 #[.pointer (some ⟨p, 0, none⟩)] w (GTwinPost N c L w) := by
  obtain ⟨F, f, ha, hg⟩ := h
  obtain ⟨k, c0, c1, _, hk1, hk2⟩ := ha.cells
  obtain ⟨c2, _⟩ := ha.field 0 _ rfl
  obtain ⟨c3, _⟩ := ha.field 1 _ rfl
  obtain ⟨c4, _⟩ := ha.field 2 _ rfl
  have HA := Lib.hid ha
  have HG := Lib.hid hg
  have lp := ha.ltp
  clear ha hg
  go_enter Try.func57, Try.ntmps57
  go_wp2_with fail
  refine (twin_any p m N c f _ (HA.out.alloc _) hN).mono ?_
  rintro e w2 ⟨p2, m2, hp2, hm2, rfl, ha2, hb2⟩
  have hw := hb2.size
  have hs : w.heap.size + 1 ≤ w2.heap.size := by simpa using hw
  have hnew := (hb2.block w.heap.size (by simp)).trans (heap_alloc_new w _)
  obtain ⟨k2, d0, d1, _, hk3, hk4⟩ := ha2.cells
  have e0 := cell_of_row w2 w.heap.size 0 _ 113 (0, 0) hnew
  have e1 := cell_of_row w2 w.heap.size 1 _ 113 (0, 0) hnew
  have f0 := frozen_of_row w2 w.heap.size 0 _ 113 hnew
  have f1 := frozen_of_row w2 w.heap.size 1 _ 113 hnew
  have HN := Lib.hid hnew
  have HA2 := Lib.hid ha2
  have hp3 : w.heap.size < p2 := by have : (w.alloc (.cells #[.slice (some ⟨m, 0, none⟩) N k, .int .i64 c, .int .i64 F, .int .i64 (tot L), .int .i64 L.length] 113)).heap.size = w.heap.size + 1 := by simp
                                    omega
  have hm3 : w.heap.size < m2 := by have : (w.alloc (.cells #[.slice (some ⟨m, 0, none⟩) N k, .int .i64 c, .int .i64 F, .int .i64 (tot L), .int .i64 L.length] 113)).heap.size = w.heap.size + 1 := by simp
                                    omega
  have HB := Lib.hid (((Below.refl w.heap.size w).alloc (Nat.le_refl _) (.cells #[.slice (some ⟨m, 0, none⟩) N k, .int .i64 c, .int .i64 F, .int .i64 (tot L), .int .i64 L.length] 113)).trans (hb2.mono (by simp)))
  clear hnew ha2 hb2 hp2 hm2 hw
  generalize hgs : w.heap.size = s at *
  have HGS := Lib.hid hgs
  clear hgs
  go_wp2
  go_ret
  have h1 := heap_setCell_same w2 s 0 _ 113 (.slice (some ⟨m2, 0, none⟩) N k2) HN.out
  have h2 := heap_setCell_same _ s 1 _ 113 (.int .i64 c) h1
  have hb : Below s w ((w2.setCell ⟨s, 0, none⟩ (.slice (some ⟨m2, 0, none⟩) N k2)).setCell ⟨s, 1, none⟩ (.int .i64 c)) :=
    (HB.out.setCell (p := ⟨s, 0, none⟩) (Nat.le_refl _) _).setCell (p := ⟨s, 1, none⟩) (Nat.le_refl _) _
  refine ⟨s, m2, Nat.le_of_eq HGS.out, by have := HGS.out; omega, rfl, ⟨F, f, ⟨(by decide : (113 : TypeId) ≠ 5), ⟨k2, ?_, hk3, hk4⟩, ?_⟩, HG.out⟩, by rw [HGS.out]; exact hb⟩
  · exact h2
  · exact (HA2.out.row.far (q := ⟨s, 0, none⟩) (Nat.ne_of_gt hm3) _).far (q := ⟨s, 1, none⟩) (Nat.ne_of_gt hm3) _
end Go.Proofs.Ytneimdjgbblaoaa.R
