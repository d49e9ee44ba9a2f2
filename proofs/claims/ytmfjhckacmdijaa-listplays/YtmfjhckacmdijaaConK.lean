/- Contracts of the laws' own helpers: known. -/
import Derived.Test.YtmfjhckacmdijaaConF
namespace Go.Proofs.Ytmfjhckacmdijaa
open Go.RowKit

theorem inn1 (R : Nat → List Nat) (x : Nat) : Inn 1 R x ↔ x ∈ R 0 :=
  ⟨fun ⟨h, hh, hm⟩ => by obtain rfl : h = 0 := by omega
                         exact hm, fun h => ⟨0, by omega, h⟩⟩
theorem inn2 (R : Nat → List Nat) (x : Nat) : Inn 2 R x ↔ x ∈ R 0 ∨ x ∈ R 1 := by
  constructor
  · rintro ⟨h, hh, hm⟩
    rcases (show h = 0 ∨ h = 1 by omega) with rfl | rfl
    · exact .inl hm
    · exact .inr hm
  · rintro (h | h)
    · exact ⟨0, by omega, h⟩
    · exact ⟨1, by omega, h⟩

theorem nd_two (w : World) (m : Nat) (x y : Int) (hm : m < w.heap.size) : Nd (w.alloc (.cells #[.int .i64 x, .int .i64 y] 3)) m (some ⟨w.heap.size, 0, none⟩) [x, y] := by
  intro _
  refine ⟨w.heap.size, 0, rfl, by omega, fun j hj => ?_⟩
  rw [cell_of_row _ w.heap.size _ _ 3 (0, 0) (heap_alloc_new w _)]
  have : j = 0 ∨ j = 1 := by simp at hj; omega
  rcases this with rfl | rfl <;> rfl

set_option maxHeartbeats 1600000 in
theorem known_any (w : World) : Calls Try.prog 9 #[] w fun e w' => e = .returned (.bool true) ∧ Below w.heap.size w w' := by
  go_enter Try.func9, Try.ntmps9
  go_wp2_with fail
  refine (new_ok 5 2 (by omega) (by omega) (by omega) (by omega) w).mono ?_
  rintro e w1 ⟨p, m, hp, hm, rfl, hl1, hb1⟩
  have HB1 := Lib.hid hb1
  clear hb1
  have hl2 := hl1.alloc (.cells #[.int .i64 3, .int .i64 1] 3)
  have HB2 := Lib.hid (HB1.out.alloc HB1.out.size (.cells #[.int .i64 3, .int .i64 1] 3))
  have hk2 : AddOk 5 2 (fun _ => []) ((0 : Nat) : Int) [3, 1] := ⟨by simp, by simp, fun n hn => by rw [inn2]; simp, by simp⟩
  have HK2 := Lib.hid (back_ok p m 5 2 0 (some ⟨w1.heap.size, 0, none⟩) 2 [3, 1] (fun _ => []) _ hl2 (by omega) (by omega) (nd_two w1 m 3 1 hl1.ltm) (by simp) hk2)
  simp only [List.length_cons, List.length_nil, Nat.zero_add, Nat.reduceAdd] at HK2
  clear HB1 hk2 hl2
  go_wp2_with fail
  refine HK2.out.mono ?_
  rintro e w3 ⟨rfl, hl3, ho3⟩
  have HB3 := Lib.hid (HB2.out.trans (ho3.below HB2.out.size hm hm))
  clear HB2 hl1 ho3 HK2
  have HK4 := Lib.hid (before_ok p m 5 2 4 1 0 _ w3 hl3 (by omega) (by omega) [3] [] rfl (by rw [inn2]; simp [setR]))
  clear hl3
  go_wp2_with fail
  refine HK4.out.mono ?_
  rintro e w4 ⟨rfl, hl4, ho4⟩
  have HB4 := Lib.hid (HB3.out.trans (ho4.below HB3.out.size hm hm))
  clear HB3 ho4 HK4
  rw [setR_setR] at hl4
  obtain ⟨R, hR⟩ : ∃ R, R = setR (fun _ => []) 0 ([3] ++ [4, 1]) := ⟨_, rfl⟩
  have hR0 : R 0 = [3, 4, 1] := by rw [hR]; rfl
  have hl5 : Lst w4 p m 5 2 R := by rw [hR]; exact hl4
  have HR0 := Lib.hid hR0
  clear hR hR0 hl4
  go_wp2_with fail
  refine (next_row p m 5 2 0 3 R w4 hl5 (by omega) [] [4, 1] HR0.out).mono ?_
  rintro e w5 ⟨rfl, rfl⟩
  rw [hdv_cons, nev_cons]
  go_wp2_with fail
  refine (of_row p m 5 2 0 1 R w4 hl5 (by omega) (by rw [HR0.out]; simp)).mono ?_
  rintro e w5 ⟨rfl, rfl⟩
  have hl6 := hl5.alloc (.cells #[.int .i64 3] 3)
  have HB6 := Lib.hid (HB4.out.alloc HB4.out.size (.cells #[.int .i64 3] 3))
  have HK6 := Lib.hid (back_bad p m 5 2 1 (some ⟨w4.heap.size, 0, none⟩) 1 [3] R _ hl6 (by omega) (by omega) (nd_one w4 m 3 hl5.ltm) (by simp) (-41) (.inr (.inr (.inl ⟨by omega, by simp, .inl ⟨3, by simp, by rw [inn2, HR0.out]; simp⟩, rfl⟩))) rfl)
  simp only [List.length_cons, List.length_nil, Nat.zero_add] at HK6
  clear HB4 hl5 hl6
  go_wp2_with fail
  refine HK6.out.mono ?_
  rintro e w7 ⟨rfl, hl7, ho7⟩
  have HB7 := Lib.hid (HB6.out.trans (ho7.below HB6.out.size hm hm))
  clear HB6 ho7 HK6
  have HL7 := Lib.hid (len_row p m 5 2 0 R w7 hl7 (by omega) (by omega) (by omega))
  rw [HR0.out] at HL7
  go_wp2_with fail
  refine HL7.out.mono ?_
  rintro e w8 ⟨rfl, n, rfl⟩
  have HL8 := Lib.hid (row_row p m 5 2 0 R (w7.drewN n) (hl7.drewN n) (by omega) (by omega) (by omega))
  rw [HR0.out] at HL8
  have HB8 : Hid (Below w.heap.size w (w7.drewN n)) := ⟨HB7.out.os, HB7.out.tape, HB7.out.output, HB7.out.size, HB7.out.block⟩
  clear HL7 HB7
  go_wp2_with fail
  refine HL8.out.mono ?_
  rintro e w9 ⟨A, k, rfl, hk1, hk2, hnd, hb9⟩
  go_wp2
  go_ret
  exact ⟨rfl, HB8.out.trans (hb9.mono HB8.out.size)⟩
end Go.Proofs.Ytmfjhckacmdijaa
