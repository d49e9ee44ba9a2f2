/- Contracts with their results as letters; and known. -/
import Derived.Test.YtklchhbkeoaloaaConD
namespace Go.Proofs.Ytklchhbkeoaloaa
open Go.RowKit

theorem add_to (p : Nat) (b : Bool) (L L' : List It) (c : Int) (w : World) (hl : Ln w p 42 b L) (hg : Good b L) (id pri : Int) (hC : addC L id pri = c) (hL : addL b L id pri = L') :
    Calls Try.prog 12 #[.pointer (some ⟨p, 0, none⟩), .int .i64 id, .int .i64 pri] w fun e w' => e = .returned (.int .i64 c) ∧ Ln w' p 42 b L' ∧ Only p w w' := by
  subst hC hL; exact add_any p b L w hl hg id pri
theorem change_to (p : Nat) (b : Bool) (L L' : List It) (c : Bool) (w : World) (hl : Ln w p 42 b L) (hg : Good b L) (id pri : Int) (hC : chgOk L id pri = c) (hL : chgL b L id pri = L') :
    Calls Try.prog 16 #[.pointer (some ⟨p, 0, none⟩), .int .i64 id, .int .i64 pri] w fun e w' => e = .returned (.bool c) ∧ Ln w' p 42 b L' ∧ Only p w w' := by
  subst hC hL; exact change_any p b L w hl hg id pri
theorem remove_to (p T : Nat) (b : Bool) (L L' : List It) (c : Bool) (w : World) (hl : Ln w p T b L) (hn : L.length ≤ 16) (id : Int) (hC : decide (pos L id < L.length) = c) (hL : L.eraseIdx (pos L id) = L') :
    Calls Try.prog 14 #[.pointer (some ⟨p, 0, none⟩), .int .i64 id] w fun e w' => e = .returned (.bool c) ∧ Ln w' p T b L' ∧ Only p w w' := by
  subst hC hL; exact remove_any p T b L w hl hn id

set_option maxHeartbeats 1600000 in
theorem known_ok (w : World) : Calls Try.prog 10 #[] w fun e w' => e = .returned (.bool true) ∧ Below w.heap.size w w' := by
  have G0 := Lib.hid (good_nil true)
  have G1 := Lib.hid (show Good true [(1, 5)] from G0.out.addL 1 5)
  have G2 := Lib.hid (show Good true [(2, 3), (1, 5)] from G1.out.addL 2 3)
  have G3 := Lib.hid (show Good true [(1, 2), (2, 3)] from G2.out.chgL 1 2)
  go_enter Try.func10, Try.ntmps10
  go_wp2_with fail
  refine (new_ok true w).mono ?_
  rintro e w1 ⟨p, hp, rfl, hl1, hb1⟩
  go_wp2_with fail
  refine (add_to p true [] [(1, 5)] 0 w1 hl1 G0.out 1 5 (by decide) (by decide)).mono ?_
  rintro e w2 ⟨rfl, hl2, ho2⟩
  have hb2 := hb1.trans (ho2.below hb1.size hp)
  clear hl1 hb1 ho2
  go_wp2_with fail
  refine (add_to p true [(1, 5)] [(2, 3), (1, 5)] 0 w2 hl2 G1.out 2 3 (by decide) (by decide)).mono ?_
  rintro e w3 ⟨rfl, hl3, ho3⟩
  have hb3 := hb2.trans (ho3.below hb2.size hp)
  clear hl2 hb2 ho3
  go_wp2_with fail
  refine (add_to p true [(2, 3), (1, 5)] [(2, 3), (1, 5)] (-41) w3 hl3 G2.out 1 1 (by decide) (by decide)).mono ?_
  rintro e w4 ⟨rfl, hl4, ho4⟩
  have hb4 := hb3.trans (ho4.below hb3.size hp)
  clear hl3 hb3 ho4
  go_wp2_with fail
  refine (first_some p 42 true (2, 3) [(1, 5)] w4 hl4).mono ?_
  rintro e w5 ⟨rfl, hk5⟩
  have hl5 := hl4.below hk5
  have hb5 := hb4.trans (hk5.mono hb4.size)
  clear hl4 hb4 hk5
  have hl6 := hl5.alloc (.cells #[.int .i64 2, .int .i64 3] 37)
  have hb6 := hb5.alloc hb5.size (.cells #[.int .i64 2, .int .i64 3] 37)
  have hx6 := box_new w5 37 (.int .i64 2) (.int .i64 3)
  go_wp2_with fail
  generalize w5.alloc (.cells #[.int .i64 2, .int .i64 3] 37) = w6 at *
  have hgp : w5.heap.size ≠ p := by have := hl5.lt; omega
  generalize w5.heap.size = g at *
  clear hl5 hb5
  refine (pri_some p 42 true [(2, 3), (1, 5)] w6 hl6 (by decide) 1 5 (by decide) (by decide)).mono ?_
  rintro e w7 ⟨rfl, hk7⟩
  have hl7 := hl6.below hk7
  have hb7 := hb6.trans (hk7.mono hb6.size)
  have hx7 := hx6.below hk7
  clear hl6 hb6 hx6 hk7
  go_wp2_with fail
  refine (change_to p true [(2, 3), (1, 5)] [(1, 2), (2, 3)] true w7 hl7 G2.out 1 2 (by decide) (by decide)).mono ?_
  rintro e w8 ⟨rfl, hl8, ho8⟩
  have hb8 := hb7.trans (ho8.below hb7.size hp)
  have hx8 := hx7.only ho8 hgp
  clear hl7 hb7 hx7 ho8
  go_wp2_with fail
  refine (take_some p true (1, 2) [(2, 3)] w8 hl8 (by decide)).mono ?_
  rintro e w9 ⟨rfl, hl9, ho9⟩
  have hb9 := hb8.trans (ho9.below hb8.size hp)
  have hx9 := hx8.only ho9 hgp
  clear hl8 hb8 hx8 ho9
  have hlA := hl9.alloc (.cells #[.int .i64 1, .int .i64 2] 37)
  have hbA := hb9.alloc hb9.size (.cells #[.int .i64 1, .int .i64 2] 37)
  have hxA := hx9.alloc (.cells #[.int .i64 1, .int .i64 2] 37)
  have hyA := box_new w9 37 (.int .i64 1) (.int .i64 2)
  have c0 := hxA.c0
  have c1 := hyA.c0
  have c2 := hyA.c1
  go_wp2_with fail
  generalize w9.alloc (.cells #[.int .i64 1, .int .i64 2] 37) = wA at *
  refine (len_ok p 42 true [(2, 3)] wA hlA).mono ?_
  rintro e wB ⟨rfl, rfl⟩
  go_wp2_with fail
  refine (has_any p 42 true [(2, 3)] wA hlA (by decide) 2 true (by decide)).mono ?_
  rintro e wC ⟨rfl, hkC⟩
  have hlC := hlA.below hkC
  have hbC := hbA.trans (hkC.mono hbA.size)
  go_wp2_with fail
  refine (has_any p 42 true [(2, 3)] wC hlC (by decide) 1 false (by decide)).mono ?_
  rintro e wD ⟨rfl, hkD⟩
  have hbD := hbC.trans (hkD.mono hbC.size)
  go_wp2
  go_ret
  exact ⟨rfl, hbD⟩
end Go.Proofs.Ytklchhbkeoaloaa
