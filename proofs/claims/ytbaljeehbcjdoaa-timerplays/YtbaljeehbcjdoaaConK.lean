/- The laws' own words: known; rows of numbers read; what laws are told of timers. -/
import Derived.Test.YtbaljeehbcjdoaaConF
namespace Go.Proofs.Ytbaljeehbcjdoaa
open Go.RowKit

/-- numbers of a row of one's own -/
theorem own_int {w : World} {B n k : Nat} {X : Option Addr} {L : List Int} (h : w.ownsRow B 3 1 (.slice X n k) n (vals ci L)) (hn : L.length = n) (h0 : 0 < n) :
    ∃ b : Nat, X = some ⟨b, 0, none⟩ ∧ B ≤ b ∧ n ≤ k ∧ ∀ (j : Nat) (x : Int), L[j]? = some x → w.cell? ⟨b, j, none⟩ = some (.int .i64 x) := by
  subst hn
  rcases h.2 with ⟨_, h2⟩ | ⟨g, cap, cur, h1, hB, hh, hc, _, _, ht⟩
  · omega
  · injection h1 with e1 _ e2
    subst e2
    refine ⟨g, e1, hB, hc, fun j x hx => ?_⟩
    have hj := (List.getElem?_eq_some_iff.1 hx).1
    have hg := vals_get ci_len L j 0 x (by omega) hx
    rw [Nat.mul_one, Nat.add_zero] at hg
    rw [cell_of_row w g j cur 3 (0, 0) hh, ← Array.getElem?_toList]
    have : cur.toList[j]? = (cur.toList.take (L.length * 1))[j]? := by rw [List.getElem?_take, if_pos (by omega)]
    rw [this, ht, hg]; rfl

theorem insert_at (w : World) (B p g : Nat) (S : List En) (last : Int) (h : Tm w B p g S last) (hl : S.length < 256) (hla : last < 4611686018427387904) (a q l1 : Int) (hl1 : last + 1 = l1) (S1 : List En) (hS1 : ins (a, l1, q) S = S1) :
    Calls Try.prog 11 #[.pointer (some ⟨p, 0, none⟩), .int .u64 a, .int .i64 q] w fun e w' => e = .returned (.tuple #[.int .i64 l1, .int .i64 0]) ∧ (∃ g', Tm w' B p g' S1 l1) ∧ Below B w w' := by
  subst hl1 hS1
  refine (insert_ok w B p g S last h hl hla a q).mono ?_
  rintro e w' ⟨rfl, ht, hf⟩
  exact ⟨rfl, ht, hf.below h.le⟩

theorem due_at (w : World) (B p g : Nat) (S : List En) (last : Int) (h : Tm w B p g S last) (now : Int) (n : Nat) (D S1 : List En) (hD : due S now = D) (hn : D.length = n) (hS1 : rst S now = S1) :
    Calls Try.prog 16 #[.pointer (some ⟨p, 0, none⟩), .int .u64 now] w fun e w' => ∃ X k, e = .returned (.slice X n k) ∧ w'.ownsRow B 3 1 (.slice X n k) n (vals ci (args D)) ∧ Tm w' B p g S1 last ∧ Below B w w' := by
  subst hD hS1
  refine (due_any w B p g S last h now n hn).mono ?_
  rintro e w' ⟨X, k, rfl, h1, h2, h3⟩
  exact ⟨X, k, rfl, own_base h1 h.le, h2, h.bel h3⟩

theorem cancel_at (w : World) (B p g : Nat) (S : List En) (last : Int) (h : Tm w B p g S last) (hd : Int) (b : Bool) (hb : (fnd S hd).isSome = b) (S1 : List En) (hS1 : del S hd = S1) :
    Calls Try.prog 13 #[.pointer (some ⟨p, 0, none⟩), .int .i64 hd] w fun e w' => e = .returned (.bool b) ∧ Tm w' B p g S1 last ∧ Below B w w' := by
  subst hS1
  refine (cancel_any w B p g S last h hd b hb).mono ?_
  rintro e w' ⟨rfl, h2, h3⟩
  exact ⟨rfl, h2, h.bel h3⟩

set_option maxHeartbeats 1600000 in
theorem known_any (w : World) : Calls Try.prog 9 #[] w fun e w' => e = .returned (.bool true) ∧ Below w.heap.size w w' := by
  have HB : Hid (∀ a b c : World, Below w.heap.size a b → Below w.heap.size b c → Below w.heap.size a c) := fun _ _ _ h k => h.trans k
  go_enter Try.func9, Try.ntmps9
  go_wp2_with fail
  refine (new_any w w.heap.size (Nat.le_refl _)).mono ?_
  rintro e w1 ⟨p, rfl, ht, hb1, _⟩
  go_wp2_with fail
  refine (insert_at w1 w.heap.size p p [] 0 ht (by decide) (by decide) 5 50 1 (by decide) [(5, 1, 50)] (by decide)).mono ?_
  rintro e w2 ⟨rfl, ⟨g, ht⟩, hb2⟩
  replace hb1 := HB.out _ _ _ hb1 hb2
  go_wp2_with fail
  refine (insert_at w2 w.heap.size p g _ 1 ht (by decide) (by decide) 3 30 2 (by decide) [(3, 2, 30), (5, 1, 50)] (by decide)).mono ?_
  rintro e w3 ⟨rfl, ⟨g, ht⟩, hb2⟩
  replace hb1 := HB.out _ _ _ hb1 hb2
  go_wp2_with fail
  refine (insert_at w3 w.heap.size p g _ 2 ht (by decide) (by decide) 5 51 3 (by decide) [(3, 2, 30), (5, 1, 50), (5, 3, 51)] (by decide)).mono ?_
  rintro e w4 ⟨rfl, ⟨g, ht⟩, hb2⟩
  replace hb1 := HB.out _ _ _ hb1 hb2
  go_wp2_with fail
  refine (next_some w4 w.heap.size p g _ _ 3 ht).mono ?_
  rintro e w5 ⟨rfl, rfl⟩
  go_wp2_with fail
  refine (left_some w4 w.heap.size p g _ 3 ht 1 2 (5, 1, 50) (by decide) 3 (by kernel_rfl)).mono ?_
  rintro e w5 ⟨rfl, hb2⟩
  replace ht := ht.below hb2
  replace hb1 := HB.out _ _ _ hb1 (hb2.mono hb1.size)
  go_wp2_with fail
  refine (cancel_at w5 w.heap.size p g _ 3 ht 2 true (by decide) [(5, 1, 50), (5, 3, 51)] (by decide)).mono ?_
  rintro e w6 ⟨rfl, ht, hb2⟩
  replace hb1 := HB.out _ _ _ hb1 hb2
  go_wp2_with fail
  refine (due_at w6 w.heap.size p g _ 3 ht 5 2 [(5, 1, 50), (5, 3, 51)] [] (by decide) rfl (by decide)).mono ?_
  rintro e w7 ⟨X, k, rfl, hown, ht, hb2⟩
  replace hb1 := HB.out _ _ _ hb1 hb2
  obtain ⟨b, rfl, _, _, hc⟩ := own_int hown rfl (by omega)
  have d0 := hc 0 50 rfl
  have d1 := hc 1 51 rfl
  have HL := Lib.hid (len_any w7 w.heap.size p g [] 3 ht 0 rfl)
  clear hc hown ht hb2
  go_wp2_with fail
  refine HL.out.mono ?_
  rintro e w8 ⟨rfl, rfl⟩
  clear HL
  go_wp2
  go_ret
  exact ⟨rfl, hb1⟩
end Go.Proofs.Ytbaljeehbcjdoaa
