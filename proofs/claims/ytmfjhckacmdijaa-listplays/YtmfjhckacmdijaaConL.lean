/- Contracts in the laws' own words: one node put behind, a row of known length, rows filled one by one. -/
import Derived.Test.YtmfjhckacmdijaaConK
namespace Go.Proofs.Ytmfjhckacmdijaa
open Go.RowKit

theorem back_one (p m N H h x : Nat) (R : Nat → List Nat) (w : World) (hl : Lst w p m N H R) (hN : N ≤ 1024) (hH : H ≤ 64) (hh : h < H) (hx : x < N) (hi : ¬ Inn H R x) (z : Int) (hz : (x : Int) = z) (y : Int) (hy : (h : Int) = y) :
    Calls Try.prog 12 #[.pointer (some ⟨p, 0, none⟩), .int .i64 y, .slice (some ⟨w.heap.size, 0, none⟩) 1 1] (w.alloc (.cells #[.int .i64 z] 3)) (fun e w' => e = .returned (.int .i64 0) ∧ Lst w' p m N H (setR R h (R h ++ [x])) ∧ Only m m w w') := by
  subst hz
  subst hy
  have hl2 := hl.alloc (.cells #[.int .i64 (x : Int)] 3)
  have hk2 : AddOk N H R (h : Int) [(x : Int)] := ⟨by omega, by simp; omega, fun n hn => by simp at hn; subst hn; simpa using hi, by simp⟩
  refine (back_ok p m N H h (some ⟨w.heap.size, 0, none⟩) 1 [(x : Int)] R _ hl2 hN hH (nd_one w m _ hl.ltm) (by simp) hk2).mono ?_
  rintro e w' ⟨he, hl', ho⟩
  exact ⟨he, hl', ((Only.refl m m w).alloc _).trans ho⟩

/-- what a row of known length tells -/
def RowP (m : Nat) (L : List Nat) (n : Nat) (w : World) (e : Ending) (w' : World) : Prop :=
  ∃ (A : Option Addr) (k : Nat), e = .returned (.slice A n k) ∧ n ≤ k ∧ k ≤ 9223372036854775807 ∧ Nd w' m A (ints L) ∧ Below w.heap.size w w'
theorem row_l (p m N H h : Nat) (R : Nat → List Nat) (w : World) (hl : Lst w p m N H R) (hN : N ≤ 1024) (hH : H ≤ 64) (hh : h < H) (L : List Nat) (hL : R h = L) (n : Nat) (hn : L.length = n) (y : Int) (hy : (h : Int) = y) :
    Calls Try.prog 21 #[.pointer (some ⟨p, 0, none⟩), .int .i64 y] w (RowP m L n w) := by
  subst hn hL hy; exact row_row p m N H h R w hl hN hH hh
theorem len_l (p m N H h : Nat) (R : Nat → List Nat) (w : World) (hl : Lst w p m N H R) (hN : N ≤ 1024) (hH : H ≤ 64) (hh : h < H) (L : List Nat) (hL : R h = L) (n : Nat) (hn : L.length = n) (y : Int) (hy : (h : Int) = y) :
    Calls Try.prog 22 #[.pointer (some ⟨p, 0, none⟩), .int .i64 y] w fun e w' => e = .returned (.int .i64 (n : Int)) ∧ ∃ n, w' = w.drewN n := by
  subst hn hL hy; exact len_row p m N H h R w hl hN hH hh

/-- the nodes below n, parted at a -/
theorem range_part (n a : Nat) (h : a < n) : List.range n = List.range a ++ a :: (List.range n).drop (a + 1) := by
  apply List.ext_getElem?
  intro i
  by_cases h1 : i < a
  · rw [List.getElem?_append_left (by simpa using h1)]; simp [h1, Nat.lt_trans h1 h]
  · rw [List.getElem?_append_right (by simp; omega)]
    simp only [List.length_range]
    by_cases h2 : i = a
    · subst h2; simp [h]
    · obtain ⟨j, rfl⟩ : ∃ j, i = a + 1 + j := ⟨i - a - 1, by omega⟩
      have e : a + 1 + j - a = j + 1 := by omega
      rw [e, List.getElem?_cons_succ, List.getElem?_drop]

theorem Nd.cell {w : World} {m b o : Nat} {L : List Nat} {j x : Nat} {A : Option Addr} (h : Nd w m A (ints L)) (hA : A = some ⟨b, o, none⟩) (hx : L[j]? = some x) : w.cell? ⟨b, o + j, none⟩ = some (.int .i64 (x : Int)) := by
  have hj : j < L.length := (List.getElem?_eq_some_iff.1 hx).1
  obtain ⟨b', o', e, _, hc⟩ := h (by rw [ints_len]; omega)
  rw [hA] at e; injection e with e; injection e with e1 e2; subst e1 e2
  rw [hc j (by rw [ints_len]; exact hj), ints_nth L j x hx]
theorem Nd.some {w : World} {m : Nat} {L : List Nat} {A : Option Addr} (h : Nd w m A (ints L)) (hl : 0 < L.length) : ∃ b o : Nat, A = Option.some ⟨b, o, none⟩ ∧ b ≠ m := by
  obtain ⟨b', o', e, h1, _⟩ := h (by rw [ints_len]; omega)
  exact ⟨b', o', e, h1⟩
end Go.Proofs.Ytmfjhckacmdijaa
