/- The laws' own words: known; rows of numbers read; what laws are told of timers. -/
import Derived.Test.YtpnhpgdidineaaaConF
namespace Go.Proofs.Ytpnhpgdidineaaa
open Go.RowKit

/-- numbers of a row of one's own -/
theorem own_int {w : World} {B n k : Nat} {X : Option Addr} {L : List Int} (h : w.ownsRow B 3 1 (.slice X n k) n (vals ci L)) (hn : L.length = n) (h0 : 0 < n) :
    ∃ b : Nat, X = some ⟨b, 0, none⟩ ∧ B ≤ b ∧ n ≤ k ∧ ∀ (j : Nat) (x : Int), L[j]? = some x → w.cell? ⟨b, j, none⟩ = some (.int .i64 x) := by
  subst hn
  rcases h.2 with ⟨_, h2⟩ | ⟨g, cap, cur, h1, hB, hh, hc, _, _, ht⟩
  · omega
  · injection h1 with e1 _ e2
    subst e2
    refine ⟨g, e1, hB, hc, fun j x hx => ?_⟩
    have hj := (List.getElem?_eq_some_iff.1 hx).1
    have hg := vals_get ci_len L j 0 x (by omega) hx
    rw [Nat.mul_one, Nat.add_zero] at hg
    rw [cell_of_row w g j cur 3 (0, 0) hh, ← Array.getElem?_toList]
    have : cur.toList[j]? = (cur.toList.take (L.length * 1))[j]? := by rw [List.getElem?_take, if_pos (by omega)]
    rw [this, ht, hg]; rfl

theorem insert_at (w : World) (B p g : Nat) (S : List En) (last : Int) (h : Tm w B p g S last) (hl : S.length < 256) (hla : last < 4611686018427387904) (a q l1 : Int) (hl1 : last + 1 = l1) (S1 : List En) (hS1 : ins (a, l1, q) S = S1) :
    Calls Try.prog 30 #[.pointer (some ⟨p, 0, none⟩), .int .u64 a, .int .i64 q] w fun e w' => e = .returned (.tuple #[.int .i64 l1, .int .i64 0]) ∧ (∃ g', Tm w' B p g' S1 l1) ∧ Below B w w' := by
  subst hl1 hS1
  refine (insert_ok w B p g S last h hl hla a q).mono ?_
  rintro e w' ⟨rfl, ht, hf⟩
  exact ⟨rfl, ht, hf.below h.le⟩

theorem due_at (w : World) (B p g : Nat) (S : List En) (last : Int) (h : Tm w B p g S last) (now : Int) (n : Nat) (D S1 : List En) (hD : due S now = D) (hn : D.length = n) (hS1 : rst S now = S1) :
    Calls Try.prog 34 #[.pointer (some ⟨p, 0, none⟩), .int .u64 now] w fun e w' => ∃ X k, e = .returned (.slice X n k) ∧ w'.ownsRow B 3 1 (.slice X n k) n (vals ci (args D)) ∧ Tm w' B p g S1 last ∧ Below B w w' := by
  subst hD hS1
  refine (due_any w B p g S last h now n hn).mono ?_
  rintro e w' ⟨X, k, rfl, h1, h2, h3⟩
  exact ⟨X, k, rfl, own_base h1 h.le, h2, h.bel h3⟩

theorem cancel_at (w : World) (B p g : Nat) (S : List En) (last : Int) (h : Tm w B p g S last) (hd : Int) (b : Bool) (hb : (fnd S hd).isSome = b) (S1 : List En) (hS1 : del S hd = S1) :
    Calls Try.prog 18 #[.pointer (some ⟨p, 0, none⟩), .int .i64 hd] w fun e w' => e = .returned (.bool b) ∧ Tm w' B p g S1 last ∧ Below B w w' := by
  subst hS1
  refine (cancel_any w B p g S last h hd b hb).mono ?_
  rintro e w' ⟨rfl, h2, h3⟩
  exact ⟨rfl, h2, h.bel h3⟩

end Go.Proofs.Ytpnhpgdidineaaa
