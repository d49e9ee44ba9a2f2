/- Put where it is known whether it fits; the laws' own helper known. -/
import Derived.Test.YtneimdjgbblaoaaRgConJ
import Derived.Lib.SlBytesConst
import Derived.Lib.SmallJoins
namespace Go.Proofs.Ytneimdjgbblaoaa.R
open Go.RowKit
set_option maxRecDepth 100000

def PutYes (p m N : Nat) (c : Int) (L : List (List Int)) (w : World) (e : Ending) (w' : World) : Prop :=
  ∃ c', c ≤ c' ∧ c' ≤ c + 2000 ∧ e = .returned (.bool true) ∧ Rg w' p m N c' L ∧ Only p m w w'
def PutNo (p m N : Nat) (c : Int) (L : List (List Int)) (w : World) (e : Ending) (w' : World) : Prop :=
  ∃ c', c ≤ c' ∧ c' ≤ c + 2000 ∧ e = .returned (.bool false) ∧ Rg w' p m N c' L ∧ Only p m w w'

theorem put_yes (p m N n cap : Nat) (c : Int) (L : List (List Int)) (q : Nat → Int) (A : Option Addr) (w : World) (h : Rg w p m N c L) (hs : Src w p m A n q) (hcap : n ≤ cap) (hN : N ≤ 65536) (hc0 : 0 ≤ c) (hc1 : c ≤ 10000000000) (h1 : n ≤ 1024) (h2 : tot L + occ n ≤ N) :
    Calls Try.prog 41 #[.pointer (some ⟨p, 0, none⟩), .slice A n cap] w (PutYes p m N c (L ++ [mkm n q]) w) := by
  refine (put_any p m N n cap c L q A w h hs hcap hN hc0 hc1).mono ?_
  have e : fits N (tot L) ((mkm n q).length : Int) = true := by rw [mkm_len, fits_nat]; exact ⟨h1, h2⟩
  intro x w' ⟨c', k1, k2, k3, k4, k5⟩
  unfold putL at k4
  rw [e] at k3 k4
  exact ⟨c', k1, k2, k3, k4, k5⟩
theorem put_no (p m N n cap : Nat) (c : Int) (L : List (List Int)) (q : Nat → Int) (A : Option Addr) (w : World) (h : Rg w p m N c L) (hs : Src w p m A n q) (hcap : n ≤ cap) (hN : N ≤ 65536) (hc0 : 0 ≤ c) (hc1 : c ≤ 10000000000) (h1 : 1024 < n ∨ N < tot L + occ n) :
    Calls Try.prog 41 #[.pointer (some ⟨p, 0, none⟩), .slice A n cap] w (PutNo p m N c L w) := by
  refine (put_any p m N n cap c L q A w h hs hcap hN hc0 hc1).mono ?_
  have e : fits N (tot L) ((mkm n q).length : Int) = false := by rw [← Bool.not_eq_true, mkm_len, fits_nat]; omega
  intro x w' ⟨c', k1, k2, k3, k4, k5⟩
  unfold putL at k4
  rw [e] at k3 k4
  exact ⟨c', k1, k2, k3, k4, k5⟩

theorem src_new (w : World) (p m n : Nat) (hp : p < w.heap.size) (hm : m < w.heap.size) (cs : Array Value) (fz : Nat × Nat) (q : Nat → Int) (hc : ∀ j, j < n → cs[j]? = some (.int .u8 (q j)) ∧ 0 ≤ q j ∧ q j ≤ 255) : Src (w.alloc (.cells cs 5 fz)) p m (some ⟨w.heap.size, 0, none⟩) n q := by
  intro _
  refine ⟨_, _, rfl, by omega, by omega, fun j hj => ⟨?_, (hc j hj).2⟩⟩
  rw [cell_of_row _ _ _ _ _ _ (heap_alloc_new w _), Nat.zero_add]; exact (hc j hj).1

end Go.Proofs.Ytneimdjgbblaoaa.R
