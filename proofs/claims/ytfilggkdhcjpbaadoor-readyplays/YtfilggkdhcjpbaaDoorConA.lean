/- Contracts of package bits: permitted, word, mask; of the library: TrailingZeros64, OnesCount64. -/
import Derived.Test.YtfilggkdhcjpbaaDoorRows
import Derived.Test.YtfilggkdhcjpbaaDoorSets
import Derived.WalkKit
import Derived.Laws.Bits64b
import Derived.Laws.BitsAllLaws
import Derived.Laws.Bits128
import Derived.Lib.Hide
import Derived.IntWalk
namespace Go.Proofs.YtfilggkdhcjpbaaDoor
open Go.RowKit

/-- the library's table, in its variable -/
def Tab (w : World) : Prop := ∀ j, j < 64 → w.cell? ⟨0, j, none⟩ = some (.int .u8 (Lib.deBruijn64tab.getD j 0))

theorem ret_int {k : IntKind} {a b : Int} (h : a = b) : Ending.returned (.int k a) = .returned (.int k b) := by rw [h]

theorem permitted_any (x : Int) (w : World) (r : Bool) (hr : decide (1 ≤ x ∧ x ≤ 256) = r) :
    Calls Tryd.prog 40 #[.int .i64 x] w fun e w' => e = .returned (.bool r) ∧ w = w' := by
  subst hr
  by_cases c1 : 1 ≤ x
  · have e : decide (1 ≤ x ∧ x ≤ 256) = decide (x ≤ 256) := by simp [c1]
    rw [e]
    go_enter Tryd.func40, Tryd.ntmps40
    go_wp2
    go_ret
    exact ⟨rfl, rfl⟩
  · have e : decide (1 ≤ x ∧ x ≤ 256) = false := by simp [c1]
    have t1 : decide (1 ≤ x) = false := by simpa using c1
    rw [e]
    go_enter Tryd.func40, Tryd.ntmps40
    go_wp2
    go_ret
    exact ⟨rfl, rfl⟩

theorem word_any (x : Int) (h1 : 1 ≤ x) (h2 : x ≤ 256) (w : World) (k : Nat) (hk : (x - 1) / 64 = (k : Int)) :
    Calls Tryd.prog 41 #[.int .i64 x] w fun e w' => e = .returned (.int .i64 (k : Int)) ∧ w = w' := by
  have h3 : 0 ≤ x - 1 := by omega
  have H := Lib.hid hk
  clear hk
  go_enter Tryd.func41, Tryd.ntmps41
  go_wp2
  go_ret
  exact ⟨ret_int H.out, rfl⟩

theorem wrap_pow (x : Int) (k : Nat) (h : (x - 1) % 64 = (k : Int)) : IntKind.u64.wrap (2 ^ ((x - 1) % 64).toNat) = ((2 ^ k : Nat) : Int) := by
  have hp := pow_lt64 k (by omega)
  rw [h, Int.toNat_natCast, IntKind.wrap_u64, show (2 : Int) ^ k = ((2 ^ k : Nat) : Int) by simp]
  generalize 2 ^ k = a at *
  omega

theorem mask_any (x : Int) (h1 : 1 ≤ x) (h2 : x ≤ 256) (w : World) (k : Nat) (hk : (x - 1) % 64 = (k : Int)) :
    Calls Tryd.prog 42 #[.int .i64 x] w fun e w' => e = .returned (.int .u64 ((2 ^ k : Nat) : Int)) ∧ w = w' := by
  have h3 : 0 ≤ x - 1 := by omega
  have h4 : 0 ≤ (x - 1) % 64 := by omega
  have h5 : (x - 1) % 64 ≤ 64 := by omega
  have H := Lib.hid hk
  clear hk
  go_enter Tryd.func42, Tryd.ntmps42
  go_wp2
  go_ret
  exact ⟨ret_int (wrap_pow x k H.out), rfl⟩

theorem tz_core (x k idx : Nat) (w : World) (hx0 : ((x : Int) == 0) = false)
    (key : IntKind.u64.wrap (bits BinOp.and IntKind.u64 (x : Int) (IntKind.u64.wrap (-(x : Int))) * 285870213051353865) / 288230376151711744 = (idx : Int))
    (hi : idx < 64) (hk : k < 64) (hcell : w.cell? ⟨0, idx, none⟩ = some (.int .u8 k)) :
    Calls Tryd.prog 43 #[.int .u64 x] w fun e w' => e = .returned (.int .i64 k) ∧ w = w' := by
  go_enter Tryd.func43, Tryd.ntmps43
  go_wp2_with (simp only [key])
  go_ret
  exact ⟨rfl, rfl⟩

theorem neg_u64 (x : Nat) (hx : x < 18446744073709551616) (h0 : x ≠ 0) : IntKind.u64.wrap (-(x : Int)) = ((18446744073709551616 - x : Nat) : Int) := by rw [IntKind.wrap_u64]; omega

/-- TrailingZeros64, where x is not 0 -/
theorem tz_any (x : Nat) (hx : x < 18446744073709551616) (h0 : x ≠ 0) (w : World) (hT : Tab w) :
    Calls Tryd.prog 43 #[.int .u64 x] w fun e w' => e = .returned (.int .i64 (Lib.ctz 64 x : Int)) ∧ w = w' := by
  obtain ⟨hlow, hk⟩ := Lib.lowest_bit 64 x h0 hx
  obtain ⟨hi, htab⟩ := Lib.deBruijn64_at _ hk
  have hcell := hT _ hi
  rw [htab] at hcell
  refine tz_core x _ _ w (by simp; omega) ?_ hi hk hcell
  rw [neg_u64 x hx h0, bits_and_u64_nat x _ hx (by omega), show (18446744073709551616 : Nat) = 2 ^ 64 by decide +kernel, hlow, IntKind.wrap_u64]
  generalize 2 ^ Lib.ctz 64 x = a
  omega

theorem u64_in (n : Nat) (h : n < 18446744073709551616) (z : Int) (e : z = (n : Int)) : IntKind.u64.wrap z = (n : Int) := by rw [e, IntKind.wrap_u64]; omega

theorem and_c (z C : Int) (n c : Nat) (hz : z = (n : Int)) (hC : C = (c : Int)) (hn : n < 18446744073709551616) (hc : c < 18446744073709551616) : bits .and .u64 z C = ((n &&& c : Nat) : Int) := by
  rw [hz, hC]; exact bits_and_u64_nat n c hn hc

end Go.Proofs.YtfilggkdhcjpbaaDoor
