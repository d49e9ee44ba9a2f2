/- Contracts of package bits: permitted, word, mask; of the library: TrailingZeros64, OnesCount64. -/
import Derived.Test.YtdhemejipkaopaaDoorRows
import Derived.Test.YtdhemejipkaopaaDoorSets
import Derived.WalkKit
import Derived.Laws.Bits64b
import Derived.Laws.BitsAllLaws
import Derived.Laws.Bits128
import Derived.Lib.Hide
import Derived.IntWalk
namespace Go.Proofs.YtdhemejipkaopaaDoor
open Go.RowKit

/-- the library's table, in its variable -/
def Tab (w : World) : Prop := ∀ j, j < 64 → w.cell? ⟨0, j, none⟩ = some (.int .u8 (Lib.deBruijn64tab.getD j 0))

theorem ret_int {k : IntKind} {a b : Int} (h : a = b) : Ending.returned (.int k a) = .returned (.int k b) := by rw [h]

theorem permitted_any (x : Int) (w : World) (r : Bool) (hr : decide (1 ≤ x ∧ x ≤ 256) = r) :
    Calls Tryd.prog 15 #[.int .i64 x] w fun e w' => e = .returned (.bool r) ∧ w = w' := by
  subst hr
  by_cases c1 : 1 ≤ x
  · have e : decide (1 ≤ x ∧ x ≤ 256) = decide (x ≤ 256) := by simp [c1]
    rw [e]
    go_enter Tryd.func15, Tryd.ntmps15
    go_wp2
    go_ret
    exact ⟨rfl, rfl⟩
  · have e : decide (1 ≤ x ∧ x ≤ 256) = false := by simp [c1]
    have t1 : decide (1 ≤ x) = false := by simpa using c1
    rw [e]
    go_enter Tryd.func15, Tryd.ntmps15
    go_wp2
    go_ret
    exact ⟨rfl, rfl⟩

theorem word_any (x : Int) (h1 : 1 ≤ x) (h2 : x ≤ 256) (w : World) (k : Nat) (hk : (x - 1) / 64 = (k : Int)) :
    Calls Tryd.prog 16 #[.int .i64 x] w fun e w' => e = .returned (.int .i64 (k : Int)) ∧ w = w' := by
  have h3 : 0 ≤ x - 1 := by omega
  have H := Lib.hid hk
  clear hk
  go_enter Tryd.func16, Tryd.ntmps16
  go_wp2
  go_ret
  exact ⟨ret_int H.out, rfl⟩

theorem wrap_pow (x : Int) (k : Nat) (h : (x - 1) % 64 = (k : Int)) : IntKind.u64.wrap (2 ^ ((x - 1) % 64).toNat) = ((2 ^ k : Nat) : Int) := by
  have hp := pow_lt64 k (by omega)
  rw [h, Int.toNat_natCast, IntKind.wrap_u64, show (2 : Int) ^ k = ((2 ^ k : Nat) : Int) by simp]
  generalize 2 ^ k = a at *
  omega

theorem mask_any (x : Int) (h1 : 1 ≤ x) (h2 : x ≤ 256) (w : World) (k : Nat) (hk : (x - 1) % 64 = (k : Int)) :
    Calls Tryd.prog 17 #[.int .i64 x] w fun e w' => e = .returned (.int .u64 ((2 ^ k : Nat) : Int)) ∧ w = w' := by
  have h3 : 0 ≤ x - 1 := by omega
  have h4 : 0 ≤ (x - 1) % 64 := by omega
  have h5 : (x - 1) % 64 ≤ 64 := by omega
  have H := Lib.hid hk
  clear hk
  go_enter Tryd.func17, Tryd.ntmps17
  go_wp2
  go_ret
  exact ⟨ret_int (wrap_pow x k H.out), rfl⟩

theorem tz_core (x k idx : Nat) (w : World) (hx0 : ((x : Int) == 0) = false)
    (key : IntKind.u64.wrap (bits BinOp.and IntKind.u64 (x : Int) (IntKind.u64.wrap (-(x : Int))) * 285870213051353865) / 288230376151711744 = (idx : Int))
    (hi : idx < 64) (hk : k < 64) (hcell : w.cell? ⟨0, idx, none⟩ = some (.int .u8 k)) :
    Calls Tryd.prog 18 #[.int .u64 x] w fun e w' => e = .returned (.int .i64 k) ∧ w = w' := by
  go_enter Tryd.func18, Tryd.ntmps18
  go_wp2_with (simp only [key])
  go_ret
  exact ⟨rfl, rfl⟩

theorem neg_u64 (x : Nat) (hx : x < 18446744073709551616) (h0 : x ≠ 0) : IntKind.u64.wrap (-(x : Int)) = ((18446744073709551616 - x : Nat) : Int) := by rw [IntKind.wrap_u64]; omega

/-- TrailingZeros64, where x is not 0 -/
theorem tz_any (x : Nat) (hx : x < 18446744073709551616) (h0 : x ≠ 0) (w : World) (hT : Tab w) :
    Calls Tryd.prog 18 #[.int .u64 x] w fun e w' => e = .returned (.int .i64 (Lib.ctz 64 x : Int)) ∧ w = w' := by
  obtain ⟨hlow, hk⟩ := Lib.lowest_bit 64 x h0 hx
  obtain ⟨hi, htab⟩ := Lib.deBruijn64_at _ hk
  have hcell := hT _ hi
  rw [htab] at hcell
  refine tz_core x _ _ w (by simp; omega) ?_ hi hk hcell
  rw [neg_u64 x hx h0, bits_and_u64_nat x _ hx (by omega), show (18446744073709551616 : Nat) = 2 ^ 64 by decide +kernel, hlow, IntKind.wrap_u64]
  generalize 2 ^ Lib.ctz 64 x = a
  omega

theorem u64_in (n : Nat) (h : n < 18446744073709551616) (z : Int) (e : z = (n : Int)) : IntKind.u64.wrap z = (n : Int) := by rw [e, IntKind.wrap_u64]; omega

theorem and_c (z C : Int) (n c : Nat) (hz : z = (n : Int)) (hC : C = (c : Int)) (hn : n < 18446744073709551616) (hc : c < 18446744073709551616) : bits .and .u64 z C = ((n &&& c : Nat) : Int) := by
  rw [hz, hC]; exact bits_and_u64_nat n c hn hc

theorem key1 (x x1 : Nat) (hx : x < 18446744073709551616) (h1 : x1 < 18446744073709551616) (e1 : S1 6148914691236517205 x = x1) :
    IntKind.u64.wrap (bits .and .u64 ((x : Int) / 2) 6148914691236517205 + bits .and .u64 (x : Int) 6148914691236517205) = (x1 : Int) := by
  refine u64_in x1 h1 _ ?_
  rw [and_c ((x : Int) / 2) 6148914691236517205 (x / 2) 6148914691236517205 (by omega) rfl (by omega) (by decide), and_c (x : Int) 6148914691236517205 x 6148914691236517205 rfl rfl hx (by decide), ← e1]
  exact (Int.natCast_add _ _).symm
theorem key2 (x x1 : Nat) (hx : x < 18446744073709551616) (h1 : x1 < 18446744073709551616) (e1 : S2 3689348814741910323 x = x1) :
    IntKind.u64.wrap (bits .and .u64 ((x : Int) / 4) 3689348814741910323 + bits .and .u64 (x : Int) 3689348814741910323) = (x1 : Int) := by
  refine u64_in x1 h1 _ ?_
  rw [and_c ((x : Int) / 4) 3689348814741910323 (x / 4) 3689348814741910323 (by omega) rfl (by omega) (by decide), and_c (x : Int) 3689348814741910323 x 3689348814741910323 rfl rfl hx (by decide), ← e1]
  exact (Int.natCast_add _ _).symm
theorem key3 (x x1 : Nat) (l3 : x / 16 + x < 18446744073709551616) (e1 : S3 1085102592571150095 x = x1) :
    bits .and .u64 (IntKind.u64.wrap ((x : Int) / 16 + (x : Int))) 1085102592571150095 = (x1 : Int) := by
  rw [u64_in (x / 16 + x) l3 _ (by omega), and_c _ 1085102592571150095 (x / 16 + x) 1085102592571150095 rfl rfl l3 (by decide), ← e1]
  rfl

/-- OnesCount64 -/
theorem ones_core (x x1 x2 x3 x4 x5 x6 : Nat) (w : World)
    (k1 : IntKind.u64.wrap (bits .and .u64 ((x : Int) / 2) 6148914691236517205 + bits .and .u64 (x : Int) 6148914691236517205) = (x1 : Int))
    (k2 : IntKind.u64.wrap (bits .and .u64 ((x1 : Int) / 4) 3689348814741910323 + bits .and .u64 (x1 : Int) 3689348814741910323) = (x2 : Int))
    (k3 : bits .and .u64 (IntKind.u64.wrap ((x2 : Int) / 16 + (x2 : Int))) 1085102592571150095 = (x3 : Int))
    (k4 : IntKind.u64.wrap ((x3 : Int) + (x3 : Int) / 256) = (x4 : Int)) (k5 : IntKind.u64.wrap ((x4 : Int) + (x4 : Int) / 65536) = (x5 : Int)) (k6 : IntKind.u64.wrap ((x5 : Int) + (x5 : Int) / 4294967296) = (x6 : Int)) :
    Calls Tryd.prog 19 #[.int .u64 x] w fun e w' => e = .returned (.int .i64 (bits .and .i64 (wrap64 (x6 : Int)) 127)) ∧ w = w' := by
  go_enter Tryd.func19, Tryd.ntmps19
  go_wp2_with (simp only [k1, k2, k3, k4, k5, k6])
  go_ret
  exact ⟨rfl, rfl⟩

theorem ones_any (x : Nat) (hx : x < 18446744073709551616) (w : World) :
    Calls Tryd.prog 19 #[.int .u64 x] w fun e w' => e = .returned (.int .i64 (pop 64 x : Int)) ∧ w = w' := by
  obtain ⟨x1, x2, x3, h1, h2, h3, e1, e2, l3, e3, e4⟩ := halves x hx
  have k1 := key1 x x1 hx h1 e1
  have k2 := key2 x1 x2 h1 h2 e2
  have k3 := key3 x2 x3 l3 e3
  clear e1 e2 e3 l3 h1 h2 hx
  obtain ⟨x4, h4⟩ : ∃ x4, x3 + x3 / 256 = x4 := ⟨_, rfl⟩
  obtain ⟨x5, h5⟩ : ∃ x5, x4 + x4 / 65536 = x5 := ⟨_, rfl⟩
  obtain ⟨x6, h6⟩ : ∃ x6, x5 + x5 / 4294967296 = x6 := ⟨_, rfl⟩
  rw [h4, h5, h6] at e4
  have := ones_core x x1 x2 x3 x4 x5 x6 w k1 k2 k3 (u64_in x4 (by omega) _ (by omega)) (u64_in x5 (by omega) _ (by omega)) (u64_in x6 (by omega) _ (by omega))
  have e : bits .and .i64 (wrap64 (x6 : Int)) 127 = (pop 64 x : Int) := by
    rw [IntWalk.wrap64_in _ (by omega), i64_and127]; omega
  rw [e] at this
  exact this
end Go.Proofs.YtdhemejipkaopaaDoor
