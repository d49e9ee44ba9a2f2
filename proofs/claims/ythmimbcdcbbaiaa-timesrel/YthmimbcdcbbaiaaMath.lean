/- The plain arithmetic of times modulo 2^48: what package nums computes, as functions on integers, and what of it the laws use. No condition but those that each lemma names. -/
import Derived.RowKit
import Derived.Laws.Bits64
import Derived.Laws.BitsLemmas
namespace Go.Proofs.Ythmimbcdcbbaiaa.M
open Go.RowKit

def addZ (t d : Int) : Int := (t + d) % 281474976710656
def gapZ (a b : Int) : Int := (b - a + 140737488355328) % 281474976710656 - 140737488355328
def dueB (a b : Int) : Bool := decide (0 ≤ gapZ a b)
def ticksZ (d tic : Int) : Int := if tic = 0 then 0 else (d + tic - 1) / tic
def alignZ (n a : Int) : Int := if n < 0 ∨ 1073741824 < n ∨ a < 1 ∨ 4096 < a then n else (n + a - 1) / a * a

theorem add_form (t d : Int) : (IntKind.u64.wrap (t + d)).tmod 281474976710656 = addZ t d := by
  rw [IntKind.wrap_u64]; unfold addZ
  rw [Int.tmod_eq_emod_of_nonneg (by omega)]; omega

theorem gap_form (a b : Int) : wrap64 (IntKind.u64.wrap (IntKind.u64.wrap (b - a) * 65536)) / 65536 = gapZ a b := by
  rw [IntKind.wrap_u64, IntKind.wrap_u64]; unfold wrap64 gapZ; omega

theorem addZ_bd (t d : Int) : 0 ≤ addZ t d ∧ addZ t d < 281474976710656 := by unfold addZ; omega
theorem gapZ_bd (a b : Int) : -140737488355328 ≤ gapZ a b ∧ gapZ a b < 140737488355328 := by unfold gapZ; omega

theorem div_up (a b : Int) (hb : 0 < b) (h : a % b = 0) : (a + b - 1) / b = a / b := by
  have e := Int.mul_ediv_add_emod a b
  have : a + b - 1 = (b - 1) + b * (a / b) := by omega
  rw [this, Int.add_mul_ediv_left _ _ (by omega), Int.ediv_eq_zero_of_lt (by omega) (by omega)]; omega
theorem div_up1 (a b : Int) (hb : 0 < b) (h : ¬ a % b = 0) : (a + b - 1) / b = a / b + 1 := by
  have e := Int.mul_ediv_add_emod a b
  have h1 := Int.emod_nonneg a (b := b) (by omega)
  have h2 := Int.emod_lt_of_pos a hb
  have : a + b - 1 = (a % b - 1) + b * (a / b + 1) := by rw [Int.mul_add]; omega
  rw [this, Int.add_mul_ediv_left _ _ (by omega), Int.ediv_eq_zero_of_lt (by omega) (by omega)]; omega

theorem ticks_zero (a : Int) : ticksZ a 0 = 0 := by simp [ticksZ]
theorem ticks_even (a b : Int) (h0 : 0 ≤ a) (h1 : a ≤ 18446744073709551615) (hb : 0 < b) (h : a.tmod b = 0) :
    IntKind.u64.wrap (a.tdiv b) = ticksZ a b := by
  rw [Int.tmod_eq_emod_of_nonneg h0] at h
  rw [IntKind.wrap_u64, Int.tdiv_eq_ediv_of_nonneg h0]
  unfold ticksZ; rw [if_neg (by omega), div_up a b hb h]
  have l1 : 0 ≤ a / b := Int.ediv_nonneg h0 (by omega)
  have l2 : a / b ≤ a := Int.ediv_le_self b h0
  omega
theorem ticks_odd (a b : Int) (h0 : 0 ≤ a) (h1 : a ≤ 18446744073709551615) (hb : 0 < b) (h : ¬ a.tmod b = 0) :
    IntKind.u64.wrap (IntKind.u64.wrap (a.tdiv b) + 1) = ticksZ a b := by
  rw [Int.tmod_eq_emod_of_nonneg h0] at h
  rw [IntKind.wrap_u64, IntKind.wrap_u64, Int.tdiv_eq_ediv_of_nonneg h0]
  unfold ticksZ; rw [if_neg (by omega), div_up1 a b hb h]
  have l1 : 0 ≤ a / b := Int.ediv_nonneg h0 (by omega)
  have hb2 : 2 ≤ b := by
    rcases Int.lt_or_le b 2 with h2 | h2
    · have : b = 1 := by omega
      subst this; exact absurd (Int.emod_one a) h
    · exact h2
  have e := Int.mul_ediv_add_emod a b
  have h5 := Int.emod_nonneg a (b := b) (by omega)
  have l3 : 2 * (a / b) ≤ b * (a / b) := Int.mul_le_mul_of_nonneg_right hb2 l1
  omega

theorem align_low (n a : Int) (h2 : 1 ≤ a) : n ≤ (n + a - 1) / a * a ∧ (n + a - 1) / a * a ≤ n + a - 1 := by
  have e := Int.mul_ediv_add_emod (n + a - 1) a
  have h5 := Int.emod_nonneg (n + a - 1) (b := a) (by omega)
  have h6 := Int.emod_lt_of_pos (n + a - 1) (show 0 < a by omega)
  rw [Int.mul_comm] at e
  omega
theorem align_form (n a : Int) (h0 : 0 ≤ n) (h1 : n ≤ 1073741824) (h2 : 1 ≤ a) (h3 : a ≤ 4096) :
    wrap64 ((n + a - 1) / a * a) = alignZ n a := by
  have := align_low n a h2
  unfold alignZ wrap64; rw [if_neg (by omega)]; omega
theorem align_ref0 (n a : Int) (h0 : 0 ≤ n) (h1 : n ≤ 1073741824) (h2 : 1 ≤ a) (h3 : a ≤ 4096) (h : n % a = 0) : n = alignZ n a := by
  unfold alignZ; rw [if_neg (by omega), div_up n a (by omega) h]
  have e := Int.mul_ediv_add_emod n a
  rw [Int.mul_comm] at e; omega
theorem align_ref1 (n a : Int) (h0 : 0 ≤ n) (h1 : n ≤ 1073741824) (h2 : 1 ≤ a) (h3 : a ≤ 4096) (h : ¬ n % a = 0) : wrap64 (n + a - n % a) = alignZ n a := by
  unfold alignZ wrap64; rw [if_neg (by omega), div_up1 n a (by omega) h]
  have e := Int.mul_ediv_add_emod n a
  have h5 := Int.emod_nonneg n (b := a) (by omega)
  have h6 := Int.emod_lt_of_pos n (show 0 < a by omega)
  rw [Int.mul_comm] at e
  rw [Int.add_mul]; omega
theorem align_out (n a : Int) (h : n < 0 ∨ 1073741824 < n ∨ a < 1 ∨ 4096 < a) : alignZ n a = n := by unfold alignZ; rw [if_pos h]
theorem align_in (n a : Int) (h0 : 0 ≤ n) (h1 : n ≤ 1073741824) (h2 : 1 ≤ a) (h3 : a ≤ 4096) :
    n ≤ alignZ n a ∧ alignZ n a - n < a ∧ alignZ n a % a = 0 := by
  have := align_low n a h2
  unfold alignZ; rw [if_neg (by omega)]
  exact ⟨by omega, by omega, Int.mul_emod_left _ _⟩
theorem radd_form (t d : Int) : (t % 281474976710656 + d % 281474976710656) % 281474976710656 = addZ t d := by unfold addZ; omega
theorem rgap_high (t d : Int) (h : 140737488355328 ≤ (d % 281474976710656 + 281474976710656 - t) % 281474976710656) :
    (d % 281474976710656 + 281474976710656 - t) % 281474976710656 - 281474976710656 = gapZ t d := by unfold gapZ; omega
theorem rgap_low (t d : Int) (h : (d % 281474976710656 + 281474976710656 - t) % 281474976710656 < 140737488355328) :
    (d % 281474976710656 + 281474976710656 - t) % 281474976710656 = gapZ t d := by unfold gapZ; omega
end Go.Proofs.Ythmimbcdcbbaiaa.M
