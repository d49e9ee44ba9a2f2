/- Contracts of nums.Max and nums.Min: of the numbers that the slice's cells hold, the greatest (the least), 0 of none; the world is left alone. -/
import Derived.Test.YthmimbcdcbbaiaaConA
namespace Go.Proofs.Ythmimbcdcbbaiaa
open Go.RowKit

def maxUp (f : Nat → Int) : Nat → Int
  | 0 => f 0
  | k + 1 => if maxUp f k < f (k + 1) then f (k + 1) else maxUp f k

set_option maxHeartbeats 400000 in
theorem max_nil (w : World) (a : Option Addr) (cap : Nat) :
    Calls Try.prog 23 #[.slice a 0 cap] w fun e w' => e = .returned (.int .i64 0) ∧ w = w' := by
  go_enter Try.func23, Try.ntmps23
  go_wp2
  go_ret
  exact ⟨rfl, rfl⟩

set_option maxHeartbeats 400000 in
theorem max_one (f : Nat → Int) (w : World) (b off : Nat) (h0 : w.cell? ⟨b, off, none⟩ = some (.int .i64 (f 0))) :
    Calls Try.prog 23 #[.slice (some ⟨b, off, none⟩) 1 1] w fun e w' => e = .returned (.int .i64 (maxUp f 0)) ∧ w = w' := by
  go_enter Try.func23, Try.ntmps23
  go_wp2
  go_loop [3, 15] (fun g i => i = .int .i64 0 ∧ g = .int .i64 (f 0)) (fun _ _ => 0)
  case atStart => exact ⟨rfl, rfl⟩
  case round =>
    obtain ⟨rfl, rfl⟩ := hrel
    go_wp2
    go_ret
    exact ⟨rfl, rfl⟩

set_option maxHeartbeats 400000 in
theorem max_more (f : Nat → Int) (w : World) (b off n cap : Nat) (hn : n + 1 ≤ cap) (hc : cap ≤ maxLen) (h1 : ¬ cap = 1)
    (h0 : w.cell? ⟨b, off, none⟩ = some (.int .i64 (f 0)))
    (hcell : ∀ i, i < n → w.cell? ⟨b, off + 1 + i, none⟩ = some (.int .i64 (f (i + 1)))) :
    Calls Try.prog 23 #[.slice (some ⟨b, off, none⟩) (n + 1) cap] w fun e w' => e = .returned (.int .i64 (maxUp f n)) ∧ w = w' := by
  unfold maxLen at hc
  have hlen : ((n : Int) + 1 == 0) = false := by simp; omega
  go_enter Try.func23, Try.ntmps23
  go_wp2
  go_loop [3, 15] (fun g i => ∃ k : Nat, k ≤ n ∧ i = .int .i64 k ∧ g = .int .i64 (maxUp f k)) (fun _ i => n - (intOf i).toNat)
  case atStart => exact ⟨0, Nat.zero_le _, rfl, rfl⟩
  case round =>
    obtain ⟨k, hk, rfl, rfl⟩ := hrel
    by_cases hlt : k < n
    · have hck := hcell k hlt
      go_wp2
      go_round
      case rel => exact ⟨k + 1, by omega, by go_num, rfl⟩
      case measure => simp [intOf]; omega
    · go_wp2
      go_ret
      obtain rfl : k = n := by omega
      exact ⟨rfl, rfl⟩
theorem max_any (f : Nat → Int) (w : World) (b off n cap : Nat) (hn : n + 1 ≤ cap) (hc : cap ≤ maxLen)
    (hcell : ∀ i, i < n + 1 → w.cell? ⟨b, off + i, none⟩ = some (.int .i64 (f i))) :
    Calls Try.prog 23 #[.slice (some ⟨b, off, none⟩) (n + 1) cap] w fun e w' => e = .returned (.int .i64 (maxUp f n)) ∧ w = w' := by
  by_cases h1 : cap = 1
  · obtain rfl : n = 0 := by omega
    subst h1
    exact max_one f w b off (hcell 0 (by omega))
  · refine max_more f w b off n cap hn hc h1 (hcell 0 (by omega)) fun i hi => ?_
    have := hcell (i + 1) (by omega)
    rwa [show off + (i + 1) = off + 1 + i from by omega] at this

def minUp (f : Nat → Int) : Nat → Int
  | 0 => f 0
  | k + 1 => if f (k + 1) < minUp f k then f (k + 1) else minUp f k

set_option maxHeartbeats 400000 in
theorem min_nil (w : World) (a : Option Addr) (cap : Nat) :
    Calls Try.prog 24 #[.slice a 0 cap] w fun e w' => e = .returned (.int .i64 0) ∧ w = w' := by
  go_enter Try.func24, Try.ntmps24
  go_wp2
  go_ret
  exact ⟨rfl, rfl⟩

set_option maxHeartbeats 400000 in
theorem min_one (f : Nat → Int) (w : World) (b off : Nat) (h0 : w.cell? ⟨b, off, none⟩ = some (.int .i64 (f 0))) :
    Calls Try.prog 24 #[.slice (some ⟨b, off, none⟩) 1 1] w fun e w' => e = .returned (.int .i64 (minUp f 0)) ∧ w = w' := by
  go_enter Try.func24, Try.ntmps24
  go_wp2
  go_loop [3, 15] (fun g i => i = .int .i64 0 ∧ g = .int .i64 (f 0)) (fun _ _ => 0)
  case atStart => exact ⟨rfl, rfl⟩
  case round =>
    obtain ⟨rfl, rfl⟩ := hrel
    go_wp2
    go_ret
    exact ⟨rfl, rfl⟩

set_option maxHeartbeats 400000 in
theorem min_more (f : Nat → Int) (w : World) (b off n cap : Nat) (hn : n + 1 ≤ cap) (hc : cap ≤ maxLen) (h1 : ¬ cap = 1)
    (h0 : w.cell? ⟨b, off, none⟩ = some (.int .i64 (f 0)))
    (hcell : ∀ i, i < n → w.cell? ⟨b, off + 1 + i, none⟩ = some (.int .i64 (f (i + 1)))) :
    Calls Try.prog 24 #[.slice (some ⟨b, off, none⟩) (n + 1) cap] w fun e w' => e = .returned (.int .i64 (minUp f n)) ∧ w = w' := by
  unfold maxLen at hc
  have hlen : ((n : Int) + 1 == 0) = false := by simp; omega
  go_enter Try.func24, Try.ntmps24
  go_wp2
  go_loop [3, 15] (fun g i => ∃ k : Nat, k ≤ n ∧ i = .int .i64 k ∧ g = .int .i64 (minUp f k)) (fun _ i => n - (intOf i).toNat)
  case atStart => exact ⟨0, Nat.zero_le _, rfl, rfl⟩
  case round =>
    obtain ⟨k, hk, rfl, rfl⟩ := hrel
    by_cases hlt : k < n
    · have hck := hcell k hlt
      go_wp2
      go_round
      case rel => exact ⟨k + 1, by omega, by go_num, rfl⟩
      case measure => simp [intOf]; omega
    · go_wp2
      go_ret
      obtain rfl : k = n := by omega
      exact ⟨rfl, rfl⟩
theorem min_any (f : Nat → Int) (w : World) (b off n cap : Nat) (hn : n + 1 ≤ cap) (hc : cap ≤ maxLen)
    (hcell : ∀ i, i < n + 1 → w.cell? ⟨b, off + i, none⟩ = some (.int .i64 (f i))) :
    Calls Try.prog 24 #[.slice (some ⟨b, off, none⟩) (n + 1) cap] w fun e w' => e = .returned (.int .i64 (minUp f n)) ∧ w = w' := by
  by_cases h1 : cap = 1
  · obtain rfl : n = 0 := by omega
    subst h1
    exact min_one f w b off (hcell 0 (by omega))
  · refine min_more f w b off n cap hn hc h1 (hcell 0 (by omega)) fun i hi => ?_
    have := hcell (i + 1) (by omega)
    rwa [show off + (i + 1) = off + 1 + i from by omega] at this

end Go.Proofs.Ythmimbcdcbbaiaa
