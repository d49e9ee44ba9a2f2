/- Contracts of the laws' own helpers: Same. -/
import Derived.Test.YtmfjhckacmdijaaConL
namespace Go.Proofs.Ytmfjhckacmdijaa
open Go.RowKit

theorem Nd.drewN {w : World} {m : Nat} {A : Option Addr} {ns : List Int} (h : Nd w m A ns) (k : Nat) : Nd (w.drewN k) m A ns := h
theorem drewN_drewN (w : World) (a b : Nat) : (w.drewN a).drewN b = w.drewN (a + b) := by
  unfold World.drewN; simp [Nat.add_assoc]

set_option maxHeartbeats 800000 in
theorem same_true (m m2 : Nat) (A B : Option Addr) (ka kb : Nat) (xs : List Int) (w : World) (ha : Nd w m A xs) (hb : Nd w m2 B xs) (hn : xs.length ≤ 1000000000000) :
    Calls Try.prog 23 #[.slice A xs.length ka, .slice B xs.length kb] w fun e w' => e = .returned (.bool true) ∧ ∃ n, w' = w.drewN n := by
  go_enter Try.func23, Try.ntmps23
  go_wp2
  go_loopw [5] (fun i wr => ∃ t j : Nat, t ≤ xs.length ∧ i = .int .i64 (t : Int) ∧ wr = w.drewN j) (fun i _ => xs.length - (intOf i).toNat)
  case atStart => exact ⟨0, 0, Nat.zero_le _, rfl, rfl⟩
  case round =>
    obtain ⟨t, j, ht, rfl, rfl⟩ := hrel
    by_cases hlt : t < xs.length
    · obtain ⟨b1, o1, rfl, _, hc1⟩ := ha (by omega)
      obtain ⟨b2, o2, rfl, _, hc2⟩ := hb (by omega)
      have h1 : (w.drewN j).cell? ⟨b1, o1 + t, none⟩ = some (.int .i64 (nth xs t)) := hc1 t hlt
      have h2 : (w.drewN j).cell? ⟨b2, o2 + t, none⟩ = some (.int .i64 (nth xs t)) := hc2 t hlt
      have i1 : (t : Int) < (xs.length : Int) := by omega
      have HW := Lib.hid (drewN_drewN w j)
      clear hc1 hc2 ha hb
      generalize w.drewN j = w1 at *
      go_wp2
      go_quiet (fail)
      go_wp2
      go_roundw
      case rel => exact ⟨t + 1, _, by omega, by go_num, HW.out _⟩
      case measure => simp [intOf]; omega
    · go_wp2
      go_ret
      exact ⟨rfl, j, rfl⟩
end Go.Proofs.Ytmfjhckacmdijaa
