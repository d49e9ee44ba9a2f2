/- What the laws of package mtx use: New over a row that stays. -/
import Derived.Test.YtmicinenggkmlaaMtP
namespace Go.Proofs.Ytmicinenggkmlaa
open Go.RowKit
set_option linter.unusedVariables false
set_option maxRecDepth 100000

theorem kind_new2 {w1 : World} (X : Option Addr) (k n : Nat) (kf : Nat → Int × Int) (h8 : n ≤ 8) (hs : K.Sr K.ck w1 X k (rowK kf n)) (hk : ∀ i, i < n → okK (kf i).1 (kf i).2) :
    Calls Try.prog 11 #[.slice X n k] w1 fun e w' => ∃ (a g : Nat) (q : Nat → Nat) (S : St), e = .returned (.tuple #[PtrV a, .int .i64 0]) ∧ At w1 a g q S w' ∧ Lk S n (fun i => (kf i).1) (fun i => (kf i).2) (fun _ => 0) (fun _ _ => False) (fun _ => 16) := by
  refine (new_at (w := w1) X k n (rowK kf n) (rowK_len kf n) (by rw [rowK_len]; exact h8) hs (rowK_ok hk) (Below.refl _ _)).mono ?_
  rintro e w' ⟨a, g, q, rfl, h⟩
  exact ⟨a, g, q, _, rfl, h, Lk.newK kf n⟩
/-- a kind's cells in the row -/
theorem kind_cell {w : World} {X : Option Addr} {k n : Nat} {kf : Nat → Int × Int} (h : K.Sr K.ck w X k (rowK kf n)) (h0 : 0 < n) : ∃ b o : Nat, X = some ⟨b, o, none⟩ ∧ b < w.heap.size ∧
    ∀ v, v < n → w.cell? ⟨b, o + v * 2, none⟩ = some (.int .i64 (kf v).1) ∧ w.cell? ⟨b, o + v * 2 + 1, none⟩ = some (.int .i64 (kf v).2) := by
  rcases h with ⟨_, e, _⟩ | ⟨b, o, e, hb, hc⟩
  · have := rowK_len kf n; rw [e] at this; simp at this; omega
  · refine ⟨b, o, e, hb, fun v hv => ?_⟩
    have hv2 := fun r (hr : r < 2) => K.vals_get (c := K.ck) (z := 2) (fun _ => rfl) (rowK kf n) v r (kf v) hr (rowK_at hv)
    exact ⟨by have := hc _ _ (hv2 0 (by omega)); rwa [Nat.add_zero] at this, by have := hc _ _ (hv2 1 (by omega)); rwa [← Nat.add_assoc] at this⟩
theorem gone_nil {O : Nat → Int} {t : Int} : ∀ k, gone O (fun _ => 0) t k = []
  | 0 => rfl
  | k + 1 => by
    unfold gone
    rw [gone_nil k]
    split
    · rfl
    · rfl
end Go.Proofs.Ytmicinenggkmlaa
