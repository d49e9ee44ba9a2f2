/-
  The ring's size is the same behind every call. No Go here.
-/
import Derived.Test.YtneimdjgbblaoaaBfS
namespace Go.Proofs.Ytneimdjgbblaoaa
open Go.RowKit

theorem trySend_N (S : St) (x : List Int) : (trySend S x).1.N = S.N := by
  rcases trySend_ways S x with ⟨_, e⟩ | ⟨_, ⟨r, R, hr, e⟩ | ⟨_, _, hf, e⟩ | ⟨_, _, e⟩⟩ <;> rw [e]
theorem send_N (S : St) (i p : Int) (x : List Int) : (send S i p x).1.N = S.N := by
  have h := trySend_N S x
  unfold send
  rcases hk : trySend S x with ⟨t1, b, r, e⟩
  rw [hk] at h
  cases b with
  | true => exact h
  | false =>
    by_cases c : e = 0
    · simp only [c, if_true]; exact h
    · simp only [c, if_false]; exact h
theorem fill_N (S : St) : (fill S).1.N = S.N := rfl
theorem tryRecv_N (S : St) : (tryRecv S).1.N = S.N := by
  unfold tryRecv
  split
  · rfl
  · split <;> rfl
theorem recv_N (S : St) (i p : Int) : (recv S i p).1.N = S.N := by
  have h := tryRecv_N S
  unfold recv
  rcases hk : tryRecv S with ⟨t1, o, u⟩
  rw [hk] at h
  cases o with
  | some x => exact h
  | none => exact h
theorem drop_N (S : St) (i : Int) : (drop S i).1.N = S.N := by unfold drop; split <;> rfl
theorem change_N (S : St) (i p : Int) : (change S i p).1.N = S.N := by unfold change; split <;> rfl
end Go.Proofs.Ytneimdjgbblaoaa
