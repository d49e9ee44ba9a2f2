/- What is on its way through a data queue: its numbers, then what those who wait send. No Go here. -/
import Derived.Test.YtnbepahanhcmeaaDqR
namespace Go.Proofs.Ytnbepahanhcmeaa

def pipe (t : St) : List Int := t.D ++ t.S.map fun y => t.W y.1.toNat

/-- nobody waits to receive; who waits to send does so as there is no room; all as they came -/
structure Flow (t : St) : Prop where
  b : t.b = false
  r : t.R = []
  full : t.S ≠ [] → t.m ≤ t.D.length

theorem pipe_none {t : St} (h : pipe t = []) : tryRecv t = (t, 0, false, 0) := by
  unfold pipe at h
  obtain ⟨h1, h2⟩ := List.append_eq_nil_iff.1 h
  exact tryRecv_none (List.map_eq_nil_iff.1 h2) h1
theorem pipe_some {t : St} {d : Int} {P : List Int} (h : pipe t = d :: P) (f : Flow t) : ∃ t' k, tryRecv t = (t', d, true, k) ∧ pipe t' = P ∧ Flow t' ∧ t'.m = t.m ∧
    ((t.S = [] ∧ t'.S = [] ∧ k = 0) ∨ ∃ y, t.S = y :: t'.S ∧ k = y.1) := by
  unfold pipe at h
  cases hS : t.S with
  | nil =>
    rw [hS] at h
    simp only [List.map_nil, List.append_nil] at h
    refine ⟨_, _, tryRecv_data hS h, ?_, ⟨f.b, f.r, fun e => absurd hS e⟩, rfl, .inl ⟨rfl, hS, rfl⟩⟩
    unfold pipe; simp [hS]
  | cons y S =>
    rw [hS] at h
    have hm := f.full (by rw [hS]; simp)
    cases hD : t.D with
    | nil =>
      rw [hD] at h hm
      simp only [List.nil_append, List.map_cons, List.cons.injEq] at h
      refine ⟨{ t with S := S }, y.1, ?_, ?_, ⟨f.b, f.r, fun _ => by simp at hm ⊢; omega⟩, rfl, .inr ⟨y, rfl, rfl⟩⟩
      · rw [tryRecv_hand hS hD, h.1]
      · unfold pipe; simp [hD]; exact h.2
    | cons d0 D =>
      rw [hD] at h hm
      simp only [List.cons_append, List.map_cons, List.cons.injEq] at h
      refine ⟨{ t with S := S, D := D ++ [t.W y.1.toNat] }, y.1, ?_, ?_, ⟨f.b, f.r, fun _ => by simpa using hm⟩, rfl, .inr ⟨y, rfl, rfl⟩⟩
      · rw [tryRecv_both hS hD, h.1]
      · unfold pipe; simp; exact h.2
theorem pipe_send {t : St} {id x : Int} (f : Flow t) (hd : t.D.length ≤ t.m) (h1 : 1 ≤ id ∧ id ≤ 16) (hn : ∀ y, y ∈ t.S → y.1 ≠ id) (hr : ∀ y, y ∈ t.S → 1 ≤ y.1) : ∃ t' k, send t id 1 x = (t', k, 0, 0) ∧ pipe t' = pipe t ++ [x] ∧ Flow t' ∧ t'.m = t.m ∧
    ((k = true ∧ t'.S = t.S) ∨ (k = false ∧ t'.S = t.S ++ [(id, 1)])) := by
  by_cases c : t.D.length < t.m
  · have hS : t.S = [] := Classical.byContradiction fun e => by have := f.full e; omega
    refine ⟨_, _, send_room f.r c, ?_, ⟨f.b, f.r, fun e => absurd hS e⟩, rfl, .inl ⟨rfl, rfl⟩⟩
    unfold pipe; simp [hS]
  · have hp := put_new hn h1 (pri := 1) (by omega)
    refine ⟨_, _, send_wait f.r c hp.1 (by rw [f.b]; exact hp.2), ?_, ⟨f.b, f.r, fun _ => by simp only; omega⟩, rfl, .inr ⟨rfl, rfl⟩⟩
    unfold pipe
    simp only [List.map_append, List.map_cons, List.map_nil, ← List.append_assoc]
    congr 1
    · congr 1
      refine List.map_congr_left fun y hy => ?_
      unfold setW
      rw [if_neg (by have := hn y hy; have := hr y hy; omega)]
    · unfold setW; simp

/-- who waits: all of 1 to n are too many -/
theorem all_in : ∀ (n : Nat) (L : List Int), (∀ j : Nat, 1 ≤ j → j ≤ n → (j : Int) ∈ L) → n ≤ L.length
  | 0, _, _ => Nat.zero_le _
  | n + 1, L, h => by
    have h1 : ((n + 1 : Nat) : Int) ∈ L := h (n + 1) (by omega) (by omega)
    have := all_in n (L.erase ((n + 1 : Nat) : Int)) (fun j h2 h3 => (List.mem_erase_of_ne (by omega)).2 (h j h2 (by omega)))
    rw [List.length_erase_of_mem h1] at this
    have := List.length_pos_of_mem h1
    omega
end Go.Proofs.Ytnbepahanhcmeaa
