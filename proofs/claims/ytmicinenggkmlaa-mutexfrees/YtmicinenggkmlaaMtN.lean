/- What the laws of package mtx reckon: mutexes but for the order in which they wait. -/
import Derived.Test.YtmicinenggkmlaaMtL
namespace Go.Proofs.Ytmicinenggkmlaa
open Go.RowKit
set_option linter.unusedVariables false
set_option maxRecDepth 100000

theorem only {b : Bool} {L : List It} (hg : Good b L) {u : Int} (h : ∀ s, (∃ y, y ∈ L ∧ y.1 = s) ↔ s = u ∧ u ≠ 0) : fst L = u ∧ L.tail = [] := by
  match L, hg, h with
  | [], _, h =>
    refine ⟨?_, rfl⟩
    by_cases c : u = 0
    · exact c.symm
    · obtain ⟨y, hy, _⟩ := (h u).2 ⟨rfl, c⟩; cases hy
  | [x], _, h => exact ⟨((h x.1).1 ⟨x, List.mem_cons_self, rfl⟩).1, rfl⟩
  | x :: y :: L, hg, h =>
    exfalso
    have h1 := ((h x.1).1 ⟨x, List.mem_cons_self, rfl⟩).1
    have h2 := ((h y.1).1 ⟨y, List.mem_cons_of_mem _ List.mem_cons_self, rfl⟩).1
    have h3 := hg.ids
    simp only [List.map_cons, List.nodup_cons, List.mem_cons] at h3
    exact h3.1 (.inl (h1.trans h2.symm))

/-- what there is, but for the order in which they wait -/
structure Lk (S : St) (n : Nat) (A C O : Nat → Int) (W : Nat → Int → Prop) (B : Int → Int) : Prop where
  n_ : S.n = n
  k : ∀ i, i < n → S.A i = A i ∧ S.C i = C i ∧ S.O i = O i
  w : ∀ i, i < n → ∀ t, inq S i t ↔ W i t
  b : ∀ t, isT t → S.B t = B t

section
variable {S : St} {n : Nat} {A C O : Nat → Int} {W : Nat → Int → Prop} {B : Int → Int}
theorem Lk.to (h : Lk S n A C O W B) {O' : Nat → Int} {W' : Nat → Int → Prop} {B' : Int → Int} (hO : ∀ i, i < n → O i = O' i) (hW : ∀ i, i < n → ∀ t, W i t ↔ W' i t) (hB : ∀ t, isT t → B t = B' t) : Lk S n A C O' W' B' :=
  ⟨h.n_, fun i hi => ⟨(h.k i hi).1, (h.k i hi).2.1, (h.k i hi).2.2.trans (hO i hi)⟩, fun i hi t => (h.w i hi t).trans (hW i hi t), fun t ht => (h.b t ht).trans (hB t ht)⟩
theorem Lk.self (S : St) : Lk S S.n S.A S.C S.O (inq S) S.B := ⟨rfl, fun _ _ => ⟨rfl, rfl, rfl⟩, fun _ _ _ => Iff.rfl, fun _ _ => rfl⟩
theorem Lk.settle (h : Lk S n A C O W B) : Lk (settle S) n A C O W B := ⟨h.n_, h.k, fun i hi t => (settle_inq i t).symm.trans (h.w i hi t), h.b⟩
theorem Lk.new (n : Nat) (A C : Nat → Int) : Lk (St.new n A C) n A C (fun _ => 0) (fun _ _ => False) (fun _ => 16) :=
  ⟨rfl, fun _ _ => ⟨rfl, rfl, rfl⟩, fun _ _ _ => ⟨fun ⟨_, h, _⟩ => absurd h List.not_mem_nil, fun h => h.elim⟩, fun _ _ => rfl⟩
theorem Lk.im (h : Lk S n A C O W B) {i : Nat} {m : Int} (hi : i < n) (hm : m = (i : Int) + 1) : isM S m ∧ ix m = i := by
  have := h.n_
  unfold isM ix
  omega
theorem Lk.ow (h : Lk S n A C O W B) {i : Nat} {m : Int} (hi : i < n) (hm : m = (i : Int) + 1) : owns S m = O i := by
  obtain ⟨h1, h2⟩ := h.im hi hm
  unfold owns; rw [if_pos h1, h2, (h.k i hi).2.2]
theorem Lk.sbase (h : Lk S n A C O W B) {t p : Int} (ht : isT t) (hp : 1 ≤ p ∧ p ≤ 16) (hb : ∀ i, i < n → A i = 3 → C i ≤ p ∨ (O i ≠ t ∧ ¬ W i t)) : ∃ S', Ytmicinenggkmlaa.sbase S t p = (S', 0) ∧ Lk S' n A C O W (fun s => if s = t then p else B s) := by
  refine ⟨_, sbase_ok ht hp ?_, Lk.settle ⟨h.n_, h.k, h.w, fun s hs => ?_⟩⟩
  · rintro ⟨i, hi, ⟨h1, h2⟩, h3⟩
    rw [h.n_] at hi
    obtain ⟨e1, e2, e3⟩ := h.k i hi
    rcases hb i hi (by rw [← e1]; exact h1) with e | ⟨e4, e5⟩
    · omega
    · rcases h3 with e | e
      · exact e4 (by rw [← e3]; exact e)
      · exact e5 ((h.w i hi t).1 e)
  · show (if s = t then p else S.B s) = if s = t then p else B s
    split
    · rfl
    · exact h.b s hs
theorem Lk.lock_free (h : Lk S n A C O W B) {i : Nat} {m t : Int} (hi : i < n) (hm : m = (i : Int) + 1) (ht : isT t) (h0 : O i = 0) (hov : ¬ (A i = 3 ∧ B t < C i)) (hw : ∀ j, j < n → ¬ W j t) :
    ∃ S', lockL S m t = (S', true, 0) ∧ Lk S' n A C (upd O i t) W B := by
  obtain ⟨hM, hx⟩ := h.im hi hm
  have hk := h.k i hi
  refine ⟨_, lockL_free hM ht (by rw [hx, hk.2.2, h0]) (fun e => hov ?_) (fun j hj c => hw j (by rw [← h.n_]; exact hj) ((h.w j (by rw [← h.n_]; exact hj) t).1 c)), ?_⟩
  · rw [hx] at e; unfold over at e; rw [hk.1, hk.2.1, h.b t ht] at e; exact e
  · rw [hx]
    refine ⟨h.n_, fun j hj => ⟨(h.k j hj).1, (h.k j hj).2.1, ?_⟩, h.w, h.b⟩
    show upd S.O i t j = upd O i t j
    unfold upd
    split
    · rfl
    · exact (h.k j hj).2.2
theorem Lk.lock_over (h : Lk S n A C O W B) {i : Nat} {m t : Int} (hi : i < n) (hm : m = (i : Int) + 1) (ht : isT t) (hov : A i = 3 ∧ B t < C i) : lockL S m t = (S, false, -28) := by
  obtain ⟨hM, hx⟩ := h.im hi hm
  have hk := h.k i hi
  refine lockL_own hM ht (.inr ?_)
  rw [hx]; unfold over; rw [hk.1, hk.2.1, h.b t ht]; exact hov
theorem Lk.lock_wait (f : Fine S) (h : Lk S n A C O W B) {i : Nat} {m t : Int} (hi : i < n) (hm : m = (i : Int) + 1) (ht : isT t) (h0 : O i ≠ 0) (h1 : O i ≠ t) (hov : ¬ (A i = 3 ∧ B t < C i)) (hw : ∀ j, j < n → ¬ W j t) (hc : circ S (O i) t = false) :
    ∃ S', lockL S m t = (S', false, 0) ∧ Lk S' n A C O (fun j s => W j s ∨ (j = i ∧ s = t)) B := by
  obtain ⟨hM, hx⟩ := h.im hi hm
  have hk := h.k i hi
  have hw' : ∀ j, j < S.n → ¬ inq S j t := fun j hj c => hw j (by rw [← h.n_]; exact hj) ((h.w j (by rw [← h.n_]; exact hj) t).1 c)
  refine ⟨_, lockL_wait hM ht (by rw [hx, hk.2.2]; exact h0) (by rw [hx, hk.2.2]; exact h1) (fun e => hov ?_) hw' (by rw [hx, hk.2.2]; exact hc), Lk.settle ⟨h.n_, h.k, fun j hj s => ?_, h.b⟩⟩
  · rw [hx] at e; unfold over at e; rw [hk.1, hk.2.1, h.b t ht] at e; exact e
  rw [hx]
  have hp := f.toFine0.pri ht.1 ht.2
  by_cases c : j = i
  · subst c
    have hq : (addQ S j t).Q j = ins (S.Q j) (plc (S.bp j) (S.Q j) (P S t)) (t, P S t) := by
      unfold addQ; simp only [upd_at]; unfold addL
      rw [if_pos ⟨ht, hp, fun c => hw' j (by rw [h.n_]; exact hj) (pos_lt.1 c)⟩]
    constructor
    · rintro ⟨y, hy, rfl⟩
      rw [hq, mem_ins] at hy
      rcases hy with rfl | hy
      · exact .inr ⟨rfl, rfl⟩
      · exact .inl ((h.w j hj _).1 ⟨y, hy, rfl⟩)
    · rintro (e | ⟨_, rfl⟩)
      · obtain ⟨y, hy, e⟩ := (h.w j hj s).2 e
        exact ⟨y, by rw [hq, mem_ins]; exact .inr hy, e⟩
      · exact ⟨(s, P S s), by rw [hq, mem_ins]; exact .inl rfl, rfl⟩
  · have hq : (addQ S i t).Q j = S.Q j := by unfold addQ; simp only [upd_ne _ _ c]
    unfold inq; rw [hq]
    exact ⟨fun e => .inl ((h.w j hj s).1 e), fun e => (h.w j hj s).2 (e.resolve_right (fun e => c e.1))⟩
theorem Lk.pass (f : Fine S) (h : Lk S n A C O W B) {i : Nat} {u : Int} (hi : i < n) (hu : ∀ s, W i s ↔ s = u ∧ u ≠ 0) : fst (S.Q i) = u ∧ Lk (passS S i) n A C (upd O i u) (fun j s => W j s ∧ j ≠ i) B := by
  obtain ⟨h1, h2⟩ := only (f.gd i (by rw [h.n_]; exact hi)) (fun s => (h.w i hi s).trans (hu s))
  refine ⟨h1, Lk.settle ⟨h.n_, fun j hj => ⟨(h.k j hj).1, (h.k j hj).2.1, ?_⟩, fun j hj s => ?_, h.b⟩⟩
  · show upd S.O i (fst (S.Q i)) j = upd O i u j
    rw [h1]
    unfold upd
    split
    · rfl
    · exact (h.k j hj).2.2
  · by_cases c : j = i
    · subst c
      have hq : (passQ S j).Q j = [] := by unfold passQ; simp only [upd_at]; exact h2
      unfold inq; rw [hq]
      exact ⟨fun ⟨_, e, _⟩ => absurd e List.not_mem_nil, fun e => absurd rfl e.2⟩
    · have hq : (passQ S i).Q j = S.Q j := by unfold passQ; simp only [upd_ne _ _ c]
      unfold inq; rw [hq]
      exact ⟨fun e => ⟨(h.w j hj s).1 e, c⟩, fun e => (h.w j hj s).2 e.1⟩
theorem Lk.unlk (f : Fine S) (h : Lk S n A C O W B) {i : Nat} {m t u : Int} (hi : i < n) (hm : m = (i : Int) + 1) (ht : isT t) (ho : O i = t) (hu : ∀ s, W i s ↔ s = u ∧ u ≠ 0) :
    ∃ S', Ytmicinenggkmlaa.unlk S m t = (S', u, 0) ∧ Lk S' n A C (upd O i u) (fun j s => W j s ∧ j ≠ i) B := by
  obtain ⟨hM, hx⟩ := h.im hi hm
  obtain ⟨h1, h2⟩ := h.pass f hi hu
  refine ⟨passS S i, ?_, h2⟩
  rw [unlk_ok hM ht (by rw [hx, (h.k i hi).2.2, ho]), hx, h1]

/-- the holder waits nowhere: no round -/
theorem Lk.short (f : Fine0 S) (h : Lk S n A C O W B) {o t : Int} (ho : o ≠ t) (ht : t ≠ 0) (hw : ∀ j, j < n → ¬ W j o) : circ S o t = false := circ_no fun k hk => by
  cases k with
  | zero => exact ho
  | succ k =>
    have e1 : itr S o 1 = 0 := by
      show nx S o = 0
      unfold nx
      rw [if_neg]
      rw [fi_none (fun j hj c => hw j (by rw [← h.n_]; exact hj) ((h.w j (by rw [← h.n_]; exact hj) o).1 c))]
      omega
    have := itr_zero f e1 k
    rw [Nat.add_comm] at this
    rw [this]; exact ht.symm

/-! ### priorities -/
theorem Lk.pri_le (f : Fine0 S) (h : Lk S n A C O W B) {t x : Int} (ht : isT t) (hx : x < 16) : P S t ≤ x ↔ B t ≤ x ∨ ∃ i, i < n ∧ O i = t ∧ ((A i = 3 ∧ C i ≤ x) ∨ (A i = 2 ∧ ∃ s, W i s ∧ P S s ≤ x)) := by
  rw [P_le f.ac hx, h.b t ht, h.n_]
  refine or_congr Iff.rfl ⟨?_, ?_⟩
  · rintro ⟨i, hi, ho, e⟩
    obtain ⟨e1, e2, e3⟩ := h.k i hi
    refine ⟨i, hi, by rw [← e3]; exact ho, ?_⟩
    rw [e1, e2] at e
    exact e.imp id fun ⟨e, y, hy, e4⟩ => ⟨e, y.1, (h.w i hi _).1 ⟨y, hy, rfl⟩, e4⟩
  · rintro ⟨i, hi, ho, e⟩
    obtain ⟨e1, e2, e3⟩ := h.k i hi
    refine ⟨i, hi, by rw [e3]; exact ho, ?_⟩
    rw [e1, e2]
    exact e.imp id fun ⟨e, s, hs, e4⟩ => by
      obtain ⟨y, hy, e5⟩ := (h.w i hi s).2 hs
      exact ⟨e, y, hy, by rw [e5]; exact e4⟩
theorem Lk.pri_eq (f : Fine0 S) (h : Lk S n A C O W B) {t c : Int} (ht : isT t) (hc : c ≤ 16) (hh : ∀ x, x < 16 → ((B t ≤ x ∨ ∃ i, i < n ∧ O i = t ∧ ((A i = 3 ∧ C i ≤ x) ∨ (A i = 2 ∧ ∃ s, W i s ∧ P S s ≤ x))) ↔ c ≤ x)) : P S t = c := by
  have hp := f.pri ht.1 ht.2
  have h1 : ∀ x, x < 16 → (P S t ≤ x ↔ c ≤ x) := fun x hx => (h.pri_le f ht hx).trans (hh x hx)
  by_cases c1 : P S t < 16
  · have := (h1 _ c1).1 (Int.le_refl _)
    by_cases c2 : c < 16
    · have := (h1 _ c2).2 (Int.le_refl _); omega
    · omega
  · by_cases c2 : c < 16
    · have := (h1 _ c2).2 (Int.le_refl _); omega
    · omega
/-- who holds nothing -/
theorem Lk.pri_none (f : Fine0 S) (h : Lk S n A C O W B) {t : Int} (ht : isT t) (ho : ∀ i, i < n → O i ≠ t) : P S t = B t :=
  h.pri_eq f ht (by rw [← h.b t ht]; exact (f.bs t ht.1 ht.2).2) fun x _ => ⟨fun e => e.elim id fun ⟨i, hi, e, _⟩ => absurd e (ho i hi), .inl⟩
theorem pri_is {S : St} {t : Int} (ht : isT t) : pri S t = P S t := by unfold pri; rw [if_pos ht]
theorem hel_none {S : St} {t : Int} : ∀ k, (∀ i, i < k → S.O i ≠ t) → hel S t k = []
  | 0, _ => rfl
  | k + 1, h => by
    unfold hel
    rw [if_neg (h k (by omega))]
    exact hel_none k fun i hi => h i (by omega)
theorem Lk.held_none (h : Lk S n A C O W B) {t : Int} (ho : ∀ i, i < n → O i ≠ t) : held S t = [] := by
  unfold held
  split
  · exact hel_none _ fun i hi => by rw [h.n_] at hi; rw [(h.k i hi).2.2]; exact ho i hi
  · rfl

/-! ### all that a task holds, freed; at most one waits for each -/
def gone (O : Nat → Int) (u : Nat → Int) (t : Int) : Nat → List Int
  | 0 => []
  | k + 1 => if O k = t then gone O u t k ++ (if u k = 0 then [] else [u k]) else gone O u t k
theorem Lk.frk (f : Fine S) (h : Lk S n A C O W B) {t : Int} {u : Nat → Int} (hu : ∀ i, i < n → ∀ s, W i s ↔ s = u i ∧ u i ≠ 0) : ∀ k, k ≤ n →
    (frk S t k).2 = gone O u t k ∧ Lk (frk S t k).1 n A C (fun j => if j < k ∧ O j = t then u j else O j) (fun j s => W j s ∧ ¬ (j < k ∧ O j = t)) B
  | 0, _ => ⟨rfl, h.to (fun i _ => by rw [if_neg (by omega)]) (fun i _ s => ⟨fun e => ⟨e, by omega⟩, fun e => e.1⟩) fun _ _ => rfl⟩
  | k + 1, hk => by
    obtain ⟨h1, h2⟩ := Lk.frk f h hu k (by omega)
    have hf := f.frk t k (by rw [h.n_]; omega)
    have hk' : k < n := by omega
    obtain ⟨h3, h4⟩ := h2.pass hf (i := k) (u := u k) hk' (fun s => by
      rw [← hu k hk' s]
      exact ⟨fun e => e.1, fun e => ⟨e, by omega⟩⟩)
    unfold Ytmicinenggkmlaa.frk gone
    rw [(h.k k hk').2.2]
    by_cases c : O k = t
    · rw [if_pos c, if_pos c, h3, h1]
      refine ⟨rfl, h4.to (fun j hj => ?_) (fun j hj s => ?_) fun _ _ => rfl⟩
      · by_cases e : j = k
        · subst e; rw [upd_at, if_pos ⟨by omega, c⟩]
        · rw [upd_ne _ _ e]
          by_cases e2 : j < k ∧ O j = t
          · rw [if_pos e2, if_pos ⟨by omega, e2.2⟩]
          · rw [if_neg e2, if_neg (fun e3 => e2 ⟨by omega, e3.2⟩)]
      · constructor
        · rintro ⟨⟨e1, e2⟩, e3⟩
          exact ⟨e1, fun e4 => e2 ⟨by omega, e4.2⟩⟩
        · rintro ⟨e1, e2⟩
          exact ⟨⟨e1, fun e4 => e2 ⟨by omega, e4.2⟩⟩, fun e4 => e2 ⟨by omega, by rw [e4]; exact c⟩⟩
    · rw [if_neg c, if_neg c]
      refine ⟨h1, h2.to (fun j hj => ?_) (fun j hj s => ?_) fun _ _ => rfl⟩
      · by_cases e2 : j < k ∧ O j = t
        · rw [if_pos e2, if_pos ⟨by omega, e2.2⟩]
        · rw [if_neg e2, if_neg (fun e3 => e2 ⟨by
            have := e3.1
            by_cases e4 : j = k
            · subst e4; exact absurd e3.2 c
            · omega, e3.2⟩)]
      · refine and_congr Iff.rfl (not_congr ⟨fun e => ⟨by omega, e.2⟩, fun e => ⟨?_, e.2⟩⟩)
        have := e.1
        by_cases e4 : j = k
        · subst e4; exact absurd e.2 c
        · omega
theorem Lk.fre (f : Fine S) (h : Lk S n A C O W B) {t : Int} (ht : isT t) {u : Nat → Int} (hu : ∀ i, i < n → ∀ s, W i s ↔ s = u i ∧ u i ≠ 0) :
    ∃ S', Ytmicinenggkmlaa.fre S t = (S', gone O u t n) ∧ Lk S' n A C (fun j => if O j = t then u j else O j) (fun j s => W j s ∧ O j ≠ t) B := by
  obtain ⟨h1, h2⟩ := h.frk f (t := t) hu n (Nat.le_refl _)
  refine ⟨(Ytmicinenggkmlaa.frk S t n).1, ?_, h2.to (fun j hj => ?_) (fun j hj s => ?_) fun _ _ => rfl⟩
  · unfold Ytmicinenggkmlaa.fre
    rw [if_pos ht, h.n_, ← h1]
  · by_cases e : O j = t
    · rw [if_pos ⟨hj, e⟩, if_pos e]
    · rw [if_neg (fun e2 => e e2.2), if_neg e]
  · exact and_congr Iff.rfl ⟨fun e e2 => e ⟨hj, e2⟩, fun e e2 => e e2.2⟩
end
end Go.Proofs.Ytmicinenggkmlaa
