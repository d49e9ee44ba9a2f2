/- One mutex of a kind that has no ceiling: who waits, in which order. -/
import Derived.Test.YtmicinenggkmlaaMtP
import Derived.Test.YtmicinenggkmlaaConL
namespace Go.Proofs.Ytmicinenggkmlaa
open Go.RowKit
set_option linter.unusedVariables false
set_option maxRecDepth 100000

structure Pz (S : St) (a own : Int) (L : List It) : Prop where
  n_ : S.n = 1
  a_ : S.A 0 = a
  o_ : S.O 0 = own
  q_ : S.Q 0 = L
  na : a ≠ 3
  no : ∀ x, x ∈ L → x.1 ≠ own
section
variable {S : St} {a own : Int} {L : List It}
theorem Pz.m1 (h : Pz S a own L) : isM S 1 ∧ ix 1 = 0 := by
  have := h.n_
  unfold isM ix
  omega
theorem Pz.pri (h : Pz S a own L) (f : Fine0 S) {t : Int} (ht : isT t) (ho : t ≠ own) : P S t = S.B t :=
  (Lk.self S).pri_none f ht fun i hi e => by
    obtain rfl : i = 0 := by have := h.n_; omega
    rw [h.o_] at e; exact ho e.symm
theorem Pz.rng (h : Pz S a own L) (f : Fine0 S) {x : It} (hx : x ∈ L) : isT x.1 := by
  have := (f.gd 0 (by rw [h.n_]; omega)).rng x (by rw [h.q_]; exact hx)
  unfold isT; omega
/-- nothing is told anew where the priorities of those who wait are their bases -/
theorem Pz.still (h : Pz S a own L) (f : Fine0 S) (ht : ∀ x, x ∈ L → x.2 = S.B x.1) : settle S = S := by
  refine Fine.settled ⟨f, fun i hi x hx => ?_⟩
  obtain rfl : i = 0 := by have := h.n_; omega
  rw [h.q_] at hx
  rw [h.pri f (h.rng f hx) (h.no x hx)]
  exact ht x hx
theorem Pz.told (h : Pz S a own L) (f : Fine S) {x : It} (hx : x ∈ L) : x.2 = S.B x.1 := by
  rw [← h.pri f.toFine0 (h.rng f.toFine0 hx) (h.no x hx)]
  exact f.told 0 (by rw [h.n_]; omega) x (by rw [h.q_]; exact hx)
theorem Pz.base (h : Pz S a own L) (f : Fine S) {t p : Int} (ht : isT t) (hp : 1 ≤ p ∧ p ≤ 16) (ho : t ≠ own) (hn : ∀ x, x ∈ L → x.1 ≠ t) : ∃ S', sbase S t p = (S', 0) ∧ Pz S' a own L ∧ S'.B t = p := by
  have h2 : Pz (setB S t p) a own L := ⟨h.n_, h.a_, h.o_, h.q_, h.na, h.no⟩
  have f2 := (f.setB (t := t) hp).1
  refine ⟨setB S t p, ?_, h2, ?_⟩
  · rw [sbase_ok ht hp (no_bad fun i hi => by
      obtain rfl : i = 0 := by have := h.n_; omega
      rw [h.a_]; exact h.na), h2.still f2 fun x hx => ?_]
    show x.2 = if x.1 = t then p else S.B x.1
    rw [if_neg (hn x hx)]
    exact h.told f hx
  · show (if t = t then p else S.B t) = p
    rw [if_pos rfl]
theorem Pz.lock (h : Pz S a own L) (f : Fine S) {t : Int} (ht : isT t) (h0 : own ≠ 0) (ho : t ≠ own) (hn : ∀ x, x ∈ L → x.1 ≠ t) : ∃ S', lockL S 1 t = (S', false, 0) ∧ Pz S' a own (addL (decide (a ≠ 0)) L t (S.B t)) := by
  obtain ⟨hM, hx⟩ := h.m1
  have h01 : 0 < S.n := by rw [h.n_]; omega
  have hw : ∀ j, j < S.n → ¬ inq S j t := fun j hj ⟨y, hy, e⟩ => by
    obtain rfl : j = 0 := by have := h.n_; omega
    rw [h.q_] at hy; exact hn y hy e
  have hbp : S.bp 0 = decide (a ≠ 0) := by unfold St.bp; rw [h.a_]
  have hwo : ∀ j, j < S.n → ¬ inq S j own := fun j hj ⟨y, hy, e⟩ => by
    obtain rfl : j = 0 := by have := h.n_; omega
    rw [h.q_] at hy; exact h.no y hy e
  have hc : circ S (S.O 0) t = false := by rw [h.o_]; exact (Lk.self S).short f.toFine0 (fun e => ho e.symm) (by unfold isT at ht; omega) hwo
  have hP := h.pri f.toFine0 ht ho
  have hq : (addQ S 0 t).Q 0 = addL (decide (a ≠ 0)) L t (S.B t) := by
    unfold addQ; simp only [upd_at]; rw [h.q_, hbp, hP]
  have hmem : ∀ x, x ∈ addL (decide (a ≠ 0)) L t (S.B t) → x = (t, S.B t) ∨ x ∈ L := fun x hx => by
    unfold addL at hx
    split at hx
    · exact mem_ins.1 hx
    · exact .inr hx
  have h2 : Pz (addQ S 0 t) a own (addL (decide (a ≠ 0)) L t (S.B t)) := ⟨h.n_, h.a_, h.o_, hq, h.na, fun x hx => by
    rcases hmem x hx with rfl | e
    · exact ho
    · exact h.no x e⟩
  have f2 := (f.addQ h01 ht hw (by rw [h.o_]; exact h0) hc).1
  refine ⟨addQ S 0 t, ?_, h2⟩
  rw [lockL_wait hM ht (by rw [hx, h.o_]; exact h0) (by rw [hx, h.o_]; exact fun e => ho e.symm) (no_over (by rw [hx, h.a_]; exact h.na)) hw (by rw [hx]; exact hc), hx, h2.still f2 fun x hx => ?_]
  show x.2 = S.B x.1
  rcases hmem x hx with rfl | e
  · rfl
  · exact h.told f e
theorem Pz.unlk {x : It} (h : Pz S a own (x :: L)) (f : Fine S) (ho : isT own) : ∃ S', Ytmicinenggkmlaa.unlk S 1 own = (S', x.1, 0) ∧ Pz S' a x.1 L := by
  obtain ⟨hM, hx⟩ := h.m1
  have h01 : 0 < S.n := by rw [h.n_]; omega
  have hg := f.gd 0 h01
  rw [h.q_] at hg
  have hno : ∀ y, y ∈ L → y.1 ≠ x.1 := fun y hy e => by
    have := hg.ids
    rw [List.map_cons, List.nodup_cons] at this
    exact this.1 (List.mem_map.2 ⟨y, hy, e⟩)
  have h2 : Pz (passQ S 0) a x.1 L := ⟨h.n_, h.a_, by unfold passQ; simp only [upd_at]; rw [h.q_]; rfl, by unfold passQ; simp only [upd_at]; rw [h.q_]; rfl, h.na, hno⟩
  have f2 := (f.passQ h01).1
  refine ⟨passQ S 0, ?_, h2⟩
  rw [unlk_ok hM ho (by rw [hx, h.o_]), hx]
  unfold passS
  rw [h2.still f2 fun y hy => h.told f (List.mem_cons_of_mem _ hy), h.q_]
  rfl
theorem Pz.last (h : Pz S a own []) (f : Fine S) (ho : isT own) : ∃ S', Ytmicinenggkmlaa.unlk S 1 own = (S', 0, 0) ∧ Pz S' a 0 [] := by
  obtain ⟨hM, hx⟩ := h.m1
  have h01 : 0 < S.n := by rw [h.n_]; omega
  have h2 : Pz (passQ S 0) a 0 [] := ⟨h.n_, h.a_, by unfold passQ; simp only [upd_at]; rw [h.q_]; rfl, by unfold passQ; simp only [upd_at]; rw [h.q_]; rfl, h.na, fun y hy => absurd hy List.not_mem_nil⟩
  have f2 := (f.passQ h01).1
  refine ⟨passQ S 0, ?_, h2⟩
  rw [unlk_ok hM ho (by rw [hx, h.o_]), hx]
  unfold passS
  rw [h2.still f2 fun y hy => absurd hy List.not_mem_nil, h.q_]
  rfl
theorem Pz.owns (h : Pz S a own L) : Ytmicinenggkmlaa.owns S 1 = own := by
  obtain ⟨hM, hx⟩ := h.m1
  unfold Ytmicinenggkmlaa.owns
  rw [if_pos hM, hx, h.o_]
end
/-- one mutex, taken -/
theorem Pz.new {a t : Int} (ha : 0 ≤ a ∧ a ≤ 2) (ht : isT t) : ∃ S', lockL (St.new [(a, 0)].length (kA [(a, 0)]) (kC [(a, 0)])) 1 t = (S', true, 0) ∧ Pz S' a t [] := by
  have hM : isM (St.new [(a, 0)].length (kA [(a, 0)]) (kC [(a, 0)])) 1 := ⟨by omega, by show (1 : Int) ≤ 1; omega⟩
  refine ⟨_, lockL_free hM ht rfl (no_over (by show a ≠ 3; omega)) (fun j _ ⟨y, hy, _⟩ => absurd hy List.not_mem_nil), rfl, rfl, upd_at (fun _ => (0 : Int)) 0 t, rfl, by omega, fun y hy => absurd hy List.not_mem_nil⟩
/-- without priorities: as they came -/
theorem fil_arr {f : Nat → Int} : ∀ {t : Nat}, (fil false f t).Pairwise (fun x y => x.1 < y.1)
  | 0 => by simp [fil]
  | t + 1 => by
    have e : fil false f (t + 1) = fil false f t ++ [(((t + 1 : Nat) : Int), f t)] := by
      rw [fil]; unfold ins plc
      simp
    rw [e]
    refine List.pairwise_append.2 ⟨fil_arr, by simp, fun x hx y hy => ?_⟩
    obtain ⟨j, hj, rfl⟩ := fil_mem hx
    simp only [List.mem_singleton] at hy
    subst hy
    simp only
    omega
end Go.Proofs.Ytmicinenggkmlaa
