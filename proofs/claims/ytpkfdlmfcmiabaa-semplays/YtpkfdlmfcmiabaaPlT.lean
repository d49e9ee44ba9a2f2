/-
  detentlaw11.SemPlays: the program's semaphore and the document's side by side, with the call's own struct; what each call makes of them.
-/
import Derived.Test.YtpkfdlmfcmiabaaPlO
import Derived.Deep.RegionHeld3
namespace Go.Proofs.Ytpkfdlmfcmiabaa.semPlays
open Go.RowKit
set_option linter.unusedVariables false

theorem m_of_sig {S S' : St} {t k : Int} (h : sig S = (S', t, k)) : S'.m = S.m := by
  obtain ⟨b, L, c, m⟩ := S
  unfold sig at h
  cases L with
  | cons x L => simp only [Prod.mk.injEq] at h; rw [← h.1]
  | nil => simp only at h; split at h <;> (simp only [Prod.mk.injEq] at h; rw [← h.1])
theorem m_of_wait {S S' : St} {id pri k : Int} {r : Bool} (h : wait S id pri = (S', r, k)) : S'.m = S.m := by
  unfold wait at h; split at h <;> (simp only [Prod.mk.injEq] at h; rw [← h.1])
theorem m_of_poll {S S' : St} {r : Bool} (h : poll S = (S', r)) : S'.m = S.m := by
  unfold poll at h; split at h <;> (simp only [Prod.mk.injEq] at h; rw [← h.1])

/-- the call's struct, as the law holds it -/
def Cl (w : World) (s : Nat) (x0 x1 x2 : Int) : Prop := w.heap[s]? = some (.cells #[.int .i64 x0, .int .i64 x1, .int .i64 x2] 32 (0, 0))
theorem Cl.lt {w : World} {s : Nat} {x0 x1 x2 : Int} (h : Cl w s x0 x1 x2) : s < w.heap.size := lt_of_heap h
theorem Cl.off {w : World} {s : Nat} {x0 x1 x2 : Int} (h : Cl w s x0 x1 x2) {g : Nat} {cs : Array Value} {T : TypeId} {fr : Nat × Nat} (hg : w.heap[g]? = some (.cells cs T fr)) (hT : T ≠ 32) : s ≠ g := by
  rintro rfl; unfold Cl at h; rw [h] at hg; injection hg with hg; injection hg with _ h3; exact hT h3.symm
theorem Cl.p {w w' : World} {a s p : Nat} {x0 x1 x2 : Int} {S : St} (h : Cl w a x0 x1 x2) (g : Sq w s p S) (k : On2 s p w w') : Cl w' a x0 x1 x2 := by
  obtain ⟨f, ⟨cs, hh, _⟩, _⟩ := g.2
  exact (k.block a h.lt (h.off g.1 (by decide)) (h.off hh (by decide))).trans h
theorem Cl.d {w w' : World} {a s q : Nat} {x0 x1 x2 : Int} {S : St} (h : Cl w a x0 x1 x2) (g : Rs w s q S) (k : On2 s q w w') : Cl w' a x0 x1 x2 := by
  obtain ⟨X, c, hh, _⟩ := g.2
  exact (k.block a h.lt (h.off g.1 (by decide)) (h.off hh (by decide))).trans h

/-- both, and the call's struct -/
structure Pl (w : World) (a : Nat) (x0 x1 x2 : Int) (s p : Nat) (S : St) (u q : Nat) (R : St) (W : World) : Prop where
  at_ : At w s p S W
  rs : Rs W u q R
  cl : Cl W a x0 x1 x2
  bu : w.heap.size ≤ u
  bq : w.heap.size ≤ q

section
variable {w W W' : World} {a s p u q : Nat} {x0 x1 x2 : Int} {S R : St}

theorem Pl.below (h : Pl w a x0 x1 x2 s p S u q R W) (k : Below W.heap.size W W') : Pl w a x0 x1 x2 s p S u q R W' :=
  ⟨h.at_.below k, h.rs.below k, (k.block a h.cl.lt).trans h.cl, h.bu, h.bq⟩
theorem Pl.drew (h : Pl w a x0 x1 x2 s p S u q R W) : Pl w a x0 x1 x2 s p S u q R W.drew := h.below (Below.refl _ _).drew
theorem Pl.turnP (h : Pl w a x0 x1 x2 s p S u q R W) {S' : St} (g : Sq W' s p S') (k : On2 s p W W') : Pl w a x0 x1 x2 s p S' u q R W' :=
  ⟨⟨h.at_.1, h.at_.2.1, g, h.at_.b.trans (k.below h.at_.b.size h.at_.1 h.at_.2.1)⟩, h.rs.keep h.at_.sq k, h.cl.p h.at_.sq k, h.bu, h.bq⟩
theorem Pl.turnD (h : Pl w a x0 x1 x2 s p S u q R W) {R' : St} (g : Rs W' u q R') (k : On2 u q W W') : Pl w a x0 x1 x2 s p S u q R' W' :=
  ⟨⟨h.at_.1, h.at_.2.1, h.at_.sq.keep h.rs k, h.at_.b.trans (k.below h.at_.b.size h.bu h.bq)⟩, g, h.cl.d h.rs k, h.bu, h.bq⟩
theorem Pl.cells (h : Pl w a x0 x1 x2 s p S u q R W) : W.cell? ⟨s, 0, none⟩ = some (.pointer (some ⟨p, 0, none⟩)) ∧ W.cell? ⟨s, 1, none⟩ = some (.int .i64 S.c) ∧ W.cell? ⟨s, 2, none⟩ = some (.int .i64 S.m) ∧
    W.cell? ⟨u, 0, none⟩ = some (.pointer (some ⟨q, 0, none⟩)) ∧ W.cell? ⟨u, 1, none⟩ = some (.int .i64 R.c) ∧ W.cell? ⟨a, 1, none⟩ = some (.int .i64 x1) ∧ W.cell? ⟨a, 2, none⟩ = some (.int .i64 x2) := by
  refine ⟨h.at_.c0, h.at_.c1, h.at_.c2, h.rs.1.c0, h.rs.1.c1, ?_, ?_⟩ <;> rw [cell_of_row _ _ _ _ _ _ h.cl] <;> rfl

theorem signal_p {S' : St} {t k : Int} (h : Pl w a x0 x1 x2 s p S u q R W) (hf : Fine S) (hs : sig S = (S', t, k)) :
    Calls Try.prog 10 #[.pointer (some ⟨s, 0, none⟩)] W fun e W' => e = .returned (.tuple #[.int .i64 t, .int .i64 k]) ∧ Pl w a x0 x1 x2 s p S' u q R W' := by
  refine (signal_any s p S S' t k W h.at_.sq hf hs).mono ?_
  rintro e w2 ⟨rfl, h2, ho⟩
  exact ⟨rfl, h.turnP h2 ho⟩
theorem signal_d {R' : St} {t k : Int} (h : Pl w a x0 x1 x2 s p S u q R W) (hf : Fine R) (hs : sig R = (R', t, k)) :
    Calls Try.prog 11 #[.pointer (some ⟨u, 0, none⟩)] W fun e W' => e = .returned (.tuple #[.int .i64 t, .int .i64 k]) ∧ Pl w a x0 x1 x2 s p S u q R' W' := by
  refine (rsignal_any u q R R' t k W h.rs hf hs).mono ?_
  rintro e w2 ⟨rfl, h2, ho⟩
  exact ⟨rfl, h.turnD h2 ho⟩
theorem wait_p {S' : St} {r : Bool} {k : Int} (id pri : Int) (h : Pl w a x0 x1 x2 s p S u q R W) (hf : Fine S) (hs : wait S id pri = (S', r, k)) :
    Calls Try.prog 12 #[.pointer (some ⟨s, 0, none⟩), .int .i64 id, .int .i64 pri] W fun e W' => e = .returned (.tuple #[.bool r, .int .i64 k]) ∧ Pl w a x0 x1 x2 s p S' u q R W' := by
  refine (wait_any s p S S' id pri r k W h.at_.sq hf hs).mono ?_
  rintro e w2 ⟨rfl, h2, ho⟩
  exact ⟨rfl, h.turnP h2 ho⟩
theorem wait_d {R' : St} {r : Bool} {k : Int} (id pri : Int) (h : Pl w a x0 x1 x2 s p S u q R W) (hf : Fine R) (hs : wait R id pri = (R', r, k)) :
    Calls Try.prog 13 #[.pointer (some ⟨u, 0, none⟩), .int .i64 id, .int .i64 pri] W fun e W' => e = .returned (.tuple #[.bool r, .int .i64 k]) ∧ Pl w a x0 x1 x2 s p S u q R' W' := by
  refine (rwait_any u q R R' id pri r k W h.rs hf hs).mono ?_
  rintro e w2 ⟨rfl, h2, ho⟩
  exact ⟨rfl, h.turnD h2 ho⟩
theorem poll_p {S' : St} {r : Bool} (h : Pl w a x0 x1 x2 s p S u q R W) (hf : Fine S) (hs : poll S = (S', r)) :
    Calls Try.prog 14 #[.pointer (some ⟨s, 0, none⟩)] W fun e W' => e = .returned (.bool r) ∧ Pl w a x0 x1 x2 s p S' u q R W' := by
  refine (poll_any s p S S' r W h.at_.sq hf hs).mono ?_
  rintro e w2 ⟨rfl, h2, ho⟩
  exact ⟨rfl, h.turnP h2 ho⟩
theorem poll_d {R' : St} {r : Bool} (h : Pl w a x0 x1 x2 s p S u q R W) (hf : Fine R) (hs : poll R = (R', r)) :
    Calls Try.prog 15 #[.pointer (some ⟨u, 0, none⟩)] W fun e W' => e = .returned (.bool r) ∧ Pl w a x0 x1 x2 s p S u q R' W' := by
  refine (rpoll_any u q R R' r W h.rs hf hs).mono ?_
  rintro e w2 ⟨rfl, h2, ho⟩
  exact ⟨rfl, h.turnD h2 ho⟩
theorem remove_p (id : Int) (h : Pl w a x0 x1 x2 s p S u q R W) (hf : Fine S) {r : Bool} (hr : decide (pos S.L id < S.L.length) = r) :
    Calls Try.prog 16 #[.pointer (some ⟨p, 0, none⟩), .int .i64 id] W fun e W' => e = .returned (.bool r) ∧ Pl w a x0 x1 x2 s p (rem S id) u q R W' := by
  subst hr
  refine (remove_any p 51 S.b S.L W h.at_.sq.2 hf.q.len id).mono ?_
  rintro e w2 ⟨rfl, h2, ho⟩
  exact ⟨rfl, h.turnP ⟨h.at_.sq.1.only ho h.at_.sq.ne, h2⟩ (On2.one ho)⟩
theorem remove_d (id : Int) (h : Pl w a x0 x1 x2 s p S u q R W) (hf : Fine R) {r : Bool} (hr : decide (pos R.L id < R.L.length) = r) :
    Calls Try.prog 17 #[.pointer (some ⟨q, 0, none⟩), .int .i64 id] W fun e W' => e = .returned (.bool r) ∧ Pl w a x0 x1 x2 s p S u q (rem R id) W' := by
  subst hr
  refine (rremove_any q R.b R.L W h.rs.2 hf.q.len id).mono ?_
  rintro e w2 ⟨rfl, h2, ho⟩
  exact ⟨rfl, h.turnD ⟨h.rs.1.only ho h.rs.ne, h2⟩ (On2.one ho)⟩
theorem change_p (id pri : Int) (h : Pl w a x0 x1 x2 s p S u q R W) (hf : Fine S) {r : Bool} (hr : chgOk S.L id pri = r) :
    Calls Try.prog 18 #[.pointer (some ⟨p, 0, none⟩), .int .i64 id, .int .i64 pri] W fun e W' => e = .returned (.bool r) ∧ Pl w a x0 x1 x2 s p (chg S id pri) u q R W' := by
  subst hr
  refine (change_any p S.b S.L W h.at_.sq.2 hf.q id pri).mono ?_
  rintro e w2 ⟨rfl, h2, ho⟩
  exact ⟨rfl, h.turnP ⟨h.at_.sq.1.only ho h.at_.sq.ne, h2⟩ (On2.one ho)⟩
theorem change_d (id pri : Int) (h : Pl w a x0 x1 x2 s p S u q R W) (hf : Fine R) {r : Bool} (hr : chgOk R.L id pri = r) :
    Calls Try.prog 19 #[.pointer (some ⟨q, 0, none⟩), .int .i64 id, .int .i64 pri] W fun e W' => e = .returned (.bool r) ∧ Pl w a x0 x1 x2 s p S u q (chg R id pri) W' := by
  subst hr
  refine (rchange_any q R.b R.L W h.rs.2 hf.q id pri).mono ?_
  rintro e w2 ⟨rfl, h2, ho⟩
  exact ⟨rfl, h.turnD ⟨h.rs.1.only ho h.rs.ne, h2⟩ (On2.one ho)⟩
/-- one apart; the elder one is there still -/
theorem apart_p (h : Pl w a x0 x1 x2 s p S u q R W) :
    Calls Try.prog 20 #[.pointer (some ⟨s, 0, none⟩)] W fun e W' => ∃ s' p', e = .returned (.pointer (some ⟨s', 0, none⟩)) ∧ Pl w a x0 x1 x2 s' p' S u q R W' ∧ Sq W' s p S ∧ s' ≠ s ∧ p' ≠ p := by
  refine (apart_ok s p S W h.at_.sq).mono ?_
  rintro e w2 ⟨_, rfl, s', p', h1, h2, rfl, h3, h4⟩
  have l1 := h.at_.sq.1.lt
  have l2 := h.at_.sq.2.lt
  have hb := h.at_.b.size
  have k := h.below h4
  exact ⟨s', p', rfl, ⟨⟨by omega, by omega, h3, k.at_.b⟩, k.rs, k.cl, k.bu, k.bq⟩, k.at_.sq, by omega, by omega⟩
theorem signal_old {s' p' : Nat} {T T' : St} {t k : Int} (h : Pl w a x0 x1 x2 s p S u q R W) (g : Sq W s' p' T) (hf : Fine T) (h1 : s ≠ s') (h2 : p ≠ p') (b1 : w.heap.size ≤ s') (b2 : w.heap.size ≤ p') (hs : sig T = (T', t, k)) :
    Calls Try.prog 10 #[.pointer (some ⟨s', 0, none⟩)] W fun e W' => e = .returned (.tuple #[.int .i64 t, .int .i64 k]) ∧ Pl w a x0 x1 x2 s p S u q R W' := by
  refine (signal_any s' p' T T' t k W g hf hs).mono ?_
  rintro e w2 ⟨rfl, g2, ho⟩
  have hq := h.at_.sq
  refine ⟨rfl, ⟨h.at_.1, h.at_.2.1, ⟨hq.1.keep (ho.block s hq.1.lt h1 (hq.1.ne g.2 (by decide))), hq.2.keep (ho.block p hq.2.lt (Ne.symm (g.1.ne hq.2 (by decide))) h2)⟩, h.at_.b.trans (ho.below h.at_.b.size b1 b2)⟩, h.rs.keep g ho, h.cl.p g ho, h.bu, h.bq⟩
theorem same_p (h : Pl w a x0 x1 x2 s p S u q S W) (hf : Fine S) :
    Calls Try.prog 21 #[.pointer (some ⟨p, 0, none⟩), .pointer (some ⟨q, 0, none⟩)] W fun e W' => e = .returned (.bool true) ∧ Pl w a x0 x1 x2 s p S u q S W' := by
  refine (same_all p q S.b S.L W h.at_.sq.2 h.rs.2 hf.q.len).mono ?_
  rintro e w2 ⟨rfl, hb⟩
  exact ⟨rfl, h.below hb⟩
theorem len_p (h : Pl w a x0 x1 x2 s p S u q R W) {n : Int} (hn : (S.L.length : Int) = n) :
    Calls Try.prog 22 #[.pointer (some ⟨p, 0, none⟩)] W fun e W' => e = .returned (.int .i64 n) ∧ W = W' := len_at h.at_ hn
end
end Go.Proofs.Ytpkfdlmfcmiabaa.semPlays
