/- The document's data queue (detentref13) in memory: a block of 21 cells, two queues, the numbers' row. -/
import Derived.Test.YtnbepahanhcmeaaDqO
import Derived.Test.YtnbepahanhcmeaaRefC
namespace Go.Proofs.Ytnbepahanhcmeaa
open Go.RowKit
set_option maxRecDepth 100000

/-- Only blocks m, p and r may have turned, and new ones may have come; the row u' lies where u lay, or in a new block. -/
structure Et (m p r : Nat) (u u' : Value) (w w' : World) : Prop where
  os : w'.os = w.os
  tape : w'.tape = w.tape
  output : w'.output = w.output
  size : w.heap.size ≤ w'.heap.size
  block : ∀ k, k < w.heap.size → k ≠ m → k ≠ p → k ≠ r → w'.heap[k]? = w.heap[k]?
  wh : ∀ k, k < w.heap.size → u'.ownBlock = some k → u.ownBlock = some k
theorem Et.refl (m p r : Nat) (u : Value) (w : World) : Et m p r u u w w := ⟨rfl, rfl, rfl, Nat.le_refl _, fun _ _ _ _ _ => rfl, fun _ _ e => e⟩
theorem Et.trans {m p r : Nat} {u u1 u2 : Value} {a b c : World} (h : Et m p r u u1 a b) (k : Et m p r u1 u2 b c) : Et m p r u u2 a c :=
  ⟨k.os.trans h.os, k.tape.trans h.tape, k.output.trans h.output, Nat.le_trans h.size k.size,
   fun i hi h1 h2 h3 => (k.block i (Nat.lt_of_lt_of_le hi h.size) h1 h2 h3).trans (h.block i hi h1 h2 h3),
   fun i hi e => h.wh i hi (k.wh i (Nat.lt_of_lt_of_le hi h.size) e)⟩
theorem Et.of_below {m p r : Nat} {u : Value} {w w' : World} (h : Below w.heap.size w w') : Et m p r u u w w' := ⟨h.os, h.tape, h.output, h.size, fun k hk _ _ _ => h.block k hk, fun _ _ e => e⟩
theorem Et.of_only {m p r q : Nat} {u : Value} {w w' : World} (h : Only q w w') (hq : q = m ∨ q = p ∨ q = r) : Et m p r u u w w' :=
  ⟨h.os, h.tape, h.output, h.size, fun k hk h1 h2 h3 => h.block k hk (by rintro rfl; rcases hq with e | e | e; exact h1 e; exact h2 e; exact h3 e), fun _ _ e => e⟩
theorem Et.drew {m p r : Nat} {u u' : Value} {a w : World} (h : Et m p r u u' a w) : Et m p r u u' a w.drew := ⟨h.os, h.tape, h.output, h.size, h.block, h.wh⟩
theorem Et.drewN {m p r : Nat} {u u' : Value} {a w : World} (h : Et m p r u u' a w) (n : Nat) : Et m p r u u' a (w.drewN n) := ⟨h.os, h.tape, h.output, h.size, h.block, h.wh⟩
theorem Et.later {m p r : Nat} {u u' : Value} {a b c : World} (h : Et m p r u u' a b) (k : Below a.heap.size b c) : Et m p r u u' a c :=
  ⟨k.os.trans h.os, k.tape.trans h.tape, k.output.trans h.output, Nat.le_trans h.size k.size, fun i hi h1 h2 h3 => (k.block i hi).trans (h.block i hi h1 h2 h3), h.wh⟩
/-- the row is a new one -/
theorem Et.row {m p r : Nat} {u u1 u' : Value} {w w' : World} (h : Et m p r u u1 w w') (hn : ∀ k, u'.ownBlock = some k → w.heap.size ≤ k) : Et m p r u u' w w' :=
  ⟨h.os, h.tape, h.output, h.size, h.block, fun k hk e => by have := hn k e; omega⟩
theorem Et.below {m p r B : Nat} {u u' : Value} {w w' : World} (h : Et m p r u u' w w') (h0 : B ≤ w.heap.size) (h1 : B ≤ m) (h2 : B ≤ p) (h3 : B ≤ r) : Below B w w' :=
  ⟨h.os, h.tape, h.output, h.size, fun k hk => h.block k (by omega) (by omega) (by omega) (by omega)⟩

structure Rz (cs : Array Value) (p r : Nat) (u : Value) (t : St) : Prop where
  size : cs.size = 21
  s : cs[0]? = some (.pointer (some ⟨p, 0, none⟩))
  r : cs[1]? = some (.pointer (some ⟨r, 0, none⟩))
  w : ∀ i, i < 17 → cs[2 + i]? = some (.int .i64 (t.W i))
  m : cs[19]? = some (.int .i64 (t.m : Int))
  d : cs[20]? = some u
/-- the document's block m: its queues' blocks p and r, its numbers' row u -/
def Rd (w : World) (m p r : Nat) (u : Value) (t : St) : Prop := ∃ cs, w.heap[m]? = some (.cells cs 90 (0, 0)) ∧ Rz cs p r u t
theorem Rd.lt {w : World} {m p r : Nat} {u : Value} {t : St} (h : Rd w m p r u t) : m < w.heap.size := by obtain ⟨cs, h, _⟩ := h; exact lt_of_heap h
theorem Rd.keep {w w' : World} {m p r : Nat} {u : Value} {t : St} (h : Rd w m p r u t) (k : w'.heap[m]? = w.heap[m]?) : Rd w' m p r u t := by obtain ⟨cs, h, q⟩ := h; exact ⟨cs, k.trans h, q⟩
theorem Rd.c0 {w : World} {m p r : Nat} {u : Value} {t : St} (h : Rd w m p r u t) : w.cell? ⟨m, 0, none⟩ = some (.pointer (some ⟨p, 0, none⟩)) := by obtain ⟨cs, h, q⟩ := h; rw [cell_of_row w m 0 cs 90 (0, 0) h]; exact q.s
theorem Rd.c1 {w : World} {m p r : Nat} {u : Value} {t : St} (h : Rd w m p r u t) : w.cell? ⟨m, 1, none⟩ = some (.pointer (some ⟨r, 0, none⟩)) := by obtain ⟨cs, h, q⟩ := h; rw [cell_of_row w m 1 cs 90 (0, 0) h]; exact q.r
theorem Rd.room {w : World} {m p r : Nat} {u : Value} {t : St} (h : Rd w m p r u t) : w.cell? ⟨m, 19, none⟩ = some (.int .i64 (t.m : Int)) := by obtain ⟨cs, h, q⟩ := h; rw [cell_of_row w m 19 cs 90 (0, 0) h]; exact q.m
theorem Rd.data {w : World} {m p r : Nat} {u : Value} {t : St} (h : Rd w m p r u t) : w.cell? ⟨m, 20, none⟩ = some u := by obtain ⟨cs, h, q⟩ := h; rw [cell_of_row w m 20 cs 90 (0, 0) h]; exact q.d
theorem Rd.wish {w : World} {m p r : Nat} {u : Value} {t : St} (h : Rd w m p r u t) {i : Nat} (hi : i < 17) : w.cell? ⟨m, 2 + i, none⟩ = some (.int .i64 (t.W i)) := by obtain ⟨cs, h, q⟩ := h; rw [cell_of_row w m _ cs 90 (0, 0) h]; exact q.w i hi
theorem Rd.fz {w : World} {m p r : Nat} {u : Value} {t : St} (h : Rd w m p r u t) (i : Nat) : w.frozen? ⟨m, i, none⟩ = false := by obtain ⟨cs, h, _⟩ := h; exact frozen_of_row w m i cs 90 h
theorem Rd.type {w : World} {m p r : Nat} {u : Value} {t : St} (h : Rd w m p r u t) {e : TypeId} (he : e ≠ 90) : ∀ cs fr, w.heap[m]? ≠ some (.cells cs e fr) := by
  intro cs2 fr h2
  obtain ⟨cs, h, _⟩ := h
  rw [h] at h2; injection h2 with h2; injection h2 with _ h3; exact he h3.symm
theorem Rd.to {w : World} {m p r : Nat} {u : Value} {t t' : St} (h : Rd w m p r u t) (hW : t'.W = t.W) (hm : t'.m = t.m) : Rd w m p r u t' := by
  obtain ⟨cs, h, q⟩ := h
  exact ⟨cs, h, q.size, q.s, q.r, by rw [hW]; exact q.w, by rw [hm]; exact q.m, q.d⟩
theorem Rd.setData {w : World} {m p r : Nat} {u : Value} {t : St} (h : Rd w m p r u t) (x : Value) : Rd (w.setCell ⟨m, 20, none⟩ x) m p r x t := by
  obtain ⟨cs, h, q⟩ := h
  have e : ∀ i, i ≠ 20 → (cs.setIfInBounds 20 x)[i]? = cs[i]? := fun i hi => by rw [Array.getElem?_setIfInBounds_ne (Ne.symm hi)]
  refine ⟨_, heap_setCell_same w m 20 cs 90 _ h, by simpa using q.size, (e _ (by omega)).trans q.s, (e _ (by omega)).trans q.r, fun i hi => (e _ (by omega)).trans (q.w i hi), (e _ (by omega)).trans q.m, ?_⟩
  rw [Array.getElem?_setIfInBounds_self_of_lt (by rw [q.size]; omega)]
theorem Rd.setW {w : World} {m p r : Nat} {u : Value} {t : St} (h : Rd w m p r u t) {k : Nat} (hk : k < 17) (x : Int) : Rd (w.setCell ⟨m, 2 + k, none⟩ (.int .i64 x)) m p r u { t with W := setW t.W k x } := by
  obtain ⟨cs, h, q⟩ := h
  have e : ∀ i, i ≠ 2 + k → (cs.setIfInBounds (2 + k) (.int .i64 x))[i]? = cs[i]? := fun i hi => by rw [Array.getElem?_setIfInBounds_ne (Ne.symm hi)]
  refine ⟨_, heap_setCell_same w m _ cs 90 _ h, by simpa using q.size, (e _ (by omega)).trans q.s, (e _ (by omega)).trans q.r, fun i hi => ?_, (e _ (by omega)).trans q.m, (e _ (by omega)).trans q.d⟩
  dsimp only [Ytnbepahanhcmeaa.setW]
  by_cases c : i = k
  · subst c; rw [if_pos rfl, Array.getElem?_setIfInBounds_self_of_lt (by rw [q.size]; omega)]
  · rw [if_neg c, e _ (by omega)]; exact q.w i hi

theorem Rq.keepT {w w' : World} {q : Nat} {b : Bool} {L : List It} (h : Rq w q b L) (k : ∀ (g : Nat) (cs : Array Value) (e : TypeId), w.heap[g]? = some (.cells cs e (0, 0)) → ((e = 88 ∧ g = q) ∨ e = 97) → w'.heap[g]? = w.heap[g]?) : Rq w' q b L := by
  obtain ⟨X, c, h1, h2, h3⟩ := h
  exact ⟨X, c, (k q _ 88 h1 (.inl ⟨rfl, rfl⟩)).trans h1, h2.keep (fun g cs hg => k g cs 97 hg (.inr rfl)), h3⟩

/-- the document's data queue, all of whose memory lies from block B on -/
structure Rf (w : World) (B m p r : Nat) (u : Value) (t : St) : Prop where
  d : Rd w m p r u t
  s : Rq w p t.b t.S
  q : Rq w r false t.R
  o : Ow w B u t.D
  n : p ≠ r
  bm : B ≤ m
  bp : B ≤ p
  br : B ≤ r
theorem heap_type {w : World} {g : Nat} {cs ds : Array Value} {e f : TypeId} {fr fs : Nat × Nat} (h : w.heap[g]? = some (.cells cs e fr)) (k : w.heap[g]? = some (.cells ds f fs)) : e = f := by
  rw [h] at k; injection k with k; injection k
theorem Rf.below {w w' : World} {B m p r : Nat} {u : Value} {t : St} (h : Rf w B m p r u t) (k : Below w.heap.size w w') : Rf w' B m p r u t :=
  ⟨h.d.keep (k.block m h.d.lt), h.s.below k, h.q.below k, K.own_below h.o k, h.n, h.bm, h.bp, h.br⟩
theorem Rf.np {w : World} {B m p r : Nat} {u : Value} {t : St} (h : Rf w B m p r u t) : m ≠ p := by rintro rfl; obtain ⟨cs, hh, _⟩ := h.d; exact h.s.type (e := 90) (by decide) _ _ hh
theorem Rf.nr {w : World} {B m p r : Nat} {u : Value} {t : St} (h : Rf w B m p r u t) : m ≠ r := by rintro rfl; obtain ⟨cs, hh, _⟩ := h.d; exact h.q.type (e := 90) (by decide) _ _ hh
/-- a row of numbers stays when blocks of other types turn -/
theorem own_only {w w' : World} {B q n : Nat} {u : Value} {xs : List Value} (h : w.ownsRow B 3 1 u n xs) (k : Only q w w') (hq : ∀ cs fr, w.heap[q]? ≠ some (.cells cs 3 fr)) : w'.ownsRow B 3 1 u n xs :=
  K.own_keep h fun g cs hg _ => k.block g (lt_of_heap hg) (by rintro rfl; exact hq _ _ hg)
/-- its senders turned -/
theorem Rf.sq {w w' : World} {B m p r : Nat} {u : Value} {t : St} (h : Rf w B m p r u t) {S : List It} (k : Only p w w') (hs : Rq w' p t.b S) : Rf w' B m p r u { t with S := S } :=
  ⟨(h.d.keep (k.block m h.d.lt h.np)).to rfl rfl, hs, h.q.keepT (fun g cs e hg he => k.block g (lt_of_heap hg) (by
      rintro rfl
      rcases he with ⟨_, e2⟩ | e2
      · exact h.n e2
      · subst e2; exact h.s.type (e := 97) (by decide) _ _ hg)), own_only h.o k (h.s.type (by decide)), h.n, h.bm, h.bp, h.br⟩
/-- its receivers turned -/
theorem Rf.rq {w w' : World} {B m p r : Nat} {u : Value} {t : St} (h : Rf w B m p r u t) {S : List It} (k : Only r w w') (hs : Rq w' r false S) : Rf w' B m p r u { t with R := S } :=
  ⟨(h.d.keep (k.block m h.d.lt h.nr)).to rfl rfl, h.s.keepT (fun g cs e hg he => k.block g (lt_of_heap hg) (by
      rintro rfl
      rcases he with ⟨_, e2⟩ | e2
      · exact h.n e2.symm
      · subst e2; exact h.q.type (e := 97) (by decide) _ _ hg)), hs, own_only h.o k (h.q.type (by decide)), h.n, h.bm, h.bp, h.br⟩
/-- its own block turned -/
theorem Rf.turn {w w' : World} {B m p r : Nat} {u : Value} {t t' : St} (h : Rf w B m p r u t) (k : Only m w w') (hd : Rd w' m p r u t') (hS : t'.S = t.S) (hR : t'.R = t.R) (hD : t'.D = t.D) (hb : t'.b = t.b) : Rf w' B m p r u t' :=
  ⟨hd, by rw [hS, hb]; exact h.s.keepT (fun g cs e hg he => k.block g (lt_of_heap hg) (by
      rintro rfl
      rcases he with ⟨e1, _⟩ | e1 <;> subst e1 <;> exact h.d.type (by decide) _ _ hg)),
   by rw [hR]; exact h.q.keepT (fun g cs e hg he => k.block g (lt_of_heap hg) (by
      rintro rfl
      rcases he with ⟨e1, _⟩ | e1 <;> subst e1 <;> exact h.d.type (by decide) _ _ hg)),
   by rw [hD]; exact own_only h.o k (h.d.type (by decide)), h.n, h.bm, h.bp, h.br⟩
/-- a new row was laid, and its cell is told -/
theorem Rf.lay {w w' : World} {B m p r : Nat} {u u' : Value} {t : St} {D : List Int} (h : Rf w B m p r u t) (k : Below w.heap.size w w') (ho : Ow w' B u' D) : Rf (w'.setCell ⟨m, 20, none⟩ u') B m p r u' { t with D := D } := by
  have h1 := h.below k
  have ko : Only m w' (w'.setCell ⟨m, 20, none⟩ u') := (Only.refl m w').setCell (q := ⟨m, 20, none⟩) (.inl rfl) u'
  exact ⟨(h1.d.setData u').to rfl rfl, h1.s.keepT (fun g cs e hg he => ko.block g (lt_of_heap hg) (by
      rintro rfl
      rcases he with ⟨e1, _⟩ | e1 <;> subst e1 <;> exact h1.d.type (by decide) _ _ hg)),
   h1.q.keepT (fun g cs e hg he => ko.block g (lt_of_heap hg) (by
      rintro rfl
      rcases he with ⟨e1, _⟩ | e1 <;> subst e1 <;> exact h1.d.type (by decide) _ _ hg)),
   own_only ho ko (h1.d.type (by decide)), h.n, h.bm, h.bp, h.br⟩
end Go.Proofs.Ytnbepahanhcmeaa
