/- The document's message buffer (detentref16) in memory: a block of 21 cells, its ring, two queues. -/
import Derived.Test.YtneimdjgbblaoaaBfA
import Derived.Test.YtneimdjgbblaoaaRefC
namespace Go.Proofs.Ytneimdjgbblaoaa
open Go.RowKit
set_option maxRecDepth 100000

/-- Only blocks m, g, p and r may have turned, and new ones may have come. -/
structure Et (m g p r : Nat) (w w' : World) : Prop where
  os : w'.os = w.os
  tape : w'.tape = w.tape
  output : w'.output = w.output
  size : w.heap.size ≤ w'.heap.size
  block : ∀ k, k < w.heap.size → k ≠ m → k ≠ g → k ≠ p → k ≠ r → w'.heap[k]? = w.heap[k]?
section
variable {m g p r : Nat}
theorem Et.refl (m g p r : Nat) (w : World) : Et m g p r w w := ⟨rfl, rfl, rfl, Nat.le_refl _, fun _ _ _ _ _ _ => rfl⟩
theorem Et.trans {a b c : World} (h : Et m g p r a b) (k : Et m g p r b c) : Et m g p r a c :=
  ⟨k.os.trans h.os, k.tape.trans h.tape, k.output.trans h.output, Nat.le_trans h.size k.size,
   fun i hi h1 h2 h3 h4 => (k.block i (Nat.lt_of_lt_of_le hi h.size) h1 h2 h3 h4).trans (h.block i hi h1 h2 h3 h4)⟩
theorem Et.of_below {w w' : World} (h : Below w.heap.size w w') : Et m g p r w w' := ⟨h.os, h.tape, h.output, h.size, fun k hk _ _ _ _ => h.block k hk⟩
theorem Et.of_only {q : Nat} {w w' : World} (h : Only q w w') (hq : q = m ∨ q = p ∨ q = r) : Et m g p r w w' :=
  ⟨h.os, h.tape, h.output, h.size, fun k hk h1 h2 h3 h4 => h.block k hk (by rintro rfl; rcases hq with e | e | e; exact h1 e; exact h3 e; exact h4 e)⟩
theorem Et.of_ring {w w' : World} (h : R.Only g g w w') : Et m g p r w w' := ⟨h.os, h.tape, h.output, h.size, fun k hk _ h2 _ _ => h.block k hk h2 h2⟩
theorem Et.drew {a w : World} (h : Et m g p r a w) : Et m g p r a w.drew := ⟨h.os, h.tape, h.output, h.size, h.block⟩
theorem Et.drewN {a w : World} (h : Et m g p r a w) (n : Nat) : Et m g p r a (w.drewN n) := ⟨h.os, h.tape, h.output, h.size, h.block⟩
theorem Et.later {a b c : World} (h : Et m g p r a b) (k : Below a.heap.size b c) : Et m g p r a c :=
  ⟨k.os.trans h.os, k.tape.trans h.tape, k.output.trans h.output, Nat.le_trans h.size k.size, fun i hi h1 h2 h3 h4 => (k.block i hi).trans (h.block i hi h1 h2 h3 h4)⟩
theorem Et.below {B : Nat} {w w' : World} (h : Et m g p r w w') (h0 : B ≤ w.heap.size) (h1 : B ≤ m) (h2 : B ≤ g) (h3 : B ≤ p) (h4 : B ≤ r) : Below B w w' :=
  ⟨h.os, h.tape, h.output, h.size, fun k hk => h.block k (by omega) (by omega) (by omega) (by omega) (by omega)⟩
theorem Et.cell {w w' : World} (h : Et m g p r w w') {q : Addr} (hq : q.block < w.heap.size) (h1 : q.block ≠ m) (h2 : q.block ≠ g) (h3 : q.block ≠ p) (h4 : q.block ≠ r) : w'.cell? q = w.cell? q :=
  World.cell?_of_block (w := w) (h.block q.block hq h1 h2 h3 h4)
end

structure Rz (cs : Array Value) (g p r : Nat) (t : St) : Prop where
  size : cs.size = 21
  g : cs[0]? = some (.pointer (some ⟨g, 0, none⟩))
  s : cs[1]? = some (.pointer (some ⟨p, 0, none⟩))
  r : cs[2]? = some (.pointer (some ⟨r, 0, none⟩))
  w : Ms cs 3 t.S t.W
  m : cs[20]? = some (.int .i64 (t.m : Int))
/-- the document's block m: its ring's block g, its queues' blocks p and r -/
def Rd (w : World) (m g p r : Nat) (t : St) : Prop := ∃ cs, w.heap[m]? = some (.cells cs 77 (0, 0)) ∧ Rz cs g p r t
section
variable {w w' : World} {m g p r : Nat} {t : St}
theorem Rd.lt (h : Rd w m g p r t) : m < w.heap.size := by obtain ⟨cs, h, _⟩ := h; exact lt_of_heap h
theorem Rd.keep (h : Rd w m g p r t) (k : w'.heap[m]? = w.heap[m]?) : Rd w' m g p r t := by obtain ⟨cs, h, q⟩ := h; exact ⟨cs, k.trans h, q⟩
theorem Rd.c0 (h : Rd w m g p r t) : w.cell? ⟨m, 0, none⟩ = some (.pointer (some ⟨g, 0, none⟩)) := by obtain ⟨cs, h, q⟩ := h; rw [cell_of_row w m 0 cs 77 (0, 0) h]; exact q.g
theorem Rd.c1 (h : Rd w m g p r t) : w.cell? ⟨m, 1, none⟩ = some (.pointer (some ⟨p, 0, none⟩)) := by obtain ⟨cs, h, q⟩ := h; rw [cell_of_row w m 1 cs 77 (0, 0) h]; exact q.s
theorem Rd.c2 (h : Rd w m g p r t) : w.cell? ⟨m, 2, none⟩ = some (.pointer (some ⟨r, 0, none⟩)) := by obtain ⟨cs, h, q⟩ := h; rw [cell_of_row w m 2 cs 77 (0, 0) h]; exact q.r
theorem Rd.most (h : Rd w m g p r t) : w.cell? ⟨m, 20, none⟩ = some (.int .i64 (t.m : Int)) := by obtain ⟨cs, h, q⟩ := h; rw [cell_of_row w m 20 cs 77 (0, 0) h]; exact q.m
theorem Rd.msg (h : Rd w m g p r t) {y : It} (hy : y ∈ t.S) {k : Nat} (hk : y.1.toNat = k) : w.cell? ⟨m, 3 + k, none⟩ = some (.string (R.str (t.W k))) := by
  obtain ⟨cs, h, q⟩ := h; rw [cell_of_row w m _ cs 77 (0, 0) h, ← hk]; exact q.w.2 y hy
theorem Rd.text (h : Rd w m g p r t) {k : Nat} (hk : k < 17) : ∃ u, w.cell? ⟨m, 3 + k, none⟩ = some (.string u) := by
  obtain ⟨cs, h, q⟩ := h; rw [cell_of_row w m _ cs 77 (0, 0) h]; exact q.w.1 k hk
theorem Rd.fz (h : Rd w m g p r t) (i : Nat) : w.frozen? ⟨m, i, none⟩ = false := by obtain ⟨cs, h, _⟩ := h; exact frozen_of_row w m i cs 77 h
theorem Rd.type (h : Rd w m g p r t) {e : TypeId} (he : e ≠ 77) : ∀ cs fr, w.heap[m]? ≠ some (.cells cs e fr) := by
  intro cs2 fr h2
  obtain ⟨cs, h, _⟩ := h
  rw [h] at h2; injection h2 with h2; injection h2 with _ h3; exact he h3.symm
/-- what it holds by itself speaks of its bound and the messages of those that wait alone -/
theorem Rd.to {t' : St} (h : Rd w m g p r t) (hW : ∀ y, y ∈ t'.S → (∃ z, z ∈ t.S ∧ z.1 = y.1) ∧ t'.W y.1.toNat = t.W y.1.toNat) (hm : t'.m = t.m) : Rd w m g p r t' := by
  obtain ⟨cs, h, q⟩ := h
  refine ⟨cs, h, q.size, q.g, q.s, q.r, ⟨q.w.1, fun y hy => ?_⟩, by rw [hm]; exact q.m⟩
  obtain ⟨⟨z, hz, he⟩, e2⟩ := hW y hy
  have := q.w.2 z hz
  rw [he] at this
  rw [e2]; exact this
theorem Rd.setW (h : Rd w m g p r t) {k : Nat} (hk : k < 17) (x : List Int) {S : List It} (hS : ∀ y, y ∈ S → (∃ z, z ∈ t.S ∧ z.1 = y.1) ∨ y.1.toNat = k) : Rd (w.setCell ⟨m, 3 + k, none⟩ (.string (R.str x))) m g p r { t with S := S, W := setW t.W k x } := by
  obtain ⟨cs, h, q⟩ := h
  have e : ∀ i, i ≠ 3 + k → (cs.setIfInBounds (3 + k) (.string (R.str x)))[i]? = cs[i]? := fun i hi => by rw [Array.getElem?_setIfInBounds_ne (Ne.symm hi)]
  have e3 : (cs.setIfInBounds (3 + k) (.string (R.str x)))[3 + k]? = some (.string (R.str x)) := by rw [Array.getElem?_setIfInBounds_self_of_lt (by rw [q.size]; omega)]
  refine ⟨_, heap_setCell_same w m _ cs 77 _ h, by simpa using q.size, (e _ (by omega)).trans q.g, (e _ (by omega)).trans q.s, (e _ (by omega)).trans q.r, ⟨fun i hi => ?_, fun y hy => ?_⟩, (e _ (by omega)).trans q.m⟩
  · by_cases c : i = k
    · subst c; exact ⟨_, e3⟩
    · rw [e _ (by omega)]; exact q.w.1 i hi
  · show (cs.setIfInBounds (3 + k) (.string (R.str x)))[3 + y.1.toNat]? = some (.string (R.str (Ytneimdjgbblaoaa.setW t.W k x y.1.toNat)))
    by_cases c : y.1.toNat = k
    · rw [c, e3]; unfold Ytneimdjgbblaoaa.setW; rw [if_pos rfl]
    · rcases hS y hy with ⟨z, hz, he⟩ | hk2
      · have := q.w.2 z hz
        rw [he] at this
        rw [e _ (by omega)]; unfold Ytneimdjgbblaoaa.setW; rw [if_neg c]; exact this
      · exact absurd hk2 c
end

theorem Rq.keepT {w w' : World} {q : Nat} {b : Bool} {L : List It} (h : Rq w q b L) (k : ∀ (g : Nat) (cs : Array Value) (e : TypeId), w.heap[g]? = some (.cells cs e (0, 0)) → ((e = 93 ∧ g = q) ∨ e = 100) → w'.heap[g]? = w.heap[g]?) : Rq w' q b L := by
  obtain ⟨X, c, h1, h2, h3⟩ := h
  exact ⟨X, c, (k q _ 93 h1 (.inl ⟨rfl, rfl⟩)).trans h1, h2.keep (fun g cs hg => k g cs 100 hg (.inr rfl)), h3⟩
theorem rfk {w w' : World} {q N : Nat} {L : List (List Int)} (h : R.Rf w q N L) (k : ∀ (g : Nat) (cs : Array Value) (e : TypeId), w.heap[g]? = some (.cells cs e (0, 0)) → ((e = 73 ∧ g = q) ∨ e = 9) → w'.heap[g]? = w.heap[g]?) : R.Rf w' q N L := by
  obtain ⟨X, c, h1, h2, h3⟩ := h
  exact ⟨X, c, (k q _ 73 h1 (.inl ⟨rfl, rfl⟩)).trans h1, h2.keep (fun g cs hg => k g cs 9 hg (.inr rfl)), h3⟩

/-- the document's buffer, all of whose memory lies from block B on -/
structure Rf (w : World) (B m g p r : Nat) (t : St) : Prop where
  d : Rd w m g p r t
  s : Rq w p t.b t.S
  q : Rq w r false t.R
  o : R.Rf w g t.N t.G
  n : p ≠ r
  bm : B ≤ m
  bg : B ≤ g
  bp : B ≤ p
  br : B ≤ r
section
variable {w w' : World} {B m g p r : Nat} {t : St}
theorem Rf.below (h : Rf w B m g p r t) (k : Below w.heap.size w w') : Rf w' B m g p r t :=
  ⟨h.d.keep (k.block m h.d.lt), h.s.below k, h.q.below k, h.o.below k, h.n, h.bm, h.bg, h.bp, h.br⟩
theorem Rf.drew (h : Rf w B m g p r t) : Rf w.drew B m g p r t := h.below ⟨rfl, rfl, rfl, Nat.le_refl _, fun _ _ => rfl⟩
theorem Rf.drewN (h : Rf w B m g p r t) (n : Nat) : Rf (w.drewN n) B m g p r t := h.below ⟨rfl, rfl, rfl, Nat.le_refl _, fun _ _ => rfl⟩
theorem Rf.alloc (h : Rf w B m g p r t) (o : Obj) : Rf (w.alloc o) B m g p r t := h.below ((Below.refl _ _).alloc (Nat.le_refl _) o)
theorem Rf.lower {D : Nat} (h : Rf w B m g p r t) (hd : D ≤ B) : Rf w D m g p r t := ⟨h.d, h.s, h.q, h.o, h.n, Nat.le_trans hd h.bm, Nat.le_trans hd h.bg, Nat.le_trans hd h.bp, Nat.le_trans hd h.br⟩
theorem Rf.np (h : Rf w B m g p r t) : m ≠ p := by rintro rfl; obtain ⟨cs, hh, _⟩ := h.d; exact h.s.type (e := 77) (by decide) _ _ hh
theorem Rf.nr (h : Rf w B m g p r t) : m ≠ r := by rintro rfl; obtain ⟨cs, hh, _⟩ := h.d; exact h.q.type (e := 77) (by decide) _ _ hh
theorem Rf.ng (h : Rf w B m g p r t) : m ≠ g := by rintro rfl; obtain ⟨cs, hh, _⟩ := h.d; exact h.o.type (e := 77) (by decide) _ _ hh
/-- its senders turned: nobody came -/
theorem Rf.sq {S : List It} (h : Rf w B m g p r t) (k : Only p w w') (hs : Rq w' p t.b S) (hS : ∀ y, y ∈ S → ∃ z, z ∈ t.S ∧ z.1 = y.1) : Rf w' B m g p r { t with S := S } :=
  ⟨(h.d.keep (k.block m h.d.lt h.np)).to (fun y hy => ⟨hS y hy, rfl⟩) rfl, hs, h.q.keepT (fun g cs e hg he => k.block g (lt_of_heap hg) (by
      rintro rfl
      rcases he with ⟨_, e2⟩ | e2
      · exact h.n e2
      · subst e2; exact h.s.type (e := 100) (by decide) _ _ hg)), rfk h.o (fun g cs e hg he => k.block g (lt_of_heap hg) (by
      rintro rfl
      rcases he with ⟨e2, _⟩ | e2 <;> subst e2 <;> exact h.s.type (by decide) _ _ hg)), h.n, h.bm, h.bg, h.bp, h.br⟩
/-- its receivers turned -/
theorem Rf.rq {S : List It} (h : Rf w B m g p r t) (k : Only r w w') (hs : Rq w' r false S) : Rf w' B m g p r { t with R := S } :=
  ⟨(h.d.keep (k.block m h.d.lt h.nr)).to (fun y hy => ⟨⟨y, hy, rfl⟩, rfl⟩) rfl, h.s.keepT (fun g cs e hg he => k.block g (lt_of_heap hg) (by
      rintro rfl
      rcases he with ⟨_, e2⟩ | e2
      · exact h.n e2.symm
      · subst e2; exact h.q.type (e := 100) (by decide) _ _ hg)), hs, rfk h.o (fun g cs e hg he => k.block g (lt_of_heap hg) (by
      rintro rfl
      rcases he with ⟨e2, _⟩ | e2 <;> subst e2 <;> exact h.q.type (by decide) _ _ hg)), h.n, h.bm, h.bg, h.bp, h.br⟩
/-- its ring turned -/
theorem Rf.lay {G : List (List Int)} (h : Rf w B m g p r t) (k : R.Only g g w w') (ho : R.Rf w' g t.N G) : Rf w' B m g p r { t with G := G } :=
  ⟨(h.d.keep (k.block m h.d.lt h.ng h.ng)).to (fun y hy => ⟨⟨y, hy, rfl⟩, rfl⟩) rfl, h.s.keepT (fun i cs e hg he => k.block i (lt_of_heap hg) (by
      rintro rfl
      rcases he with ⟨e2, _⟩ | e2 <;> subst e2 <;> exact h.o.type (by decide) _ _ hg) (by
      rintro rfl
      rcases he with ⟨e2, _⟩ | e2 <;> subst e2 <;> exact h.o.type (by decide) _ _ hg)), h.q.keepT (fun i cs e hg he => k.block i (lt_of_heap hg) (by
      rintro rfl
      rcases he with ⟨e2, _⟩ | e2 <;> subst e2 <;> exact h.o.type (by decide) _ _ hg) (by
      rintro rfl
      rcases he with ⟨e2, _⟩ | e2 <;> subst e2 <;> exact h.o.type (by decide) _ _ hg)), ho, h.n, h.bm, h.bg, h.bp, h.br⟩
/-- its own block turned -/
theorem Rf.turn {t' : St} (h : Rf w B m g p r t) (k : Only m w w') (hd : Rd w' m g p r t') (hS : t'.S = t.S) (hR : t'.R = t.R) (hG : t'.G = t.G) (hb : t'.b = t.b) (hN : t'.N = t.N) : Rf w' B m g p r t' :=
  ⟨hd, by rw [hS, hb]; exact h.s.keepT (fun g cs e hg he => k.block g (lt_of_heap hg) (by
      rintro rfl
      rcases he with ⟨e1, _⟩ | e1 <;> subst e1 <;> exact h.d.type (by decide) _ _ hg)),
   by rw [hR]; exact h.q.keepT (fun g cs e hg he => k.block g (lt_of_heap hg) (by
      rintro rfl
      rcases he with ⟨e1, _⟩ | e1 <;> subst e1 <;> exact h.d.type (by decide) _ _ hg)),
   by rw [hG, hN]; exact rfk h.o (fun g cs e hg he => k.block g (lt_of_heap hg) (by
      rintro rfl
      rcases he with ⟨e1, _⟩ | e1 <;> subst e1 <;> exact h.d.type (by decide) _ _ hg)), h.n, h.bm, h.bg, h.bp, h.br⟩
/-- somebody came to send, and its message is laid -/
theorem Rf.came {S : List It} (h : Rf w B m g p r t) (k : Only p w w') (hs : Rq w' p t.b S) {j : Nat} (hj : j < 17) (x : List Int) (hS : ∀ y, y ∈ S → (∃ z, z ∈ t.S ∧ z.1 = y.1) ∨ y.1.toNat = j) : Rf (w'.setCell ⟨m, 3 + j, none⟩ (.string (R.str x))) B m g p r { t with S := S, W := setW t.W j x } := by
  have hd := (h.d.keep (k.block m h.d.lt h.np)).setW hj x hS
  have h2 := (h.d.keep (k.block m h.d.lt h.np))
  exact ⟨hd, hs.keepT (fun g cs e hg he => Below.heap_setCell _ _ _ _ (by
      rintro rfl
      rcases he with ⟨e1, _⟩ | e1 <;> subst e1 <;> exact h2.type (by decide) _ _ hg)),
    (h.q.keepT (fun g cs e hg he => k.block g (lt_of_heap hg) (by
      rintro rfl
      rcases he with ⟨_, e2⟩ | e2
      · exact h.n e2
      · subst e2; exact h.s.type (e := 100) (by decide) _ _ hg))).keepT (fun g cs e hg he => Below.heap_setCell _ _ _ _ (by
      rintro rfl
      rcases he with ⟨e1, _⟩ | e1 <;> subst e1 <;> exact h2.type (by decide) _ _ hg)),
    rfk (rfk h.o (fun g cs e hg he => k.block g (lt_of_heap hg) (by
      rintro rfl
      rcases he with ⟨e2, _⟩ | e2 <;> subst e2 <;> exact h.s.type (by decide) _ _ hg))) (fun g cs e hg he => Below.heap_setCell _ _ _ _ (by
      rintro rfl
      rcases he with ⟨e1, _⟩ | e1 <;> subst e1 <;> exact h2.type (by decide) _ _ hg)), h.n, h.bm, h.bg, h.bp, h.br⟩
theorem Rf.congr {t' : St} (h : Rf w B m g p r t) (e : t = t') : Rf w B m g p r t' := e ▸ h
theorem Et.under (k : Et m g p r w w') (h : Rf w B m g p r t) (hB : B ≤ w.heap.size) : Below B w w' := k.below hB h.bm h.bg h.bp h.br
/-- the program's side lies elsewhere, by the blocks' types -/
theorem Bf.et {s p2 m2 : Nat} {C : Int} {B2 : Nat} {t2 : St} (b : Bf w B2 s p2 m2 C t2) (h : Rf w B m g p r t) (k : Et m g p r w w') : Bf w' B2 s p2 m2 C t2 := by
  obtain ⟨c, q1, q2, F, f, ha, hgd⟩ := b.g
  have hr : R.Rg w p2 m2 t2.N c t2.G := ⟨F, f, ha, hgd⟩
  obtain ⟨cs, hh, hz⟩ := b.c
  have T : ∀ (i : Nat) (ds : Array Value) (e : TypeId) (fr : Nat × Nat), w.heap[i]? = some (.cells ds e fr) → e ≠ 77 → e ≠ 73 → e ≠ 93 → w'.heap[i]? = w.heap[i]? := fun i ds e fr hi e1 e2 e3 =>
    k.block i (lt_of_heap hi) (by rintro rfl; exact h.d.type e1 _ _ hi) (by rintro rfl; exact h.o.type e2 _ _ hi) (by rintro rfl; exact h.s.type e3 _ _ hi) (by rintro rfl; exact h.q.type e3 _ _ hi)
  obtain ⟨hX, ⟨kk, hk, rr⟩, cs2, hc2, hrow⟩ := ha
  have ha : R.Ar (R.fields F (R.tot t2.G) t2.G.length) w p2 m2 t2.N c f := ⟨hX, ⟨kk, hk, rr⟩, cs2, hc2, hrow⟩
  exact ⟨⟨cs, (T s cs 70 _ hh (by decide) (by decide) (by decide)).trans hh, hz⟩, ⟨c, q1, q2, F, f, ha.keep (T p2 _ 113 _ hk (by decide) (by decide) (by decide)) (T m2 _ 5 _ hc2 (by decide) (by decide) (by decide)), hgd⟩, b.bs, b.bp, b.bm⟩
theorem Rf.dt {s p2 m2 : Nat} {C : Int} {B2 : Nat} {t2 : St} (h : Rf w B m g p r t) (b : Bf w B2 s p2 m2 C t2) (k : Dt s p2 m2 w w') : Rf w' B m g p r t := by
  obtain ⟨c, q1, q2, hr⟩ := b.g
  have T : ∀ (i : Nat) (ds : Array Value) (e : TypeId) (fr : Nat × Nat), w.heap[i]? = some (.cells ds e fr) → e ≠ 70 → e ≠ 113 → e ≠ 5 → w'.heap[i]? = w.heap[i]? := fun i ds e fr hi e1 e2 e3 =>
    k.block i (lt_of_heap hi) (by rintro rfl; exact b.c.type e1 _ _ hi) (by rintro rfl; exact hr.typep e2 _ _ hi) (by rintro rfl; exact hr.typem e3 _ _ hi)
  refine ⟨?_, h.s.keepT ?_, h.q.keepT ?_, rfk h.o ?_, h.n, h.bm, h.bg, h.bp, h.br⟩
  · obtain ⟨cs, hh, hz⟩ := h.d
    exact ⟨cs, (T m cs 77 _ hh (by decide) (by decide) (by decide)).trans hh, hz⟩
  · rintro i cs e hi (⟨rfl, _⟩ | rfl) <;> exact T i cs _ _ hi (by decide) (by decide) (by decide)
  · rintro i cs e hi (⟨rfl, _⟩ | rfl) <;> exact T i cs _ _ hi (by decide) (by decide) (by decide)
  · rintro i cs e hi (⟨rfl, _⟩ | rfl) <;> exact T i cs _ _ hi (by decide) (by decide) (by decide)
end
end Go.Proofs.Ytneimdjgbblaoaa
