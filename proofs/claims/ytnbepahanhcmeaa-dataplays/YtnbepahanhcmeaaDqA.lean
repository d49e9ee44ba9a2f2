/- A data queue in memory (package dtq): one block of 87 cells, in which two queues lie, and the numbers' own row. -/
import Derived.Test.YtnbepahanhcmeaaConD
import Derived.Test.YtnbepahanhcmeaaKdA
import Derived.Test.YtnbepahanhcmeaaDqS
namespace Go.Proofs.Ytnbepahanhcmeaa
open Go.RowKit
set_option maxRecDepth 100000

/-- Only block s and the row v's block may have turned, and new ones may have come; the row v' lies where v lay, or in a new block. -/
structure Dt (s : Nat) (v v' : Value) (w w' : World) : Prop where
  os : w'.os = w.os
  tape : w'.tape = w.tape
  output : w'.output = w.output
  size : w.heap.size ≤ w'.heap.size
  block : ∀ k, k < w.heap.size → k ≠ s → v.ownBlock ≠ some k → w'.heap[k]? = w.heap[k]?
  wh : ∀ k, k < w.heap.size → v'.ownBlock = some k → v.ownBlock = some k

theorem Dt.refl (s : Nat) (v : Value) (w : World) : Dt s v v w w := ⟨rfl, rfl, rfl, Nat.le_refl _, fun _ _ _ _ => rfl, fun _ _ h => h⟩
theorem Dt.trans {s : Nat} {v v1 v2 : Value} {a b c : World} (h : Dt s v v1 a b) (k : Dt s v1 v2 b c) : Dt s v v2 a c :=
  ⟨k.os.trans h.os, k.tape.trans h.tape, k.output.trans h.output, Nat.le_trans h.size k.size,
   fun i hi h1 h2 => (k.block i (Nat.lt_of_lt_of_le hi h.size) h1 (fun e => h2 (h.wh i hi e))).trans (h.block i hi h1 h2),
   fun i hi e => h.wh i hi (k.wh i (Nat.lt_of_lt_of_le hi h.size) e)⟩
theorem Dt.of_below {s : Nat} {v : Value} {w w' : World} (h : Below w.heap.size w w') : Dt s v v w w' :=
  ⟨h.os, h.tape, h.output, h.size, fun k hk _ _ => h.block k hk, fun _ _ e => e⟩
theorem Dt.of_only {s : Nat} {v : Value} {w w' : World} (h : Only s w w') : Dt s v v w w' :=
  ⟨h.os, h.tape, h.output, h.size, fun k hk h1 _ => h.block k hk h1, fun _ _ e => e⟩
theorem Dt.drew {s : Nat} {v v' : Value} {a w : World} (h : Dt s v v' a w) : Dt s v v' a w.drew := ⟨h.os, h.tape, h.output, h.size, h.block, h.wh⟩
theorem Dt.drewN {s : Nat} {v v' : Value} {a w : World} (h : Dt s v v' a w) (n : Nat) : Dt s v v' a (w.drewN n) := ⟨h.os, h.tape, h.output, h.size, h.block, h.wh⟩
theorem Dt.alloc {s : Nat} {v v' : Value} {a w : World} (h : Dt s v v' a w) (o : Obj) : Dt s v v' a (w.alloc o) :=
  h.trans (.of_below ((Below.refl _ _).alloc (Nat.le_refl _) o))
/-- what came later turned by itself, too -/
theorem Dt.later {s : Nat} {v v' : Value} {a b c : World} (h : Dt s v v' a b) (k : Below a.heap.size b c) : Dt s v v' a c :=
  ⟨k.os.trans h.os, k.tape.trans h.tape, k.output.trans h.output, Nat.le_trans h.size k.size, fun i hi h1 h2 => (k.block i hi).trans (h.block i hi h1 h2), h.wh⟩
theorem Dt.below {s B : Nat} {v v' : Value} {w w' : World} (h : Dt s v v' w w') (h0 : B ≤ w.heap.size) (h1 : B ≤ s) (h2 : ∀ k, v.ownBlock = some k → B ≤ k) : Below B w w' :=
  ⟨h.os, h.tape, h.output, h.size, fun k hk => h.block k (by omega) (by omega) (fun e => by have := h2 k e; omega)⟩
theorem Dt.cell {s : Nat} {v v' : Value} {w w' : World} (h : Dt s v v' w w') {q : Addr} (hq : q.block < w.heap.size) (h1 : q.block ≠ s) (h2 : v.ownBlock ≠ some q.block) : w'.cell? q = w.cell? q :=
  World.cell?_of_block (w := w) (h.block q.block hq h1 h2)

/-- a queue's 34 cells among others -/
def Qc (cs : Array Value) (O : Nat) (b : Bool) (L : List It) : Prop :=
  (∃ f : Nat → Int, (∀ i, i < 32 → cs[O + i]? = some (.int .i64 (f i))) ∧ Rel f L) ∧ cs[O + 32]? = some (.int .i64 (L.length : Int)) ∧ cs[O + 33]? = some (.bool b)
theorem Qc.congr {cs cs' : Array Value} {O : Nat} {b : Bool} {L : List It} (h : Qc cs O b L) (e : ∀ i, O ≤ i → i < O + 34 → cs'[i]? = cs[i]?) : Qc cs' O b L := by
  obtain ⟨⟨f, h1, r⟩, h2, h3⟩ := h
  exact ⟨⟨f, fun i hi => (e _ (by omega) (by omega)).trans (h1 i hi), r⟩, (e _ (by omega) (by omega)).trans h2, (e _ (by omega) (by omega)).trans h3⟩
theorem Qc.one {cs : Array Value} {O : Nat} {b : Bool} {L : List It} (h : Qc cs O b L) {i : Nat} (h1 : O ≤ i) (h2 : i < O + 34) : ∃ u, cs[i]? = some u ∧ u.oneCell' = true := by
  obtain ⟨⟨f, q1, r⟩, q2, q3⟩ := h
  rcases Nat.lt_trichotomy i (O + 32) with c | c | c
  · have := q1 (i - O) (by omega)
    rw [show O + (i - O) = i by omega] at this
    exact ⟨_, this, rfl⟩
  · rw [c]; exact ⟨_, q2, rfl⟩
  · rw [show i = O + 33 by omega]; exact ⟨_, q3, rfl⟩

/-- the cells of a data queue, its numbers' row v -/
structure Dz (cs : Array Value) (v : Value) (t : St) : Prop where
  size : cs.size = 87
  s : Qc cs 0 t.b t.S
  w : ∀ i, i < 17 → cs[34 + i]? = some (.int .i64 (t.W i))
  r : Qc cs 51 false t.R
  m : cs[85]? = some (.int .i64 (t.m : Int))
  d : cs[86]? = some v
/-- a data queue in block s, but for its numbers -/
def Dc (w : World) (s : Nat) (v : Value) (t : St) : Prop := ∃ cs, w.heap[s]? = some (.cells cs 82 (0, 0)) ∧ Dz cs v t
/-- the numbers' row, all of whose memory lies from block B on -/
abbrev Ow (w : World) (B : Nat) (v : Value) (D : List Int) : Prop := w.ownsRow B 3 1 v D.length (K.vals K.ci D)
/-- a data queue in block s, all of whose memory lies from block B on -/
structure Dq (w : World) (B s : Nat) (v : Value) (t : St) : Prop where
  c : Dc w s v t
  o : Ow w B v t.D
  b : B ≤ s

theorem Dc.lt {w : World} {s : Nat} {v : Value} {t : St} (h : Dc w s v t) : s < w.heap.size := by obtain ⟨cs, h, _⟩ := h; exact lt_of_heap h
theorem Dc.keep {w w' : World} {s : Nat} {v : Value} {t : St} (h : Dc w s v t) (k : w'.heap[s]? = w.heap[s]?) : Dc w' s v t := by obtain ⟨cs, h, r⟩ := h; exact ⟨cs, k.trans h, r⟩
theorem Dc.room {w : World} {s : Nat} {v : Value} {t : St} (h : Dc w s v t) : w.cell? ⟨s, 85, none⟩ = some (.int .i64 (t.m : Int)) := by obtain ⟨cs, h, r⟩ := h; rw [cell_of_row w s 85 cs 82 (0, 0) h]; exact r.m
theorem Dc.data {w : World} {s : Nat} {v : Value} {t : St} (h : Dc w s v t) : w.cell? ⟨s, 86, none⟩ = some v := by obtain ⟨cs, h, r⟩ := h; rw [cell_of_row w s 86 cs 82 (0, 0) h]; exact r.d
theorem Dc.wish {w : World} {s : Nat} {v : Value} {t : St} (h : Dc w s v t) {i : Nat} (hi : i < 17) : w.cell? ⟨s, 34 + i, none⟩ = some (.int .i64 (t.W i)) := by obtain ⟨cs, h, r⟩ := h; rw [cell_of_row w s _ cs 82 (0, 0) h]; exact r.w i hi
theorem Dc.fz {w : World} {s : Nat} {v : Value} {t : St} (h : Dc w s v t) (i : Nat) : w.frozen? ⟨s, i, none⟩ = false := by obtain ⟨cs, h, _⟩ := h; exact frozen_of_row w s i cs 82 h
theorem Dc.type {w : World} {s : Nat} {v : Value} {t : St} (h : Dc w s v t) {e : TypeId} (he : e ≠ 82) : ∀ cs fr, w.heap[s]? ≠ some (.cells cs e fr) := by
  intro cs2 fr h2
  obtain ⟨cs, h, _⟩ := h
  rw [h] at h2; injection h2 with h2; injection h2 with _ h3; exact he h3.symm

/-- the senders, by themselves -/
theorem Dc.sq {w : World} {s : Nat} {v : Value} {t : St} (h : Dc w s v t) : ∃ X, Ln 0 X w s 82 t.b t.S ∧ ∀ w' L, Ln 0 X w' s 82 t.b L → Dc w' s v { t with S := L } := by
  obtain ⟨cs, h, r⟩ := h
  obtain ⟨⟨f, q1, q2⟩, q3, q4⟩ := r.s
  refine ⟨fun i => cs[i]?, ⟨f, ⟨cs, h, q1, q3, q4, fun i _ => rfl⟩, q2⟩, ?_⟩
  rintro w' L ⟨g, ⟨ds, k0, k1, k2, k3, k4⟩, k5⟩
  have e : ∀ i, 34 ≤ i → ds[i]? = cs[i]? := fun i hi => k4 i (.inr (by omega))
  have hsz : ds.size = 87 := by
    have h1 : ds[86]? = some v := (e 86 (by omega)).trans r.d
    have h2 : ds[87]? = none := (e 87 (by omega)).trans (Array.getElem?_eq_none (by rw [r.size]; exact Nat.le_refl _))
    have := (Array.getElem?_eq_some_iff.1 h1).1
    have := Array.getElem?_eq_none_iff.1 h2
    omega
  exact ⟨ds, k0, hsz, ⟨⟨g, k1, k5⟩, k2, k3⟩, fun i hi => (e _ (by omega)).trans (r.w i hi), r.r.congr (fun i h1 _ => e i (by omega)), (e _ (by omega)).trans r.m, (e _ (by omega)).trans r.d⟩
/-- the receivers, by themselves -/
theorem Dc.rq {w : World} {s : Nat} {v : Value} {t : St} (h : Dc w s v t) : ∃ X, Ln 51 X w s 82 false t.R ∧ ∀ w' L, Ln 51 X w' s 82 false L → Dc w' s v { t with R := L } := by
  obtain ⟨cs, h, r⟩ := h
  obtain ⟨⟨f, q1, q2⟩, q3, q4⟩ := r.r
  refine ⟨fun i => cs[i]?, ⟨f, ⟨cs, h, q1, q3, q4, fun i _ => rfl⟩, q2⟩, ?_⟩
  rintro w' L ⟨g, ⟨ds, k0, k1, k2, k3, k4⟩, k5⟩
  have e : ∀ i, i < 51 ∨ 85 ≤ i → ds[i]? = cs[i]? := fun i hi => k4 i (by omega)
  have hsz : ds.size = 87 := by
    have h1 : ds[86]? = some v := (e 86 (by omega)).trans r.d
    have h2 : ds[87]? = none := (e 87 (by omega)).trans (Array.getElem?_eq_none (by rw [r.size]; exact Nat.le_refl _))
    have := (Array.getElem?_eq_some_iff.1 h1).1
    have := Array.getElem?_eq_none_iff.1 h2
    omega
  exact ⟨ds, k0, hsz, r.s.congr (fun i _ h2 => e i (by omega)), fun i hi => (e _ (by omega)).trans (r.w i hi), ⟨⟨g, k1, k5⟩, k2, k3⟩, (e _ (by omega)).trans r.m, (e _ (by omega)).trans r.d⟩
theorem Dc.setData {w : World} {s : Nat} {v : Value} {t : St} (h : Dc w s v t) (u : Value) (D : List Int) : Dc (w.setCell ⟨s, 86, none⟩ u) s u { t with D := D } := by
  obtain ⟨cs, h, r⟩ := h
  have e : ∀ i, i ≠ 86 → (cs.setIfInBounds 86 u)[i]? = cs[i]? := fun i hi => by rw [Array.getElem?_setIfInBounds_ne (Ne.symm hi)]
  refine ⟨_, heap_setCell_same w s 86 cs 82 _ h, by simpa using r.size, r.s.congr (fun i _ h2 => e i (by omega)), fun i hi => (e _ (by omega)).trans (r.w i hi), r.r.congr (fun i _ h2 => e i (by omega)), (e _ (by omega)).trans r.m, ?_⟩
  rw [Array.getElem?_setIfInBounds_self_of_lt (by rw [r.size]; omega)]
theorem Dc.setW {w : World} {s : Nat} {v : Value} {t : St} (h : Dc w s v t) {k : Nat} (hk : k < 17) (x : Int) : Dc (w.setCell ⟨s, 34 + k, none⟩ (.int .i64 x)) s v { t with W := setW t.W k x } := by
  obtain ⟨cs, h, r⟩ := h
  have e : ∀ i, i ≠ 34 + k → (cs.setIfInBounds (34 + k) (.int .i64 x))[i]? = cs[i]? := fun i hi => by rw [Array.getElem?_setIfInBounds_ne (Ne.symm hi)]
  refine ⟨_, heap_setCell_same w s _ cs 82 _ h, by simpa using r.size, r.s.congr (fun i _ h2 => e i (by omega)), fun i hi => ?_, r.r.congr (fun i _ h2 => e i (by omega)), (e _ (by omega)).trans r.m, (e _ (by omega)).trans r.d⟩
  dsimp only [Ytnbepahanhcmeaa.setW]
  by_cases c : i = k
  · subst c; rw [if_pos rfl, Array.getElem?_setIfInBounds_self_of_lt (by rw [r.size]; omega)]
  · rw [if_neg c, e _ (by omega)]; exact r.w i hi
theorem Dc.congr {w : World} {s : Nat} {v : Value} {t t' : St} (h : Dc w s v t) (e : t = t') : Dc w s v t' := e ▸ h

theorem own_blk {w : World} {B n z : Nat} {e : TypeId} {v : Value} {xs : List Value} (h : w.ownsRow B e z v n xs) {g : Nat} (hg : v.ownBlock = some g) : ∃ cap cur, v = .slice (some ⟨g, 0, none⟩) n cap ∧ B ≤ g ∧ g < w.heap.size ∧ w.heap[g]? = some (.cells cur e (0, 0)) ∧ n ≤ cap ∧ cap ≤ maxLen ∧ cur.size = cap * z ∧ cur.toList.take (n * z) = xs := by
  rcases h.2 with ⟨rfl, _⟩ | ⟨g', cap, cur, rfl, h1, hh, h2, h3, h4, h5⟩
  · simp [Value.ownBlock] at hg
  · simp [Value.ownBlock] at hg
    subst hg
    exact ⟨cap, cur, rfl, h1, lt_of_heap hh, hh, h2, h3, h4, h5⟩
/-- the row does not lie in block s -/
theorem own_ne {w : World} {B s n z : Nat} {e : TypeId} {v : Value} {xs : List Value} (h : w.ownsRow B e z v n xs) (hs : ∀ cs fr, w.heap[s]? ≠ some (.cells cs e fr)) : v.ownBlock ≠ some s := fun hg => by
  obtain ⟨cap, cur, _, _, _, hh, _⟩ := own_blk h hg
  exact hs _ _ hh

theorem Dq.lt {w : World} {B s : Nat} {v : Value} {t : St} (h : Dq w B s v t) : s < w.heap.size := h.c.lt
theorem Dq.ne {w : World} {B s : Nat} {v : Value} {t : St} (h : Dq w B s v t) : v.ownBlock ≠ some s := own_ne h.o (h.c.type (by decide))
theorem Dq.below {w w' : World} {B s : Nat} {v : Value} {t : St} (h : Dq w B s v t) (k : Below w.heap.size w w') : Dq w' B s v t := ⟨h.c.keep (k.block s h.lt), K.own_below h.o k, h.b⟩
theorem Dq.drew {w : World} {B s : Nat} {v : Value} {t : St} (h : Dq w B s v t) : Dq w.drew B s v t := h.below ⟨rfl, rfl, rfl, Nat.le_refl _, fun _ _ => rfl⟩
theorem Dq.drewN {w : World} {B s : Nat} {v : Value} {t : St} (h : Dq w B s v t) (n : Nat) : Dq (w.drewN n) B s v t := h.below ⟨rfl, rfl, rfl, Nat.le_refl _, fun _ _ => rfl⟩
theorem Dq.alloc {w : World} {B s : Nat} {v : Value} {t : St} (h : Dq w B s v t) (o : Obj) : Dq (w.alloc o) B s v t := h.below ((Below.refl _ _).alloc (Nat.le_refl _) o)
/-- the block itself has turned, the row stays -/
theorem Dq.turn {w w' : World} {B s : Nat} {v : Value} {t t' : St} (h : Dq w B s v t) (k : Only s w w') (c : Dc w' s v t') (hd : t'.D = t.D) : Dq w' B s v t' :=
  ⟨c, by rw [hd]; exact K.own_keep h.o fun g cs hg hv => k.block g (lt_of_heap hg) (by rintro rfl; exact h.ne hv), h.b⟩
/-- another one turned -/
theorem Dq.other {w w' : World} {B s q : Nat} {v u u' : Value} {t : St} (h : Dq w B s v t) (k : Dt q u u' w w') (h1 : s ≠ q) (h2 : u.ownBlock ≠ some s) (h3 : v.ownBlock ≠ some q) (h4 : ∀ g, v.ownBlock = some g → u.ownBlock ≠ some g) : Dq w' B s v t :=
  ⟨h.c.keep (k.block s h.lt h1 h2), K.own_keep h.o fun g cs hg hv => k.block g (lt_of_heap hg) (by rintro rfl; exact h3 hv) (h4 g hv), h.b⟩
theorem Dq.base {w : World} {B s : Nat} {v : Value} {t : St} (h : Dq w B s v t) : ∀ k, v.ownBlock = some k → B ≤ k := fun k hk => by obtain ⟨_, _, _, h1, _⟩ := own_blk h.o hk; exact h1
/-- seen from a lower block -/
theorem Dq.lower {w : World} {B C s : Nat} {v : Value} {t : St} (h : Dq w B s v t) (hb : C ≤ B) : Dq w C s v t := ⟨h.c, K.own_base h.o hb, Nat.le_trans hb h.b⟩
theorem Dt.under {w w' : World} {B s : Nat} {v v' : Value} {t : St} (k : Dt s v v' w w') (h : Dq w B s v t) (hB : B ≤ w.heap.size) : Below B w w' := k.below hB h.b h.base
/-- a row of numbers elsewhere stays -/
theorem own_dt {w w' : World} {B B' s : Nat} {v v' u : Value} {n : Nat} {xs : List Value} {t : St} (h : w.ownsRow B' 3 1 u n xs) (q : Dq w B s v t) (k : Dt s v v' w w') (h1 : ∀ g, u.ownBlock = some g → v.ownBlock ≠ some g) : w'.ownsRow B' 3 1 u n xs :=
  K.own_keep h fun g cs hg hu => k.block g (lt_of_heap hg) (by rintro rfl; exact q.c.type (e := 3) (by decide) _ _ hg) (h1 g hu)
/-- and it lies elsewhere still -/
theorem apart_dt {w w' : World} {B' s : Nat} {v v' u : Value} {n : Nat} {xs : List Value} (h : w.ownsRow B' 3 1 u n xs) (k : Dt s v v' w w') (h1 : ∀ g, u.ownBlock = some g → v.ownBlock ≠ some g) : ∀ g, u.ownBlock = some g → v'.ownBlock ≠ some g := fun g hu hv => by
  obtain ⟨_, _, _, _, hl, _⟩ := own_blk h hu
  exact h1 g hu (k.wh g hl hv)
end Go.Proofs.Ytnbepahanhcmeaa
