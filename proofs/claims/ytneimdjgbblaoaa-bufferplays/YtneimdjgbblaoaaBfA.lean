/- A message buffer in memory (package mbf): one block of 87 cells, in which two queues and the senders' messages lie, and the ring's two blocks. -/
import Derived.Test.YtneimdjgbblaoaaConD
import Derived.Test.YtneimdjgbblaoaaKdA
import Derived.Test.YtneimdjgbblaoaaRgRefC
import Derived.Test.YtneimdjgbblaoaaBfS
namespace Go.Proofs.Ytneimdjgbblaoaa
open Go.RowKit
set_option maxRecDepth 100000

/-- Only blocks s, p and m may have turned, and new ones may have come. -/
structure Dt (s p m : Nat) (w w' : World) : Prop where
  os : w'.os = w.os
  tape : w'.tape = w.tape
  output : w'.output = w.output
  size : w.heap.size ≤ w'.heap.size
  block : ∀ k, k < w.heap.size → k ≠ s → k ≠ p → k ≠ m → w'.heap[k]? = w.heap[k]?

section
variable {s p m : Nat}
theorem Dt.refl (s p m : Nat) (w : World) : Dt s p m w w := ⟨rfl, rfl, rfl, Nat.le_refl _, fun _ _ _ _ _ => rfl⟩
theorem Dt.trans {a b c : World} (h : Dt s p m a b) (k : Dt s p m b c) : Dt s p m a c :=
  ⟨k.os.trans h.os, k.tape.trans h.tape, k.output.trans h.output, Nat.le_trans h.size k.size,
   fun i hi h1 h2 h3 => (k.block i (Nat.lt_of_lt_of_le hi h.size) h1 h2 h3).trans (h.block i hi h1 h2 h3)⟩
theorem Dt.of_below {w w' : World} (h : Below w.heap.size w w') : Dt s p m w w' := ⟨h.os, h.tape, h.output, h.size, fun k hk _ _ _ => h.block k hk⟩
theorem Dt.of_only {w w' : World} (h : Only s w w') : Dt s p m w w' := ⟨h.os, h.tape, h.output, h.size, fun k hk h1 _ _ => h.block k hk h1⟩
theorem Dt.of_ring {w w' : World} (h : R.Only p m w w') : Dt s p m w w' := ⟨h.os, h.tape, h.output, h.size, fun k hk _ h2 h3 => h.block k hk h2 h3⟩
theorem Dt.drew {a w : World} (h : Dt s p m a w) : Dt s p m a w.drew := ⟨h.os, h.tape, h.output, h.size, h.block⟩
theorem Dt.drewN {a w : World} (h : Dt s p m a w) (n : Nat) : Dt s p m a (w.drewN n) := ⟨h.os, h.tape, h.output, h.size, h.block⟩
theorem Dt.un {a w : World} {n : Nat} (h : Dt s p m (a.drewN n) w) : Dt s p m a w := ⟨h.os, h.tape, h.output, h.size, h.block⟩
theorem Dt.alloc {a w : World} (h : Dt s p m a w) (o : Obj) : Dt s p m a (w.alloc o) := h.trans (.of_below ((Below.refl _ _).alloc (Nat.le_refl _) o))
theorem Dt.setCell {a w : World} (h : Dt s p m a w) (i : Nat) (u : Value) : Dt s p m a (w.setCell ⟨s, i, none⟩ u) :=
  h.trans (.of_only ((Only.refl s w).setCell (q := ⟨s, i, none⟩) (.inl rfl) u))
/-- what came later turned by itself, too -/
theorem Dt.later {a b c : World} (h : Dt s p m a b) (k : Below a.heap.size b c) : Dt s p m a c :=
  ⟨k.os.trans h.os, k.tape.trans h.tape, k.output.trans h.output, Nat.le_trans h.size k.size, fun i hi h1 h2 h3 => (k.block i hi).trans (h.block i hi h1 h2 h3)⟩
theorem Dt.below {B : Nat} {w w' : World} (h : Dt s p m w w') (h0 : B ≤ w.heap.size) (h1 : B ≤ s) (h2 : B ≤ p) (h3 : B ≤ m) : Below B w w' :=
  ⟨h.os, h.tape, h.output, h.size, fun k hk => h.block k (by omega) (by omega) (by omega) (by omega)⟩
theorem Dt.cell {w w' : World} (h : Dt s p m w w') {q : Addr} (hq : q.block < w.heap.size) (h1 : q.block ≠ s) (h2 : q.block ≠ p) (h3 : q.block ≠ m) : w'.cell? q = w.cell? q :=
  World.cell?_of_block (w := w) (h.block q.block hq h1 h2 h3)
end

/-- a queue's 34 cells among others -/
def Qc (cs : Array Value) (O : Nat) (b : Bool) (L : List It) : Prop :=
  (∃ f : Nat → Int, (∀ i, i < 32 → cs[O + i]? = some (.int .i64 (f i))) ∧ Rel f L) ∧ cs[O + 32]? = some (.int .i64 (L.length : Int)) ∧ cs[O + 33]? = some (.bool b)
theorem Qc.congr {cs cs' : Array Value} {O : Nat} {b : Bool} {L : List It} (h : Qc cs O b L) (e : ∀ i, O ≤ i → i < O + 34 → cs'[i]? = cs[i]?) : Qc cs' O b L := by
  obtain ⟨⟨f, h1, r⟩, h2, h3⟩ := h
  exact ⟨⟨f, fun i hi => (e _ (by omega) (by omega)).trans (h1 i hi), r⟩, (e _ (by omega) (by omega)).trans h2, (e _ (by omega) (by omega)).trans h3⟩
theorem Qc.one {cs : Array Value} {O : Nat} {b : Bool} {L : List It} (h : Qc cs O b L) {i : Nat} (h1 : O ≤ i) (h2 : i < O + 34) : ∃ u, cs[i]? = some u ∧ u.oneCell' = true := by
  obtain ⟨⟨f, q1, r⟩, q2, q3⟩ := h
  rcases Nat.lt_trichotomy i (O + 32) with c | c | c
  · have := q1 (i - O) (by omega)
    rw [show O + (i - O) = i by omega] at this
    exact ⟨_, this, rfl⟩
  · rw [c]; exact ⟨_, q2, rfl⟩
  · rw [show i = O + 33 by omega]; exact ⟨_, q3, rfl⟩

/-- those that wait have their messages beside them; the others any text -/
def Ms (cs : Array Value) (O : Nat) (S : List It) (W : Nat → List Int) : Prop :=
  (∀ i, i < 17 → ∃ u, cs[O + i]? = some (.string u)) ∧ ∀ y, y ∈ S → cs[O + y.1.toNat]? = some (.string (R.str (W y.1.toNat)))

/-- the cells of a buffer whose ring lies in block p -/
structure Dz (cs : Array Value) (p : Nat) (t : St) : Prop where
  size : cs.size = 87
  g : cs[0]? = some (.pointer (some ⟨p, 0, none⟩))
  m : cs[1]? = some (.int .i64 (t.m : Int))
  s : Qc cs 2 t.b t.S
  w : Ms cs 36 t.S t.W
  r : Qc cs 53 false t.R
/-- a buffer in block s, but for its ring -/
def Dc (w : World) (s p : Nat) (t : St) : Prop := ∃ cs, w.heap[s]? = some (.cells cs 70 (0, 0)) ∧ Dz cs p t
/-- a buffer in block s, all of whose memory lies from block B on; its arena has cost at most C -/
structure Bf (w : World) (B s p m : Nat) (C : Int) (t : St) : Prop where
  c : Dc w s p t
  g : ∃ c, 0 ≤ c ∧ c ≤ C ∧ R.Rg w p m t.N c t.G
  bs : B ≤ s
  bp : B ≤ p
  bm : B ≤ m

section
variable {w w' : World} {B s p m : Nat} {C : Int} {t : St}
theorem Dc.lt (h : Dc w s p t) : s < w.heap.size := by obtain ⟨cs, h, _⟩ := h; exact lt_of_heap h
theorem Dc.keep (h : Dc w s p t) (k : w'.heap[s]? = w.heap[s]?) : Dc w' s p t := by obtain ⟨cs, h, r⟩ := h; exact ⟨cs, k.trans h, r⟩
theorem Dc.ring (h : Dc w s p t) : w.cell? ⟨s, 0, none⟩ = some (.pointer (some ⟨p, 0, none⟩)) := by obtain ⟨cs, h, r⟩ := h; rw [cell_of_row w s 0 cs 70 (0, 0) h]; exact r.g
theorem Dc.most (h : Dc w s p t) : w.cell? ⟨s, 1, none⟩ = some (.int .i64 (t.m : Int)) := by obtain ⟨cs, h, r⟩ := h; rw [cell_of_row w s 1 cs 70 (0, 0) h]; exact r.m
theorem Dc.msg (h : Dc w s p t) {y : It} (hy : y ∈ t.S) {k : Nat} (hk : y.1.toNat = k) : w.cell? ⟨s, 36 + k, none⟩ = some (.string (R.str (t.W k))) := by
  obtain ⟨cs, h, r⟩ := h; rw [cell_of_row w s _ cs 70 (0, 0) h, ← hk]; exact r.w.2 y hy
theorem Dc.text (h : Dc w s p t) {k : Nat} (hk : k < 17) : ∃ u, w.cell? ⟨s, 36 + k, none⟩ = some (.string u) := by
  obtain ⟨cs, h, r⟩ := h; rw [cell_of_row w s _ cs 70 (0, 0) h]; exact r.w.1 k hk
theorem Dc.fz (h : Dc w s p t) (i : Nat) : w.frozen? ⟨s, i, none⟩ = false := by obtain ⟨cs, h, _⟩ := h; exact frozen_of_row w s i cs 70 h
theorem Dc.type (h : Dc w s p t) {e : TypeId} (he : e ≠ 70) : ∀ cs fr, w.heap[s]? ≠ some (.cells cs e fr) := by
  intro cs2 fr h2
  obtain ⟨cs, h, _⟩ := h
  rw [h] at h2; injection h2 with h2; injection h2 with _ h3; exact he h3.symm
/-- the ring's messages are no matter of this block -/
theorem Dc.ofG {G : List (List Int)} (h : Dc w s p t) : Dc w s p { t with G := G } := by obtain ⟨cs, h, r⟩ := h; exact ⟨cs, h, r.size, r.g, r.m, r.s, r.w, r.r⟩

/-- the senders, by themselves: their messages stay as long as nobody comes -/
theorem Dc.sq (h : Dc w s p t) : ∃ X, Ln 2 X w s 70 t.b t.S ∧ ∀ w' L, (∀ y, y ∈ L → ∃ z, z ∈ t.S ∧ z.1 = y.1) → Ln 2 X w' s 70 t.b L → Dc w' s p { t with S := L } := by
  obtain ⟨cs, h, r⟩ := h
  obtain ⟨⟨f, q1, q2⟩, q3, q4⟩ := r.s
  refine ⟨fun i => cs[i]?, ⟨f, ⟨cs, h, q1, q3, q4, fun i _ => rfl⟩, q2⟩, ?_⟩
  rintro w' L hL ⟨g, ⟨ds, k0, k1, k2, k3, k4⟩, k5⟩
  have e : ∀ i, i < 2 ∨ 36 ≤ i → ds[i]? = cs[i]? := fun i hi => k4 i (by omega)
  have hsz : ds.size = 87 := by
    have h2 : ds[87]? = none := (e 87 (by omega)).trans (Array.getElem?_eq_none (by rw [r.size]; exact Nat.le_refl _))
    obtain ⟨f2, r2⟩ := r.r
    have h1 : ds[86]? = some (.bool false) := (e 86 (by omega)).trans r2.2
    have := (Array.getElem?_eq_some_iff.1 h1).1
    have := Array.getElem?_eq_none_iff.1 h2
    omega
  refine ⟨ds, k0, hsz, (e _ (by omega)).trans r.g, (e _ (by omega)).trans r.m, ⟨⟨g, k1, k5⟩, k2, k3⟩, ⟨fun i hi => ?_, fun y hy => ?_⟩, r.r.congr (fun i h1 _ => e i (by omega))⟩
  · rw [e _ (by omega)]; exact r.w.1 i hi
  · obtain ⟨z, hz, he⟩ := hL y hy
    have := r.w.2 z hz
    rw [e _ (by omega), ← he]; exact this
/-- the receivers, by themselves -/
theorem Dc.rq (h : Dc w s p t) : ∃ X, Ln 53 X w s 70 false t.R ∧ ∀ w' L, Ln 53 X w' s 70 false L → Dc w' s p { t with R := L } := by
  obtain ⟨cs, h, r⟩ := h
  obtain ⟨⟨f, q1, q2⟩, q3, q4⟩ := r.r
  refine ⟨fun i => cs[i]?, ⟨f, ⟨cs, h, q1, q3, q4, fun i _ => rfl⟩, q2⟩, ?_⟩
  rintro w' L ⟨g, ⟨ds, k0, k1, k2, k3, k4⟩, k5⟩
  have e : ∀ i, i < 53 ∨ 87 ≤ i → ds[i]? = cs[i]? := fun i hi => k4 i (by omega)
  have hsz : ds.size = 87 := by
    have h2 : ds[87]? = none := (e 87 (by omega)).trans (Array.getElem?_eq_none (by rw [r.size]; exact Nat.le_refl _))
    have := (Array.getElem?_eq_some_iff.1 k3).1
    have := Array.getElem?_eq_none_iff.1 h2
    omega
  exact ⟨ds, k0, hsz, (e _ (by omega)).trans r.g, (e _ (by omega)).trans r.m, r.s.congr (fun i _ h2 => e i (by omega)), ⟨fun i hi => by rw [e _ (by omega)]; exact r.w.1 i hi, fun y hy => by
    have := r.w.2 y hy
    have hl := (Array.getElem?_eq_some_iff.1 this).1
    by_cases c : 36 + y.1.toNat < 53
    · rw [e _ (by omega)]; exact this
    · exfalso
      have hc := c
      by_cases c2 : 36 + y.1.toNat < 85
      · have t1 := q1 (36 + y.1.toNat - 53) (by omega)
        rw [show 53 + (36 + y.1.toNat - 53) = 36 + y.1.toNat from by omega, this] at t1
        injection t1 with t1; cases t1
      · rcases (show y.1.toNat = 49 ∨ y.1.toNat = 50 by rw [r.size] at hl; omega) with e3 | e3 <;> rw [e3] at this
        · rw [show 36 + 49 = 53 + 32 from rfl, q3] at this; cases this
        · rw [show 36 + 50 = 53 + 33 from rfl, q4] at this; cases this⟩, ⟨⟨g, k1, k5⟩, k2, k3⟩⟩
/-- somebody came, and its message is laid -/
theorem Dc.sqAdd (h : Dc w s p t) : ∃ X, Ln 2 X w s 70 t.b t.S ∧ ∀ w' L k x, k < 17 → (∀ y, y ∈ L → (∃ z, z ∈ t.S ∧ z.1 = y.1) ∨ y.1.toNat = k) → Ln 2 X w' s 70 t.b L → Dc (w'.setCell ⟨s, 36 + k, none⟩ (.string (R.str x))) s p { t with S := L, W := setW t.W k x } ∧ w'.frozen? ⟨s, 36 + k, none⟩ = false ∧ ∃ u, w'.cell? ⟨s, 36 + k, none⟩ = some (.string u) := by
  obtain ⟨cs, h, r⟩ := h
  obtain ⟨⟨f, q1, q2⟩, q3, q4⟩ := r.s
  refine ⟨fun i => cs[i]?, ⟨f, ⟨cs, h, q1, q3, q4, fun i _ => rfl⟩, q2⟩, ?_⟩
  rintro w' L k x hk hL ⟨g, ⟨ds, k0, k1, k2, k3, k4⟩, k5⟩
  have e : ∀ i, i < 2 ∨ 36 ≤ i → ds[i]? = cs[i]? := fun i hi => k4 i (by omega)
  have hsz : ds.size = 87 := by
    have h2 : ds[87]? = none := (e 87 (by omega)).trans (Array.getElem?_eq_none (by rw [r.size]; exact Nat.le_refl _))
    obtain ⟨f2, r2⟩ := r.r
    have h1 : ds[86]? = some (.bool false) := (e 86 (by omega)).trans r2.2
    have := (Array.getElem?_eq_some_iff.1 h1).1
    have := Array.getElem?_eq_none_iff.1 h2
    omega
  have e2 : ∀ i, i ≠ 36 + k → (ds.setIfInBounds (36 + k) (.string (R.str x)))[i]? = ds[i]? := fun i hi => by rw [Array.getElem?_setIfInBounds_ne (Ne.symm hi)]
  have e3 : (ds.setIfInBounds (36 + k) (.string (R.str x)))[36 + k]? = some (.string (R.str x)) := by rw [Array.getElem?_setIfInBounds_self_of_lt (by rw [hsz]; omega)]
  refine ⟨⟨_, heap_setCell_same w' s _ ds 70 _ k0, by simpa using hsz, (e2 _ (by omega)).trans ((e _ (by omega)).trans r.g), (e2 _ (by omega)).trans ((e _ (by omega)).trans r.m), ?_, ⟨fun i hi => ?_, fun y hy => ?_⟩, r.r.congr (fun i h1 _ => (e2 i (by omega)).trans (e i (by omega)))⟩, frozen_of_row w' s _ ds 70 k0, ?_⟩
  · exact Qc.congr (cs := ds) ⟨⟨g, k1, k5⟩, k2, k3⟩ (fun i _ h2 => e2 i (by omega))
  · by_cases c : i = k
    · subst c; exact ⟨_, e3⟩
    · rw [e2 _ (by omega), e _ (by omega)]; exact r.w.1 i hi
  · show (ds.setIfInBounds (36 + k) (.string (R.str x)))[36 + y.1.toNat]? = some (.string (R.str (setW t.W k x y.1.toNat)))
    by_cases c : y.1.toNat = k
    · rw [c, e3]; unfold setW; rw [if_pos rfl]
    · rcases hL y hy with ⟨z, hz, he⟩ | hk2
      · have := r.w.2 z hz
        rw [he] at this
        rw [e2 _ (by omega), e _ (by omega)]; unfold setW; rw [if_neg c]; exact this
      · exact absurd hk2 c
  · rw [cell_of_row w' s _ ds 70 (0, 0) k0, e _ (by omega)]; exact r.w.1 k hk
/-- the message of one that does not wait is wiped -/
theorem Dc.wipe (h : Dc w s p t) {k : Nat} (hk : k < 17) (hn : ∀ y, y ∈ t.S → y.1.toNat ≠ k) (u : ByteArray) : Dc (w.setCell ⟨s, 36 + k, none⟩ (.string u)) s p t := by
  obtain ⟨cs, h, r⟩ := h
  have e : ∀ i, i ≠ 36 + k → (cs.setIfInBounds (36 + k) (.string u))[i]? = cs[i]? := fun i hi => by rw [Array.getElem?_setIfInBounds_ne (Ne.symm hi)]
  refine ⟨_, heap_setCell_same w s _ cs 70 _ h, by simpa using r.size, (e _ (by omega)).trans r.g, (e _ (by omega)).trans r.m, r.s.congr (fun i _ h2 => e i (by omega)), ⟨fun i hi => ?_, fun y hy => ?_⟩, r.r.congr (fun i h1 _ => e i (by omega))⟩
  · by_cases c : i = k
    · subst c; exact ⟨u, by rw [Array.getElem?_setIfInBounds_self_of_lt (by rw [r.size]; omega)]⟩
    · rw [e _ (by omega)]; exact r.w.1 i hi
  · rw [e _ (by have := hn y hy; omega)]; exact r.w.2 y hy
theorem Dc.congr {t' : St} (h : Dc w s p t) (e : t = t') : Dc w s p t' := e ▸ h

theorem Bf.lt (h : Bf w B s p m C t) : s < w.heap.size := h.c.lt
theorem Bf.ltp (h : Bf w B s p m C t) : p < w.heap.size := by obtain ⟨c, _, _, r⟩ := h.g; exact r.ltp
theorem Bf.ltm (h : Bf w B s p m C t) : m < w.heap.size := by obtain ⟨c, _, _, r⟩ := h.g; exact r.ltm
theorem Bf.np (h : Bf w B s p m C t) : s ≠ p := by rintro rfl; obtain ⟨cs, hh, _⟩ := h.c; obtain ⟨c, _, _, r⟩ := h.g; exact r.typep (e := 70) (by decide) _ _ hh
theorem Bf.nm (h : Bf w B s p m C t) : s ≠ m := by rintro rfl; obtain ⟨cs, hh, _⟩ := h.c; obtain ⟨c, _, _, r⟩ := h.g; exact r.typem (e := 70) (by decide) _ _ hh
theorem Bf.below (h : Bf w B s p m C t) (k : Below w.heap.size w w') : Bf w' B s p m C t :=
  ⟨h.c.keep (k.block s h.lt), by obtain ⟨c, h1, h2, r⟩ := h.g; exact ⟨c, h1, h2, r.below k⟩, h.bs, h.bp, h.bm⟩
theorem Bf.drew (h : Bf w B s p m C t) : Bf w.drew B s p m C t := h.below ⟨rfl, rfl, rfl, Nat.le_refl _, fun _ _ => rfl⟩
theorem Bf.drewN (h : Bf w B s p m C t) (n : Nat) : Bf (w.drewN n) B s p m C t := h.below ⟨rfl, rfl, rfl, Nat.le_refl _, fun _ _ => rfl⟩
theorem Bf.alloc (h : Bf w B s p m C t) (o : Obj) : Bf (w.alloc o) B s p m C t := h.below ((Below.refl _ _).alloc (Nat.le_refl _) o)
theorem Bf.le {D : Int} (h : Bf w B s p m C t) (hd : C ≤ D) : Bf w B s p m D t := ⟨h.c, by obtain ⟨c, h1, h2, r⟩ := h.g; exact ⟨c, h1, by omega, r⟩, h.bs, h.bp, h.bm⟩
theorem Bf.lower {D : Nat} (h : Bf w B s p m C t) (hd : D ≤ B) : Bf w D s p m C t := ⟨h.c, h.g, Nat.le_trans hd h.bs, Nat.le_trans hd h.bp, Nat.le_trans hd h.bm⟩
/-- its own block turned, the ring stays -/
theorem Bf.turn {t' : St} (h : Bf w B s p m C t) (k : Only s w w') (c : Dc w' s p t') (hg : t'.G = t.G) (hn : t'.N = t.N) : Bf w' B s p m C t' :=
  ⟨c, by
    obtain ⟨c, h1, h2, r⟩ := h.g
    rw [hg, hn]
    exact ⟨c, h1, h2, r.only (q := s) (r := s) ⟨k.os, k.tape, k.output, k.size, fun i hi e1 _ => k.block i hi e1⟩ (Ne.symm h.np) (Ne.symm h.np) (Ne.symm h.nm) (Ne.symm h.nm)⟩, h.bs, h.bp, h.bm⟩
/-- its ring turned -/
theorem Bf.lay {G : List (List Int)} {c D : Int} (h : Bf w B s p m C t) (k : R.Only p m w w') (h0 : 0 ≤ c) (h1 : c ≤ D) (r : R.Rg w' p m t.N c G) : Bf w' B s p m D { t with G := G } :=
  ⟨(h.c.keep (k.block s h.lt h.np h.nm)).ofG, ⟨c, h0, h1, r⟩, h.bs, h.bp, h.bm⟩
/-- another one turned -/
theorem Bf.other {s2 p2 m2 : Nat} (h : Bf w B s p m C t) (k : Dt s2 p2 m2 w w') (h1 : s ≠ s2 ∧ s ≠ p2 ∧ s ≠ m2) (h2 : p ≠ s2 ∧ p ≠ p2 ∧ p ≠ m2) (h3 : m ≠ s2 ∧ m ≠ p2 ∧ m ≠ m2) : Bf w' B s p m C t :=
  ⟨h.c.keep (k.block s h.lt h1.1 h1.2.1 h1.2.2), by
    obtain ⟨c, q1, q2, F, f, ha, hg⟩ := h.g
    exact ⟨c, q1, q2, F, f, ha.keep (k.block p ha.ltp h2.1 h2.2.1 h2.2.2) (k.block m ha.ltm h3.1 h3.2.1 h3.2.2), hg⟩, h.bs, h.bp, h.bm⟩
theorem Bf.congr {t' : St} (h : Bf w B s p m C t) (e : t = t') : Bf w B s p m C t' := e ▸ h
theorem Dt.under (k : Dt s p m w w') (h : Bf w B s p m C t) (hB : B ≤ w.heap.size) : Below B w w' := k.below hB h.bs h.bp h.bm
end

/-- n bytes q 0, q 1, .. that are read, not in the buffer's blocks -/
def Sb (w : World) (s p m : Nat) (A : Option Addr) (n : Nat) (q : Nat → Int) : Prop :=
  0 < n → ∃ b o : Nat, A = some ⟨b, o, none⟩ ∧ b ≠ s ∧ b ≠ p ∧ b ≠ m ∧ ∀ j, j < n → w.cell? ⟨b, o + j, none⟩ = some (.int .u8 (q j)) ∧ 0 ≤ q j ∧ q j ≤ 255
theorem Sb.src {w : World} {s p m n : Nat} {A : Option Addr} {q : Nat → Int} (h : Sb w s p m A n q) : R.Src w p m A n q := fun hn => by
  obtain ⟨b, o, h1, _, h3, h4, h5⟩ := h hn; exact ⟨b, o, h1, h3, h4, h5⟩
theorem Sb.dt {w w' : World} {s p m n : Nat} {A : Option Addr} {q : Nat → Int} (h : Sb w s p m A n q) (k : Dt s p m w w') : Sb w' s p m A n q := fun hn => by
  obtain ⟨b, o, h1, h2, h3, h4, h5⟩ := h hn
  have hb : b < w.heap.size := block_lt_of_cell (h5 0 hn).1
  exact ⟨b, o, h1, h2, h3, h4, fun j hj => ⟨(k.cell (q := ⟨b, o + j, none⟩) hb h2 h3 h4).trans (h5 j hj).1, (h5 j hj).2⟩⟩
theorem Sb.drew {w : World} {s p m n : Nat} {A : Option Addr} {q : Nat → Int} (h : Sb w s p m A n q) : Sb w.drew s p m A n q := h
theorem Sb.drewN {w : World} {s p m n : Nat} {A : Option Addr} {q : Nat → Int} (h : Sb w s p m A n q) (d : Nat) : Sb (w.drewN d) s p m A n q := h
theorem Sb.by_ {w : World} {s p m n : Nat} {A : Option Addr} {q : Nat → Int} (h : Sb w s p m A n q) : By (R.mkm n q) := fun j hj => by
  rw [R.mkm_len] at hj
  obtain ⟨b, o, h1, h2, h3, h4, h5⟩ := h (by omega)
  rw [R.nth_mkm _ _ _ hj]; exact (h5 j hj).2
end Go.Proofs.Ytneimdjgbblaoaa
