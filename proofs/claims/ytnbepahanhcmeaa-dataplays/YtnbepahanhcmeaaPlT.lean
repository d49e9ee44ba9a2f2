/-
  detentlaw13.DataPlays: the program's data queue and the document's side by side, with the call's own struct; what each call makes of them.
-/
import Derived.Test.YtnbepahanhcmeaaPlO
import Derived.Deep.RegionHeld3
namespace Go.Proofs.Ytnbepahanhcmeaa.dataPlays
open Go.RowKit
set_option linter.unusedVariables false
set_option maxRecDepth 100000

/-- the call's struct, as the law holds it -/
def Cl (w : World) (a : Nat) (x0 x1 x2 x3 : Int) : Prop := w.heap[a]? = some (.cells #[.int .i64 x0, .int .i64 x1, .int .i64 x2, .int .i64 x3] 32 (0, 0))
theorem Cl.lt {w : World} {a : Nat} {x0 x1 x2 x3 : Int} (h : Cl w a x0 x1 x2 x3) : a < w.heap.size := lt_of_heap h

/-- what is of other types stays under the program's turns, and under the document's -/
theorem keepP {w w' : World} {B s : Nat} {v v' : Value} {t : St} (q : Dq w B s v t) (k : Dt s v v' w w') {g : Nat} {cs : Array Value} {e : TypeId} {fr : Nat × Nat} (hg : w.heap[g]? = some (.cells cs e fr)) (h1 : e ≠ 82) (h2 : e ≠ 3) : w'.heap[g]? = w.heap[g]? :=
  k.block g (lt_of_heap hg) (by rintro rfl; exact q.c.type h1 _ _ hg) (own_ne q.o (fun _ _ h => h2 (heap_type hg h)))
theorem keepD {w w' : World} {B m p r : Nat} {u u' : Value} {t : St} (q : Rf w B m p r u t) (k : Et m p r u u' w w') {g : Nat} {cs : Array Value} {e : TypeId} {fr : Nat × Nat} (hg : w.heap[g]? = some (.cells cs e fr)) (h1 : e ≠ 90) (h2 : e ≠ 88) : w'.heap[g]? = w.heap[g]? :=
  k.block g (lt_of_heap hg) (by rintro rfl; exact q.d.type h1 _ _ hg) (by rintro rfl; exact q.s.type h2 _ _ hg) (by rintro rfl; exact q.q.type h2 _ _ hg)

/-- both, and the call's struct -/
structure Pl (w : World) (a : Nat) (x0 x1 x2 x3 : Int) (s : Nat) (v : Value) (t : St) (m p r : Nat) (u : Value) (q : St) (W : World) : Prop where
  at_ : At w s v t W
  rf : Rf W w.heap.size m p r u q
  ap : ∀ g, u.ownBlock = some g → v.ownBlock ≠ some g
  cl : Cl W a x0 x1 x2 x3

section
variable {w W W' : World} {a s m p r : Nat} {x0 x1 x2 x3 : Int} {v v' u u' : Value} {t t' q q' : St}

theorem Pl.below (h : Pl w a x0 x1 x2 x3 s v t m p r u q W) (k : Below W.heap.size W W') : Pl w a x0 x1 x2 x3 s v t m p r u q W' :=
  ⟨h.at_.below k, h.rf.below k, h.ap, (k.block a h.cl.lt).trans h.cl⟩
theorem Pl.drew (h : Pl w a x0 x1 x2 x3 s v t m p r u q W) : Pl w a x0 x1 x2 x3 s v t m p r u q W.drew := h.below (below_drewN W 1)
theorem Pl.turnP (h : Pl w a x0 x1 x2 x3 s v t m p r u q W) (ha : At w s v' t' W') (k : Dt s v v' W W') : Pl w a x0 x1 x2 x3 s v' t' m p r u q W' := by
  have g := h.at_.q
  have f := h.rf
  obtain ⟨ds, hd, _⟩ := f.d
  refine ⟨ha, ⟨f.d.keep (keepP g k hd (by decide) (by decide)), ?_, ?_, own_dt f.o g k h.ap, f.n, f.bm, f.bp, f.br⟩, apart_dt f.o k h.ap, (keepP g k h.cl (by decide) (by decide)).trans h.cl⟩
  · exact f.s.keepT (fun i cs e hi he => by rcases he with ⟨e1, _⟩ | e1 <;> subst e1 <;> exact keepP g k hi (by decide) (by decide))
  · exact f.q.keepT (fun i cs e hi he => by rcases he with ⟨e1, _⟩ | e1 <;> subst e1 <;> exact keepP g k hi (by decide) (by decide))
theorem Pl.turnD (h : Pl w a x0 x1 x2 x3 s v t m p r u q W) (hr : Rf W' w.heap.size m p r u' q') (k : Et m p r u u' W W') : Pl w a x0 x1 x2 x3 s v t m p r u' q' W' := by
  have g := h.at_.q
  obtain ⟨cs, hc, _⟩ := g.c
  refine ⟨⟨⟨g.c.keep (keepD h.rf k hc (by decide) (by decide)), K.own_keep g.o fun i ds hi _ => keepD h.rf k hi (by decide) (by decide), g.b⟩, h.at_.f, h.at_.b.trans (k.below h.at_.b.size h.rf.bm h.rf.bp h.rf.br)⟩, hr, fun i hu hv => ?_, (keepD h.rf k h.cl (by decide) (by decide)).trans h.cl⟩
  exact h.ap i (k.wh i (h.at_.row i hv) hu) hv
theorem Pl.k1 (h : Pl w a x0 x1 x2 x3 s v t m p r u q W) : W.cell? ⟨a, 1, none⟩ = some (.int .i64 x1) := by rw [cell_of_row _ _ _ _ _ _ h.cl]; rfl
theorem Pl.k2 (h : Pl w a x0 x1 x2 x3 s v t m p r u q W) : W.cell? ⟨a, 2, none⟩ = some (.int .i64 x2) := by rw [cell_of_row _ _ _ _ _ _ h.cl]; rfl
theorem Pl.k3 (h : Pl w a x0 x1 x2 x3 s v t m p r u q W) : W.cell? ⟨a, 3, none⟩ = some (.int .i64 x3) := by rw [cell_of_row _ _ _ _ _ _ h.cl]; rfl

theorem send_p {id pri x c e : Int} {k : Bool} (h : Pl w a x0 x1 x2 x3 s v t m p r u q W) (hs : send t id pri x = (t', k, c, e)) :
    Calls Try.prog 12 #[.pointer (some ⟨s, 0, none⟩), .int .i64 id, .int .i64 pri, .int .i64 x] W fun en W' => en = .returned (.tuple #[.bool k, .int .i64 c, .int .i64 e]) ∧ ∃ v', Pl w a x0 x1 x2 x3 s v' t' m p r u q W' := by
  refine (send_at h.at_ hs).mono ?_
  rintro en w2 ⟨rfl, v2, ha, hk⟩
  exact ⟨rfl, v2, h.turnP ha hk⟩
theorem send_d {id pri x c e : Int} {k : Bool} (h : Pl w a x0 x1 x2 x3 s v t m p r u q W) (hf : Fine q) (hs : send q id pri x = (q', k, c, e)) :
    Calls Try.prog 13 #[.pointer (some ⟨m, 0, none⟩), .int .i64 id, .int .i64 pri, .int .i64 x] W fun en W' => en = .returned (.tuple #[.bool k, .int .i64 c, .int .i64 e]) ∧ ∃ u', Pl w a x0 x1 x2 x3 s v t m p r u' q' W' := by
  refine (rsend_any _ m p r u q q' id pri x c e k W h.rf hf hs).mono ?_
  rintro en w2 ⟨rfl, u2, hr, hk⟩
  exact ⟨rfl, u2, h.turnD hr hk⟩
theorem trySend_p {x c : Int} {k : Bool} (h : Pl w a x0 x1 x2 x3 s v t m p r u q W) (hs : trySend t x = (t', k, c)) :
    Calls Try.prog 14 #[.pointer (some ⟨s, 0, none⟩), .int .i64 x] W fun en W' => en = .returned (.tuple #[.bool k, .int .i64 c]) ∧ ∃ v', Pl w a x0 x1 x2 x3 s v' t' m p r u q W' := by
  refine (trySend_at h.at_ hs).mono ?_
  rintro en w2 ⟨rfl, v2, ha, hk⟩
  exact ⟨rfl, v2, h.turnP ha hk⟩
theorem trySend_d {x c : Int} {k : Bool} (h : Pl w a x0 x1 x2 x3 s v t m p r u q W) (hf : Fine q) (hs : trySend q x = (q', k, c)) :
    Calls Try.prog 15 #[.pointer (some ⟨m, 0, none⟩), .int .i64 x] W fun en W' => en = .returned (.tuple #[.bool k, .int .i64 c]) ∧ ∃ u', Pl w a x0 x1 x2 x3 s v t m p r u' q' W' := by
  refine (rtrySend_any _ m p r u q q' x c k W h.rf hf hs).mono ?_
  rintro en w2 ⟨rfl, u2, hr, hk⟩
  exact ⟨rfl, u2, h.turnD hr hk⟩
theorem force_p {x c e : Int} (h : Pl w a x0 x1 x2 x3 s v t m p r u q W) (hs : force t x = (t', c, e)) :
    Calls Try.prog 16 #[.pointer (some ⟨s, 0, none⟩), .int .i64 x] W fun en W' => en = .returned (.tuple #[.int .i64 c, .int .i64 e]) ∧ ∃ v', Pl w a x0 x1 x2 x3 s v' t' m p r u q W' := by
  refine (force_at h.at_ hs).mono ?_
  rintro en w2 ⟨rfl, v2, ha, hk⟩
  exact ⟨rfl, v2, h.turnP ha hk⟩
theorem force_d {x c e : Int} (h : Pl w a x0 x1 x2 x3 s v t m p r u q W) (hf : Fine q) (hs : force q x = (q', c, e)) :
    Calls Try.prog 17 #[.pointer (some ⟨m, 0, none⟩), .int .i64 x] W fun en W' => en = .returned (.tuple #[.int .i64 c, .int .i64 e]) ∧ ∃ u', Pl w a x0 x1 x2 x3 s v t m p r u' q' W' := by
  refine (rforce_any _ m p r u q q' x c e W h.rf hf hs).mono ?_
  rintro en w2 ⟨rfl, u2, hr, hk⟩
  exact ⟨rfl, u2, h.turnD hr hk⟩
theorem recv_p {id pri d c e : Int} {k : Bool} (h : Pl w a x0 x1 x2 x3 s v t m p r u q W) (hs : recv t id pri = (t', d, k, c, e)) :
    Calls Try.prog 18 #[.pointer (some ⟨s, 0, none⟩), .int .i64 id, .int .i64 pri] W fun en W' => en = .returned (.tuple #[.agg #[.int .i64 d, .bool k, .int .i64 c], .int .i64 e]) ∧ ∃ v', Pl w a x0 x1 x2 x3 s v' t' m p r u q W' := by
  refine (recv_at h.at_ hs).mono ?_
  rintro en w2 ⟨rfl, v2, ha, hk⟩
  exact ⟨rfl, v2, h.turnP ha hk⟩
theorem recv_d {id pri d c e : Int} {k : Bool} (h : Pl w a x0 x1 x2 x3 s v t m p r u q W) (hf : Fine q) (hs : recv q id pri = (q', d, k, c, e)) :
    Calls Try.prog 19 #[.pointer (some ⟨m, 0, none⟩), .int .i64 id, .int .i64 pri] W fun en W' => en = .returned (.tuple #[.agg #[.int .i64 d, .bool k, .int .i64 c], .int .i64 e]) ∧ ∃ u', Pl w a x0 x1 x2 x3 s v t m p r u' q' W' ∧
      ∀ (g : Nat) (cs : Array Value), W.heap[g]? = some (.cells cs 44 (0, 0)) → W'.heap[g]? = W.heap[g]? := by
  refine (rrecv_any _ m p r u q q' id pri d c e k W h.rf hf hs).mono ?_
  rintro en w2 ⟨rfl, u2, hr, hk⟩
  exact ⟨rfl, u2, h.turnD hr hk, fun g cs hg => keepD h.rf hk hg (by decide) (by decide)⟩
theorem tryRecv_p {d c : Int} {k : Bool} (h : Pl w a x0 x1 x2 x3 s v t m p r u q W) (hs : tryRecv t = (t', d, k, c)) :
    Calls Try.prog 21 #[.pointer (some ⟨s, 0, none⟩)] W fun en W' => en = .returned (.agg #[.int .i64 d, .bool k, .int .i64 c]) ∧ ∃ v', Pl w a x0 x1 x2 x3 s v' t' m p r u q W' := by
  refine (tryRecv_at h.at_ hs).mono ?_
  rintro en w2 ⟨rfl, v2, ha, hk⟩
  exact ⟨rfl, v2, h.turnP ha hk⟩
theorem tryRecv_d {d c : Int} {k : Bool} (h : Pl w a x0 x1 x2 x3 s v t m p r u q W) (hf : Fine q) (hs : tryRecv q = (q', d, k, c)) :
    Calls Try.prog 22 #[.pointer (some ⟨m, 0, none⟩)] W fun en W' => en = .returned (.agg #[.int .i64 d, .bool k, .int .i64 c]) ∧ ∃ u', Pl w a x0 x1 x2 x3 s v t m p r u' q' W' := by
  refine (rtryRecv_any _ m p r u q q' d c k W h.rf hf hs).mono ?_
  rintro en w2 ⟨rfl, u2, hr, hk⟩
  exact ⟨rfl, u2, h.turnD hr hk⟩
theorem drop_p {id : Int} {k : Bool} (h : Pl w a x0 x1 x2 x3 s v t m p r u q W) (hs : drop t id = (t', k)) :
    Calls Try.prog 23 #[.pointer (some ⟨s, 0, none⟩), .int .i64 id] W fun en W' => en = .returned (.bool k) ∧ Pl w a x0 x1 x2 x3 s v t' m p r u q W' := by
  refine (drop_at h.at_ hs).mono ?_
  rintro en w2 ⟨rfl, ha, hk⟩
  exact ⟨rfl, h.turnP ha hk⟩
theorem drop_d {id : Int} {k : Bool} (h : Pl w a x0 x1 x2 x3 s v t m p r u q W) (hf : Fine q) (hs : drop q id = (q', k)) :
    Calls Try.prog 24 #[.pointer (some ⟨m, 0, none⟩), .int .i64 id] W fun en W' => en = .returned (.bool k) ∧ Pl w a x0 x1 x2 x3 s v t m p r u q' W' := by
  refine (rdrop_any _ m p r u q q' id k W h.rf hf hs).mono ?_
  rintro en w2 ⟨rfl, hr, hk⟩
  exact ⟨rfl, h.turnD hr hk⟩
theorem change_p {id pri : Int} {k : Bool} (h : Pl w a x0 x1 x2 x3 s v t m p r u q W) (hs : change t id pri = (t', k)) :
    Calls Try.prog 25 #[.pointer (some ⟨s, 0, none⟩), .int .i64 id, .int .i64 pri] W fun en W' => en = .returned (.bool k) ∧ Pl w a x0 x1 x2 x3 s v t' m p r u q W' := by
  refine (change_at h.at_ hs).mono ?_
  rintro en w2 ⟨rfl, ha, hk⟩
  exact ⟨rfl, h.turnP ha hk⟩
theorem change_d {id pri : Int} {k : Bool} (h : Pl w a x0 x1 x2 x3 s v t m p r u q W) (hf : Fine q) (hs : change q id pri = (q', k)) :
    Calls Try.prog 26 #[.pointer (some ⟨m, 0, none⟩), .int .i64 id, .int .i64 pri] W fun en W' => en = .returned (.bool k) ∧ Pl w a x0 x1 x2 x3 s v t m p r u q' W' := by
  refine (rchange_any' _ m p r u q q' id pri k W h.rf hf hs).mono ?_
  rintro en w2 ⟨rfl, hr, hk⟩
  exact ⟨rfl, h.turnD hr hk⟩

/-- one apart; the elder one is there still -/
theorem twin_p (h : Pl w a x0 x1 x2 x3 s v t m p r u q W) :
    Calls Try.prog 27 #[.pointer (some ⟨s, 0, none⟩)] W fun e W' => ∃ (s' : Nat) (v' : Value), e = .returned (.pointer (some ⟨s', 0, none⟩)) ∧ Pl w a x0 x1 x2 x3 s' v' t m p r u q W' ∧ Dq W' w.heap.size s v t ∧
      s' ≠ s ∧ v.ownBlock ≠ some s' ∧ v'.ownBlock ≠ some s ∧ ∀ g, v'.ownBlock = some g → v.ownBlock ≠ some g := by
  refine (dtwin_ok _ s v t W h.at_.q h.at_.f).mono ?_
  rintro e w2 ⟨s', v', rfl, hq, hb⟩
  have k := h.below hb
  have h1 := h.at_.q.lt
  have h2 := h.at_.row
  have h3 := hq.b
  have h4 := hq.base
  refine ⟨s', v', rfl, ⟨⟨hq.lower h.at_.b.size, h.at_.f, k.at_.b⟩, k.rf, fun g hu hv => ?_, k.cl⟩, k.at_.q, by omega, fun e => by have := h2 _ e; omega, fun e => by have := h4 _ e; omega, fun g e1 e2 => by have := h4 _ e1; have := h2 _ e2; omega⟩
  have e1 := h4 g hv
  obtain ⟨_, _, _, _, e2, _⟩ := own_blk h.rf.o hu
  omega
theorem force_old {s0 : Nat} {v0 : Value} {T T' : St} {x c e : Int} (h : Pl w a x0 x1 x2 x3 s v t m p r u q W) (g : Dq W w.heap.size s0 v0 T) (hf : Fine T) (h1 : s ≠ s0) (h2 : v0.ownBlock ≠ some s) (h3 : v.ownBlock ≠ some s0) (h4 : ∀ g, v.ownBlock = some g → v0.ownBlock ≠ some g)
    (h5 : ∀ g, u.ownBlock = some g → v0.ownBlock ≠ some g) (hs : force T x = (T', c, e)) :
    Calls Try.prog 16 #[.pointer (some ⟨s0, 0, none⟩), .int .i64 x] W fun en W' => en = .returned (.tuple #[.int .i64 c, .int .i64 e]) ∧ Pl w a x0 x1 x2 x3 s v t m p r u q W' := by
  refine (force_any _ s0 v0 T T' x c e W g hf hs).mono ?_
  rintro en w2 ⟨rfl, v2, hq, hk⟩
  have f := h.rf
  obtain ⟨ds, hd, _⟩ := f.d
  refine ⟨rfl, ⟨h.at_.q.other hk h1 h2 h3 h4, h.at_.f, h.at_.b.trans (hk.under g h.at_.b.size)⟩, ⟨f.d.keep (keepP g hk hd (by decide) (by decide)), ?_, ?_, own_dt f.o g hk h5, f.n, f.bm, f.bp, f.br⟩, h.ap, (keepP g hk h.cl (by decide) (by decide)).trans h.cl⟩
  · exact f.s.keepT (fun i cs e hi he => by rcases he with ⟨e1, _⟩ | e1 <;> subst e1 <;> exact keepP g hk hi (by decide) (by decide))
  · exact f.q.keepT (fun i cs e hi he => by rcases he with ⟨e1, _⟩ | e1 <;> subst e1 <;> exact keepP g hk hi (by decide) (by decide))
end

theorem ids_to (q : Nat) (b : Bool) (L : List It) (w : World) (h : Rq w q b L) (hn : L.length ≤ 16) (n : Nat) (hl : L.length = n) :
    Calls Try.prog 50 #[.pointer (some ⟨q, 0, none⟩)] w fun e w' => ∃ (X : Option Addr) (k : Nat), e = .returned (.slice X n k) ∧ Nr w' (.slice X n k) (L.map Prod.fst) ∧ Below w.heap.size w w' := by
  refine (ids_ok q b L w h hn).mono ?_
  rintro e w2 ⟨u, rfl, ho, hb⟩
  have := Nr.of_own ho
  obtain ⟨X, k, rfl, _⟩ := K.own_form ho
  rw [List.length_map, hl] at this ⊢
  exact ⟨X, k, rfl, this, hb⟩
theorem three_keep {w w' : World} {a b c : Addr} {x y z : Value} (k : Below w.heap.size w w') (h : w.cell? a = some x ∧ w.cell? b = some y ∧ w.cell? c = some z) : w'.cell? a = some x ∧ w'.cell? b = some y ∧ w'.cell? c = some z :=
  ⟨(k.cell (p := a) (block_lt_of_cell h.1)).trans h.1, (k.cell (p := b) (block_lt_of_cell h.2.1)).trans h.2.1, (k.cell (p := c) (block_lt_of_cell h.2.2)).trans h.2.2⟩

set_option maxHeartbeats 4000000 in
theorem same_p {w W : World} {a s m p r : Nat} {x0 x1 x2 x3 : Int} {v u : Value} {t : St} (h : Pl w a x0 x1 x2 x3 s v t m p r u t W) :
    Calls Try.prog 28 #[.pointer (some ⟨s, 0, none⟩), .pointer (some ⟨m, 0, none⟩)] W fun e W' => e = .returned (.bool true) ∧ Below W.heap.size W W' := by
  have NU := Lib.hid (Nr.of_own h.rf.o)
  obtain ⟨XU, KU, rfl, _, _⟩ := K.own_form h.rf.o
  obtain ⟨nD, hD⟩ : ∃ n, t.D.length = n := ⟨_, rfl⟩
  obtain ⟨nS, hS⟩ : ∃ n, t.S.length = n := ⟨_, rfl⟩
  obtain ⟨nR, hR⟩ : ∃ n, t.R.length = n := ⟨_, rfl⟩
  have HD := Lib.hid hD
  have HS := Lib.hid hS
  have HR := Lib.hid hR
  have HA := Lib.hid h.at_
  have HF := Lib.hid h.rf
  rw [hD] at NU HF
  have d20 := HF.out.d.data
  have c0 := HF.out.d.c0
  have c1 := HF.out.d.c1
  clear h hD hS hR
  go_enter Try.func28, Try.ntmps28
  go_wp2
  go_region_held3 (fun Z => Z.cell? ⟨m, 20, none⟩ = some (.slice XU nD KU) ∧ Z.cell? ⟨m, 0, none⟩ = some (.pointer (some ⟨p, 0, none⟩)) ∧ Z.cell? ⟨m, 1, none⟩ = some (.pointer (some ⟨r, 0, none⟩)))
    (first | exact three_keep B8 ⟨d20, c0, c1⟩ | exact three_keep B7 ⟨d20, c0, c1⟩ | exact three_keep B6 ⟨d20, c0, c1⟩ | exact three_keep B5 ⟨d20, c0, c1⟩ | exact three_keep B4 ⟨d20, c0, c1⟩ | exact three_keep B3 ⟨d20, c0, c1⟩ | exact three_keep B2 ⟨d20, c0, c1⟩ | exact three_keep B1 ⟨d20, c0, c1⟩ | exact ⟨d20, c0, c1⟩ | assumption)
    (first
      | (go_at_call 30; refine (same_true _ _ _ _ _ (n6.below b7) n7 rfl).mono ?_; rintro e w8 ⟨rfl, b8⟩; have B8 := below_trans B7 b8)
      | (go_at_call 50; refine (ids_to r false t.R _ (HF.out.q.below B6) HA.out.f.r.len nR HR.out).mono ?_; rintro e w7 ⟨X7, K7, rfl, n7, b7⟩; have B7 := below_trans B6 b7)
      | (go_at_call 33; refine (receivers_to (HA.out.below B5) nR HR.out).mono ?_; rintro e w6 ⟨X6, K6, rfl, n6, b6⟩; have B6 := below_trans B5 b6)
      | (go_at_call 30; refine (same_true _ _ _ _ _ (n3.below b4) n4 rfl).mono ?_; rintro e w5 ⟨rfl, b5⟩; have B5 := below_trans B4 b5)
      | (go_at_call 50; refine (ids_to p t.b t.S _ (HF.out.s.below B3) HA.out.f.s.len nS HS.out).mono ?_; rintro e w4 ⟨X4, K4, rfl, n4, b4⟩; have B4 := below_trans B3 b4)
      | (go_at_call 32; refine (senders_to (HA.out.below B2) nS HS.out).mono ?_; rintro e w3 ⟨X3, K3, rfl, n3, b3⟩; have B3 := below_trans B2 b3)
      | (go_at_call 30; refine (same_true _ _ _ _ _ n1 (NU.out.below B1) rfl).mono ?_; rintro e w2 ⟨rfl, b2⟩; have B2 := below_trans B1 b2)
      | (go_at_call 31; refine (data_to HA.out.drew nD HD.out).mono ?_; rintro e w1 ⟨X1, K1, rfl, n1, b1⟩; have B1 := below_trans (below_drewN W 1) b1))
  have HB8 := Lib.hid B8
  clear B1 B2 B3 B4 B5 B6 B7 B8 b1 b2 b3 b4 b5 b6 b7 b8 n1 n3 n4 n6 n7 d20 c0 c1
  go_wp2
  go_ret
  exact ⟨rfl, HB8.out⟩
end Go.Proofs.Ytnbepahanhcmeaa.dataPlays
