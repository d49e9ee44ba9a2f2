/-
  detentlaw16.BufferPlays: the program's buffer and the document's side by side, with the call's own struct; what each call makes of them.
-/
import Derived.Test.YtneimdjgbblaoaaRdE
namespace Go.Proofs.Ytneimdjgbblaoaa.bufferPlays
open Go.RowKit
set_option linter.unusedVariables false
set_option maxRecDepth 100000

/-- the call's struct, as the law holds it -/
def Cl (w : World) (a : Nat) (x0 x1 x2 : Int) (v : Value) : Prop := w.heap[a]? = some (.cells #[.int .i64 x0, .int .i64 x1, .int .i64 x2, v] 33 (0, 0))
theorem Cl.lt {w : World} {a : Nat} {x0 x1 x2 : Int} {v : Value} (h : Cl w a x0 x1 x2 v) : a < w.heap.size := lt_of_heap h

theorem keepP {w w' : World} {B s p m : Nat} {C : Int} {t : St} (b : Bf w B s p m C t) (k : Dt s p m w w') {i : Nat} {cs : Array Value} {e : TypeId} {fr : Nat × Nat} (hg : w.heap[i]? = some (.cells cs e fr)) (h1 : e ≠ 70) (h2 : e ≠ 113) (h3 : e ≠ 5) : w'.heap[i]? = w.heap[i]? := by
  obtain ⟨c, _, _, r⟩ := b.g
  exact k.block i (lt_of_heap hg) (by rintro rfl; exact b.c.type h1 _ _ hg) (by rintro rfl; exact r.typep h2 _ _ hg) (by rintro rfl; exact r.typem h3 _ _ hg)
theorem keepD {w w' : World} {B m g p r : Nat} {t : St} (h : Rf w B m g p r t) (k : Et m g p r w w') {i : Nat} {cs : Array Value} {e : TypeId} {fr : Nat × Nat} (hg : w.heap[i]? = some (.cells cs e fr)) (h1 : e ≠ 77) (h2 : e ≠ 73) (h3 : e ≠ 93) : w'.heap[i]? = w.heap[i]? :=
  k.block i (lt_of_heap hg) (by rintro rfl; exact h.d.type h1 _ _ hg) (by rintro rfl; exact h.o.type h2 _ _ hg) (by rintro rfl; exact h.s.type h3 _ _ hg) (by rintro rfl; exact h.q.type h3 _ _ hg)

/-- both (the program's state t, the document's u), and the call's struct with its bytes -/
structure Pl (w : World) (a : Nat) (x0 x1 x2 : Int) (A : Option Addr) (n k : Nat) (f : Nat → Int) (s p m : Nat) (C : Int) (t : St) (q g pr r : Nat) (u : St) (W : World) : Prop where
  at_ : At w s p m C t W
  rf : Rf W w.heap.size q g pr r u
  cl : Cl W a x0 x1 x2 (.slice A n k)
  inb : Inb w A n f
  cap : n ≤ k

section
variable {w W W' : World} {a s p m q g pr r n k : Nat} {A : Option Addr} {f : Nat → Int} {x0 x1 x2 C D : Int} {t t' u u' : St}

theorem Pl.below (h : Pl w a x0 x1 x2 A n k f s p m C t q g pr r u W) (b : Below W.heap.size W W') : Pl w a x0 x1 x2 A n k f s p m C t q g pr r u W' :=
  ⟨h.at_.below b, h.rf.below b, (b.block a h.cl.lt).trans h.cl, h.inb, h.cap⟩
theorem Pl.drew (h : Pl w a x0 x1 x2 A n k f s p m C t q g pr r u W) : Pl w a x0 x1 x2 A n k f s p m C t q g pr r u W.drew := h.below (below_drewN W 1)
theorem Pl.le (h : Pl w a x0 x1 x2 A n k f s p m C t q g pr r u W) (hd : C ≤ D) : Pl w a x0 x1 x2 A n k f s p m D t q g pr r u W := ⟨h.at_.le hd, h.rf, h.cl, h.inb, h.cap⟩
theorem Pl.turnP (h : Pl w a x0 x1 x2 A n k f s p m C t q g pr r u W) (ha : At w s p m D t' W') (b : Dt s p m W W') : Pl w a x0 x1 x2 A n k f s p m D t' q g pr r u W' :=
  ⟨ha, h.rf.dt h.at_.q b, (keepP h.at_.q b h.cl (by decide) (by decide) (by decide)).trans h.cl, h.inb, h.cap⟩
theorem Pl.turnD (h : Pl w a x0 x1 x2 A n k f s p m C t q g pr r u W) (hr : Rf W' w.heap.size q g pr r u') (b : Et q g pr r W W') : Pl w a x0 x1 x2 A n k f s p m C t q g pr r u' W' :=
  ⟨⟨h.at_.q.et h.rf b, h.at_.f, h.at_.b.trans (b.under h.rf h.at_.b.size)⟩, hr, (keepD h.rf b h.cl (by decide) (by decide) (by decide)).trans h.cl, h.inb, h.cap⟩
theorem Pl.k1 (h : Pl w a x0 x1 x2 A n k f s p m C t q g pr r u W) : W.cell? ⟨a, 1, none⟩ = some (.int .i64 x1) := by rw [cell_of_row _ _ _ _ _ _ h.cl]; rfl
theorem Pl.k2 (h : Pl w a x0 x1 x2 A n k f s p m C t q g pr r u W) : W.cell? ⟨a, 2, none⟩ = some (.int .i64 x2) := by rw [cell_of_row _ _ _ _ _ _ h.cl]; rfl
theorem Pl.k3 (h : Pl w a x0 x1 x2 A n k f s p m C t q g pr r u W) : W.cell? ⟨a, 3, none⟩ = some (.slice A n k) := by rw [cell_of_row _ _ _ _ _ _ h.cl]; rfl
theorem Pl.sb (h : Pl w a x0 x1 x2 A n k f s p m C t q g pr r u W) : Sb W s p m A n f := h.inb.sb h.at_.b h.at_.q.bs h.at_.q.bp h.at_.q.bm
theorem Pl.sd (h : Pl w a x0 x1 x2 A n k f s p m C t q g pr r u W) : Sd W q g pr r A n f := fun h0 => by
  obtain ⟨b, o, e, hb, hc⟩ := h.inb h0
  have h1 := h.rf.bm; have h2 := h.rf.bg; have h3 := h.rf.bp; have h4 := h.rf.br
  exact ⟨b, o, e, by omega, by omega, by omega, by omega, fun j hj => ⟨(h.at_.b.cell (p := ⟨b, o + j, none⟩) hb).trans (hc j hj).1, (hc j hj).2⟩⟩

theorem send_p {id pri x c : Int} {b : Bool} (h : Pl w a x0 x1 x2 A n k f s p m C t q g pr r u W) (hC : C ≤ 1000000000) (hs : send t id pri (R.mkm n f) = (t', b, x, c)) :
    Calls Try.prog 11 #[.pointer (some ⟨s, 0, none⟩), .int .i64 id, .int .i64 pri, .slice A n k] W fun en W' => en = .returned (.tuple #[.bool b, .int .i64 x, .int .i64 c]) ∧ Pl w a x0 x1 x2 A n k f s p m (C + 2000) t' q g pr r u W' := by
  refine (send_at h.at_ h.sb h.cap hC hs).mono ?_
  rintro en w2 ⟨rfl, ha, hk⟩
  exact ⟨rfl, h.turnP ha hk⟩
theorem send_d {id pri x c : Int} {b : Bool} (h : Pl w a x0 x1 x2 A n k f s p m C t q g pr r u W) (hf : Fine u) (hs : send u id pri (R.mkm n f) = (u', b, x, c)) :
    Calls Try.prog 12 #[.pointer (some ⟨q, 0, none⟩), .int .i64 id, .int .i64 pri, .slice A n k] W fun en W' => en = .returned (.tuple #[.bool b, .int .i64 x, .int .i64 c]) ∧ Pl w a x0 x1 x2 A n k f s p m C t q g pr r u' W' := by
  refine (rsend_any u' id pri A n k f b x c h.rf hf h.sd hs).mono ?_
  rintro en w2 ⟨rfl, hr, hk⟩
  exact ⟨rfl, h.turnD hr hk⟩
theorem trySend_p {x c : Int} {b : Bool} (h : Pl w a x0 x1 x2 A n k f s p m C t q g pr r u W) (hC : C ≤ 1000000000) (hs : trySend t (R.mkm n f) = (t', b, x, c)) :
    Calls Try.prog 13 #[.pointer (some ⟨s, 0, none⟩), .slice A n k] W fun en W' => en = .returned (.tuple #[.bool b, .int .i64 x, .int .i64 c]) ∧ Pl w a x0 x1 x2 A n k f s p m (C + 2000) t' q g pr r u W' := by
  refine (trySend_at h.at_ h.sb h.cap hC hs).mono ?_
  rintro en w2 ⟨rfl, ha, hk⟩
  exact ⟨rfl, h.turnP ha hk⟩
theorem trySend_d {x c : Int} {b : Bool} (h : Pl w a x0 x1 x2 A n k f s p m C t q g pr r u W) (hf : Fine u) (hs : trySend u (R.mkm n f) = (u', b, x, c)) :
    Calls Try.prog 14 #[.pointer (some ⟨q, 0, none⟩), .slice A n k] W fun en W' => en = .returned (.tuple #[.bool b, .int .i64 x, .int .i64 c]) ∧ Pl w a x0 x1 x2 A n k f s p m C t q g pr r u' W' := by
  refine (rtrySend_any u' A n k f b x c h.rf hf h.sd hs).mono ?_
  rintro en w2 ⟨rfl, hr, hk⟩
  exact ⟨rfl, h.turnD hr hk⟩
/-- what was got, and a slice: they stay when the document turns -/
def Gp (w0 w : World) (o : Option (List Int)) (outs : List Int) (n : Nat) (v1 : Value) (X : Option Addr) (k : Nat) : Prop :=
  (∃ Y i j, v1 = .slice Y i j) ∧ Tx w v1 (o.getD []) ∧ w.ownsRow w0.heap.size 3 1 (.slice X n k) n (K.vals K.ci outs)
theorem Gp.below {w0 w w' : World} {o : Option (List Int)} {outs : List Int} {n k : Nat} {v1 : Value} {X : Option Addr} (h : Gp w0 w o outs n v1 X k) (b : Below w.heap.size w w') : Gp w0 w' o outs n v1 X k :=
  ⟨h.1, h.2.1.below b, K.own_below h.2.2 b⟩
theorem gp_of {w0 w : World} {o : Option (List Int)} {outs : List Int} {v : Value} (h : Gt w0 w o outs v) {n : Nat} (hn : outs.length = n) : ∃ v1 X k, v = .agg #[v1, .bool o.isSome, .slice X n k] ∧ Gp w0 w o outs n v1 X k := by
  subst hn
  obtain ⟨v1, v2, rfl, h1, h2, h3⟩ := h
  obtain ⟨X, k, rfl, _, _⟩ := K.own_form h2
  refine ⟨v1, X, k, rfl, ?_, h1, h2⟩
  rcases h1 with ⟨_, rfl⟩ | ⟨g, cap, rfl, _⟩ <;> exact ⟨_, _, _, rfl⟩
theorem Gp.et {w0 : World} {o : Option (List Int)} {outs : List Int} {n k : Nat} {v1 : Value} {X : Option Addr} (h : Gp w0 W o outs n v1 X k) {B : Nat} (f : Rf W B q g pr r u) (b : Et q g pr r W W') : Gp w0 W' o outs n v1 X k :=
  ⟨h.1, h.2.1.keep (fun i cs fr _ hi => keepD f b hi (by decide) (by decide) (by decide)), own_et h.2.2 f b⟩
theorem recv_p {id pri c : Int} {o : Option (List Int)} {outs : List Int} {j : Nat} (h : Pl w a x0 x1 x2 A n k f s p m C t q g pr r u W) (hC : C ≤ 900000000) (hs : recv t id pri = (t', o, outs, c)) (hj : outs.length = j) :
    Calls Try.prog 15 #[.pointer (some ⟨s, 0, none⟩), .int .i64 id, .int .i64 pri] W fun en W' => ∃ v1 X i, en = .returned (.tuple #[.agg #[v1, .bool o.isSome, .slice X j i], .int .i64 c]) ∧ Gp W W' o outs j v1 X i ∧ Pl w a x0 x1 x2 A n k f s p m (C + 90000) t' q g pr r u W' := by
  refine (recv_at h.at_ hC hs).mono ?_
  rintro en w2 ⟨v, rfl, hg, ha, hk⟩
  obtain ⟨v1, X, i, rfl, hp⟩ := gp_of hg hj
  exact ⟨v1, X, i, rfl, hp, h.turnP ha hk⟩
theorem recv_d {id pri c : Int} {o : Option (List Int)} {outs : List Int} {j : Nat} (h : Pl w a x0 x1 x2 A n k f s p m C t q g pr r u W) (hf : Fine u) (hs : recv u id pri = (u', o, outs, c)) (hj : outs.length = j) :
    Calls Try.prog 16 #[.pointer (some ⟨q, 0, none⟩), .int .i64 id, .int .i64 pri] W fun en W' => ∃ X i, en = .returned (.tuple #[.agg #[.string (R.str (o.getD [])), .bool o.isSome, .slice X j i], .int .i64 c]) ∧ W'.ownsRow W.heap.size 3 1 (.slice X j i) j (K.vals K.ci outs) ∧ Pl w a x0 x1 x2 A n k f s p m C t q g pr r u' W' ∧ Et q g pr r W W' := by
  refine (rrecv_any u' id pri c o outs h.rf hf hs).mono ?_
  rintro en w2 ⟨v, rfl, hg, hr, hk⟩
  obtain ⟨X, i, rfl, ho⟩ := gd_form hg hj
  exact ⟨X, i, rfl, ho, h.turnD hr hk, hk⟩
theorem tryRecv_p {o : Option (List Int)} {outs : List Int} {j : Nat} (h : Pl w a x0 x1 x2 A n k f s p m C t q g pr r u W) (hC : C ≤ 900000000) (hs : tryRecv t = (t', o, outs)) (hj : outs.length = j) :
    Calls Try.prog 18 #[.pointer (some ⟨s, 0, none⟩)] W fun en W' => ∃ v1 X i, en = .returned (.agg #[v1, .bool o.isSome, .slice X j i]) ∧ Gp W W' o outs j v1 X i ∧ Pl w a x0 x1 x2 A n k f s p m (C + 90000) t' q g pr r u W' := by
  refine (tryRecv_at h.at_ hC hs).mono ?_
  rintro en w2 ⟨v, rfl, hg, ha, hk⟩
  obtain ⟨v1, X, i, rfl, hp⟩ := gp_of hg hj
  exact ⟨v1, X, i, rfl, hp, h.turnP ha hk⟩
theorem tryRecv_d {o : Option (List Int)} {outs : List Int} {j : Nat} (h : Pl w a x0 x1 x2 A n k f s p m C t q g pr r u W) (hf : Fine u) (hs : tryRecv u = (u', o, outs)) (hj : outs.length = j) :
    Calls Try.prog 19 #[.pointer (some ⟨q, 0, none⟩)] W fun en W' => ∃ X i, en = .returned (.agg #[.string (R.str (o.getD [])), .bool o.isSome, .slice X j i]) ∧ W'.ownsRow W.heap.size 3 1 (.slice X j i) j (K.vals K.ci outs) ∧ Pl w a x0 x1 x2 A n k f s p m C t q g pr r u' W' ∧ Et q g pr r W W' := by
  refine (rtryRecv_any u' o outs h.rf hf hs).mono ?_
  rintro en w2 ⟨v, rfl, hg, hr, hk⟩
  obtain ⟨X, i, rfl, ho⟩ := gd_form hg hj
  exact ⟨X, i, rfl, ho, h.turnD hr hk, hk⟩
theorem ow_form {w0 w : World} {v : Value} {D : List Int} (h : Ow w w0.heap.size v D) {j : Nat} (hj : D.length = j) : ∃ X i, v = .slice X j i ∧ w.ownsRow w0.heap.size 3 1 (.slice X j i) j (K.vals K.ci D) := by
  subst hj
  obtain ⟨X, k, rfl, _, _⟩ := K.own_form h
  exact ⟨X, k, rfl, h⟩
theorem drop_p {id : Int} {j : Nat} (h : Pl w a x0 x1 x2 A n k f s p m C t q g pr r u W) (hC : C ≤ 900000000) (hj : (drop t id).2.length = j) :
    Calls Try.prog 21 #[.pointer (some ⟨s, 0, none⟩), .int .i64 id] W fun en W' => ∃ X i, en = .returned (.slice X j i) ∧ W'.ownsRow W.heap.size 3 1 (.slice X j i) j (K.vals K.ci (drop t id).2) ∧ Pl w a x0 x1 x2 A n k f s p m (C + 90000) (drop t id).1 q g pr r u W' := by
  refine (drop_at h.at_ hC).mono ?_
  rintro en w2 ⟨v, rfl, hg, ha, hk⟩
  obtain ⟨X, i, rfl, ho⟩ := ow_form hg hj
  exact ⟨X, i, rfl, ho, h.turnP ha hk⟩
theorem drop_d {id : Int} {j : Nat} (h : Pl w a x0 x1 x2 A n k f s p m C t q g pr r u W) (hf : Fine u) (hj : (drop u id).2.length = j) :
    Calls Try.prog 22 #[.pointer (some ⟨q, 0, none⟩), .int .i64 id] W fun en W' => ∃ X i, en = .returned (.slice X j i) ∧ W'.ownsRow W.heap.size 3 1 (.slice X j i) j (K.vals K.ci (drop u id).2) ∧ Pl w a x0 x1 x2 A n k f s p m C t q g pr r (drop u id).1 W' ∧ Et q g pr r W W' := by
  refine (rdrop_any id h.rf hf).mono ?_
  rintro en w2 ⟨v, rfl, hg, hr, hk⟩
  obtain ⟨X, i, rfl, ho⟩ := ow_form hg hj
  exact ⟨X, i, rfl, ho, h.turnD hr hk, hk⟩
theorem change_p {id pri : Int} {j : Nat} (h : Pl w a x0 x1 x2 A n k f s p m C t q g pr r u W) (hC : C ≤ 900000000) (hj : (change t id pri).2.1.length = j) :
    Calls Try.prog 23 #[.pointer (some ⟨s, 0, none⟩), .int .i64 id, .int .i64 pri] W fun en W' => ∃ X i, en = .returned (.tuple #[.slice X j i, .bool (change t id pri).2.2]) ∧ W'.ownsRow W.heap.size 3 1 (.slice X j i) j (K.vals K.ci (change t id pri).2.1) ∧ Pl w a x0 x1 x2 A n k f s p m (C + 90000) (change t id pri).1 q g pr r u W' := by
  refine (change_at h.at_ hC).mono ?_
  rintro en w2 ⟨v, rfl, hg, ha, hk⟩
  obtain ⟨X, i, rfl, ho⟩ := ow_form hg hj
  exact ⟨X, i, rfl, ho, h.turnP ha hk⟩
theorem change_d {id pri : Int} {j : Nat} (h : Pl w a x0 x1 x2 A n k f s p m C t q g pr r u W) (hf : Fine u) (hj : (change u id pri).2.1.length = j) :
    Calls Try.prog 24 #[.pointer (some ⟨q, 0, none⟩), .int .i64 id, .int .i64 pri] W fun en W' => ∃ X i, en = .returned (.tuple #[.slice X j i, .bool (change u id pri).2.2]) ∧ W'.ownsRow W.heap.size 3 1 (.slice X j i) j (K.vals K.ci (change u id pri).2.1) ∧ Pl w a x0 x1 x2 A n k f s p m C t q g pr r (change u id pri).1 W' ∧ Et q g pr r W W' := by
  refine (rchange_any' id pri h.rf hf).mono ?_
  rintro en w2 ⟨v, rfl, hg, hr, hk⟩
  obtain ⟨X, i, rfl, ho⟩ := ow_form hg hj
  exact ⟨X, i, rfl, ho, h.turnD hr hk, hk⟩
theorem nr_own {w0 w : World} {X : Option Addr} {j i : Nat} {D : List Int} (hj : D.length = j) (h : w.ownsRow w0.heap.size 3 1 (.slice X j i) j (K.vals K.ci D)) : Nr w (.slice X j i) D := by
  subst hj; exact Nr.of_own h

/-- the elder buffer: it turns, all else stays -/
theorem Pl.elder {s0 p0 m0 : Nat} {C0 : Int} {T : St} (h : Pl w a x0 x1 x2 A n k f s p m C t q g pr r u W) (b : Bf W w.heap.size s0 p0 m0 C0 T) (d : Dt s0 p0 m0 W W') (h1 : s ≠ s0 ∧ s ≠ p0 ∧ s ≠ m0) (h2 : p ≠ s0 ∧ p ≠ p0 ∧ p ≠ m0) (h3 : m ≠ s0 ∧ m ≠ p0 ∧ m ≠ m0) : Pl w a x0 x1 x2 A n k f s p m C t q g pr r u W' :=
  ⟨⟨h.at_.q.other d h1 h2 h3, h.at_.f, h.at_.b.trans (d.under b h.at_.b.size)⟩, h.rf.dt b d, (keepP b d h.cl (by decide) (by decide) (by decide)).trans h.cl, h.inb, h.cap⟩
end
end Go.Proofs.Ytneimdjgbblaoaa.bufferPlays
