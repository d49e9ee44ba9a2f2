/- A mailbox in memory (package mbx): its block of 260 cells, its map of links; what is read of them. -/
import Derived.Test.YtapogohekfeiiaaConL
import Derived.Test.YtapogohekfeiiaaKdA
import Derived.Test.YtapogohekfeiiaaMxS
import Derived.Maps.OwnSet
import Derived.Shelf.SlMaps.Clone
namespace Go.Proofs.Ytapogohekfeiiaa
open Go.RowKit
set_option maxRecDepth 100000

/-- Only blocks s, q and n may have turned, and new ones may have come. -/
structure On3 (s q n : Nat) (w w' : World) : Prop where
  os : w'.os = w.os
  tape : w'.tape = w.tape
  output : w'.output = w.output
  size : w.heap.size ≤ w'.heap.size
  block : ∀ k, k < w.heap.size → k ≠ s → k ≠ q → k ≠ n → w'.heap[k]? = w.heap[k]?

theorem On3.refl (s q n : Nat) (w : World) : On3 s q n w w := ⟨rfl, rfl, rfl, Nat.le_refl _, fun _ _ _ _ _ => rfl⟩
theorem On3.trans {s q n : Nat} {a b c : World} (h : On3 s q n a b) (k : On3 s q n b c) : On3 s q n a c :=
  ⟨k.os.trans h.os, k.tape.trans h.tape, k.output.trans h.output, Nat.le_trans h.size k.size,
   fun i hi h1 h2 h3 => (k.block i (Nat.lt_of_lt_of_le hi h.size) h1 h2 h3).trans (h.block i hi h1 h2 h3)⟩
theorem On3.of_below {s q n : Nat} {w w' : World} (h : Below w.heap.size w w') : On3 s q n w w' := ⟨h.os, h.tape, h.output, h.size, fun k hk _ _ _ => h.block k hk⟩
theorem On3.at_s {s q n : Nat} {w w' : World} (h : Only s w w') : On3 s q n w w' := ⟨h.os, h.tape, h.output, h.size, fun k hk h1 _ _ => h.block k hk h1⟩
theorem On3.at_q {s q n : Nat} {w w' : World} (h : Only q w w') : On3 s q n w w' := ⟨h.os, h.tape, h.output, h.size, fun k hk _ h1 _ => h.block k hk h1⟩
theorem On3.at_n {s q n : Nat} {w w' : World} (h : Only n w w') : On3 s q n w w' := ⟨h.os, h.tape, h.output, h.size, fun k hk _ _ h1 => h.block k hk h1⟩
theorem On3.alloc {s q n : Nat} {a w : World} (h : On3 s q n a w) (o : Obj) : On3 s q n a (w.alloc o) := h.trans (.of_below ((Below.refl _ _).alloc (Nat.le_refl _) o))
theorem On3.drew {s q n : Nat} {a w : World} (h : On3 s q n a w) : On3 s q n a w.drew := ⟨h.os, h.tape, h.output, h.size, h.block⟩
theorem On3.drewN {s q n : Nat} {a w : World} (h : On3 s q n a w) (m : Nat) : On3 s q n a (w.drewN m) := ⟨h.os, h.tape, h.output, h.size, h.block⟩
theorem On3.below {s q n B : Nat} {w w' : World} (h : On3 s q n w w') (h0 : B ≤ w.heap.size) (h1 : B ≤ s) (h2 : B ≤ q) (h3 : B ≤ n) : Below B w w' :=
  ⟨h.os, h.tape, h.output, h.size, fun k hk => h.block k (by omega) (by omega) (by omega) (by omega)⟩
theorem Only.grown {p : Nat} {w w' : World} (h : w.grownBy w' (some p)) : Only p w w' := ⟨h.os, h.tape, h.output, h.size, fun k hk h1 => h.block k hk (fun e => h1 (Option.some.inj e))⟩
theorem Only.drewW {p : Nat} (w : World) : Only p w w.drew := (Only.refl p w).drew

/-- a mailbox's block -/
def Bk (w : World) (s q n : Nat) (mp : Bool) (m : Int) (f : Int → Int) : Prop :=
  ∃ cs : Array Value, w.heap[s]? = some (.cells cs 48 (0, 0)) ∧ cs.size = 260 ∧ cs[0]? = some (.pointer (some ⟨q, 0, none⟩)) ∧ cs[1]? = some (.bool mp) ∧ cs[2]? = some (.int .i64 m) ∧ cs[3]? = some (.map (some n)) ∧
    ∀ i : Nat, i < 256 → cs[4 + i]? = some (.int .i64 (f (i : Int)))
theorem Bk.lt {w : World} {s q n : Nat} {mp : Bool} {m : Int} {f : Int → Int} (h : Bk w s q n mp m f) : s < w.heap.size := by obtain ⟨cs, hh, _⟩ := h; exact lt_of_heap hh
theorem Bk.keep {w w' : World} {s q n : Nat} {mp : Bool} {m : Int} {f : Int → Int} (h : Bk w s q n mp m f) (k : w'.heap[s]? = w.heap[s]?) : Bk w' s q n mp m f := by obtain ⟨cs, hh, r⟩ := h; exact ⟨cs, k.trans hh, r⟩
theorem Bk.c0 {w : World} {s q n : Nat} {mp : Bool} {m : Int} {f : Int → Int} (h : Bk w s q n mp m f) : w.cell? ⟨s, 0, none⟩ = some (.pointer (some ⟨q, 0, none⟩)) := by obtain ⟨cs, hh, _, h0, _⟩ := h; rw [cell_of_row w s 0 cs 48 (0, 0) hh]; exact h0
theorem Bk.c1 {w : World} {s q n : Nat} {mp : Bool} {m : Int} {f : Int → Int} (h : Bk w s q n mp m f) : w.cell? ⟨s, 1, none⟩ = some (.bool mp) := by obtain ⟨cs, hh, _, _, h0, _⟩ := h; rw [cell_of_row w s 1 cs 48 (0, 0) hh]; exact h0
theorem Bk.c2 {w : World} {s q n : Nat} {mp : Bool} {m : Int} {f : Int → Int} (h : Bk w s q n mp m f) : w.cell? ⟨s, 2, none⟩ = some (.int .i64 m) := by obtain ⟨cs, hh, _, _, _, h0, _⟩ := h; rw [cell_of_row w s 2 cs 48 (0, 0) hh]; exact h0
theorem Bk.c3 {w : World} {s q n : Nat} {mp : Bool} {m : Int} {f : Int → Int} (h : Bk w s q n mp m f) : w.cell? ⟨s, 3, none⟩ = some (.map (some n)) := by obtain ⟨cs, hh, _, _, _, _, h0, _⟩ := h; rw [cell_of_row w s 3 cs 48 (0, 0) hh]; exact h0
theorem Bk.cl {w : World} {s q n : Nat} {mp : Bool} {m : Int} {f : Int → Int} (h : Bk w s q n mp m f) {i : Nat} (hi : i < 256) : w.cell? ⟨s, 4 + i, none⟩ = some (.int .i64 (f (i : Int))) := by obtain ⟨cs, hh, _, _, _, _, _, h0⟩ := h; rw [cell_of_row w s _ cs 48 (0, 0) hh]; exact h0 i hi
theorem Bk.fz {w : World} {s q n : Nat} {mp : Bool} {m : Int} {f : Int → Int} (h : Bk w s q n mp m f) (i : Nat) : w.frozen? ⟨s, i, none⟩ = false := by obtain ⟨cs, hh, _⟩ := h; exact frozen_of_row w s i cs 48 hh
theorem Bk.type {w : World} {s q n : Nat} {mp : Bool} {m : Int} {f : Int → Int} (h : Bk w s q n mp m f) {e : TypeId} (he : e ≠ 48) : ∀ cs fr, w.heap[s]? ≠ some (.cells cs e fr) := by
  obtain ⟨cs, hh, _⟩ := h
  intro cs2 fr h2
  rw [hh] at h2; injection h2 with h2; injection h2 with _ h3; exact he h3.symm
theorem Bk.only {w w' : World} {s q n p : Nat} {mp : Bool} {m : Int} {f : Int → Int} (h : Bk w s q n mp m f) (k : Only p w w') (h1 : s ≠ p) : Bk w' s q n mp m f := h.keep (k.block s h.lt h1)
theorem Bk.below {w w' : World} {s q n : Nat} {mp : Bool} {m : Int} {f : Int → Int} (h : Bk w s q n mp m f) (k : Below w.heap.size w w') : Bk w' s q n mp m f := h.keep (k.block s h.lt)
theorem Bk.congr {w : World} {s q n : Nat} {mp : Bool} {m : Int} {f g : Int → Int} (h : Bk w s q n mp m f) (e : ∀ i : Nat, i < 256 → g (i : Int) = f (i : Int)) : Bk w s q n mp m g := by
  obtain ⟨cs, h1, h2, h3, h4, h5, h6, h7⟩ := h
  exact ⟨cs, h1, h2, h3, h4, h5, h6, fun i hi => by rw [e i hi]; exact h7 i hi⟩
theorem Bk.set {w : World} {s q n : Nat} {mp : Bool} {m : Int} {f g : Int → Int} (h : Bk w s q n mp m f) (k : Nat) (x : Int) (hk : k < 256) (e : ∀ i : Nat, i < 256 → g (i : Int) = if (i : Int) = (k : Int) then x else f (i : Int)) :
    Bk (w.setCell ⟨s, 4 + k, none⟩ (.int .i64 x)) s q n mp m g := by
  obtain ⟨cs, h1, h2, h3, h4, h5, h6, h7⟩ := h
  have hne : ∀ i, i ≠ 4 + k → (cs.setIfInBounds (4 + k) (.int .i64 x))[i]? = cs[i]? := fun i hi => by rw [Array.getElem?_setIfInBounds_ne (Ne.symm hi)]
  refine ⟨_, heap_setCell_same w s _ cs 48 _ h1, by simpa using h2, (hne _ (by omega)).trans h3, (hne _ (by omega)).trans h4, (hne _ (by omega)).trans h5, (hne _ (by omega)).trans h6, fun i hi => ?_⟩
  rw [e i hi]
  by_cases c : i = k
  · subst c; rw [if_pos rfl, Array.getElem?_setIfInBounds_self_of_lt (by omega)]
  · rw [if_neg (by omega), hne _ (by omega)]; exact h7 i hi
/-- the queue, the links: other ones -/
theorem Bk.setQ {w : World} {s q n : Nat} {mp : Bool} {m : Int} {f : Int → Int} (h : Bk w s q n mp m f) (p : Nat) : Bk (w.setCell ⟨s, 0, none⟩ (.pointer (some ⟨p, 0, none⟩))) s p n mp m f := by
  obtain ⟨cs, h1, h2, h3, h4, h5, h6, h7⟩ := h
  have hne : ∀ i, i ≠ 0 → (cs.setIfInBounds 0 (.pointer (some ⟨p, 0, none⟩)))[i]? = cs[i]? := fun i hi => by rw [Array.getElem?_setIfInBounds_ne (Ne.symm hi)]
  exact ⟨_, heap_setCell_same w s _ cs 48 _ h1, by simpa using h2, by rw [Array.getElem?_setIfInBounds_self_of_lt (by omega)], (hne _ (by omega)).trans h4, (hne _ (by omega)).trans h5, (hne _ (by omega)).trans h6, fun i hi => (hne _ (by omega)).trans (h7 i hi)⟩
theorem Bk.setN {w : World} {s q n : Nat} {mp : Bool} {m : Int} {f : Int → Int} (h : Bk w s q n mp m f) (p : Nat) : Bk (w.setCell ⟨s, 3, none⟩ (.map (some p))) s q p mp m f := by
  obtain ⟨cs, h1, h2, h3, h4, h5, h6, h7⟩ := h
  have hne : ∀ i, i ≠ 3 → (cs.setIfInBounds 3 (.map (some p)))[i]? = cs[i]? := fun i hi => by rw [Array.getElem?_setIfInBounds_ne (Ne.symm hi)]
  exact ⟨_, heap_setCell_same w s _ cs 48 _ h1, by simpa using h2, (hne _ (by omega)).trans h3, (hne _ (by omega)).trans h4, (hne _ (by omega)).trans h5, by rw [Array.getElem?_setIfInBounds_self_of_lt (by omega)], fun i hi => (hne _ (by omega)).trans (h7 i hi)⟩

/-! ### the map of links -/
theorem law3 : Maps.Keyed Try.prog 3 := Maps.int_keyed Try.underlying3
theorem zero3 (w : World) : (zeroValue 3).run Try.prog w = .ok (.int .i64 0) w := by kernel_rfl
abbrev lk (k : Int) : Lit := .int .i64 k
theorem key_ok {k : Int} (h : In64 k) : keyOf Try.prog 3 (.int .i64 k) = some (lk k) := Maps.keyOf_int_mk Try.underlying3 (WalkArith.wf_i64 h)
theorem lk_ne {a b : Int} (h : a ≠ b) : lk a ≠ lk b := fun e => h (by injection e)

/-- block n is a map of at most c links: f k stands at k, h k says whether k is there -/
def Mp (w : World) (n c : Nat) (f : Int → Int) (h : Int → Bool) : Prop :=
  ∃ D : DataW Unit, w.ownsMap Try.prog 3 (plainElem Try.prog 3) n c D ∧ ∀ k : Int, D.atKey (lk k) (.lit (.int .i64 0)) = .lit (.int .i64 (f k)) ∧ Maps.has D (lk k) = h k

theorem Mp.heap {w : World} {n c : Nat} {f : Int → Int} {h : Int → Bool} (m : Mp w n c f h) : ∃ es k, w.heap[n]? = some (.map es k) := by obtain ⟨D, ⟨es, k, hb, _⟩, _⟩ := m; exact ⟨es, k, hb⟩
theorem Mp.lt {w : World} {n c : Nat} {f : Int → Int} {h : Int → Bool} (m : Mp w n c f h) : n < w.heap.size := by obtain ⟨es, k, hb⟩ := m.heap; exact lt_of_heap hb
theorem Mp.keep {w w' : World} {n c : Nat} {f : Int → Int} {h : Int → Bool} (m : Mp w n c f h) (k : w'.heap[n]? = w.heap[n]?) : Mp w' n c f h := by
  obtain ⟨D, ⟨es, cl, hb, r⟩, r2⟩ := m
  exact ⟨D, ⟨es, cl, k.trans hb, r⟩, r2⟩
theorem Mp.mono {w : World} {n c d : Nat} {f : Int → Int} {h : Int → Bool} (m : Mp w n c f h) (k : c ≤ d) : Mp w n d f h := by obtain ⟨D, h1, h2⟩ := m; exact ⟨D, h1.mono k, h2⟩
theorem Mp.below {w w' : World} {n c : Nat} {f : Int → Int} {h : Int → Bool} (m : Mp w n c f h) (k : Below w.heap.size w w') : Mp w' n c f h := m.keep (k.block n m.lt)
theorem Mp.only {w w' : World} {n c p : Nat} {f : Int → Int} {h : Int → Bool} (m : Mp w n c f h) (k : Only p w w') (h1 : n ≠ p) : Mp w' n c f h := m.keep (k.block n m.lt h1)
theorem Mp.ne {w : World} {n c p : Nat} {f : Int → Int} {h : Int → Bool} (m : Mp w n c f h) {cs : Array Value} {t : TypeId} {fr : Nat × Nat} (hp : w.heap[p]? = some (.cells cs t fr)) : p ≠ n := by
  rintro rfl
  obtain ⟨es, k, hb⟩ := m.heap
  rw [hp] at hb; cases hb
theorem Mp.congr {w : World} {n c : Nat} {f g : Int → Int} {h : Int → Bool} (m : Mp w n c f h) (e : ∀ k, g k = f k) : Mp w n c g h := by
  have : g = f := funext e
  rw [this]; exact m
/-- what is read -/
theorem Mp.look {w : World} {n c : Nat} {f : Int → Int} {h : Int → Bool} (m : Mp w n c f h) {k : Int} (hk : In64 k) : (Instr.lookup 45 (.map (some n)) (.int .i64 k) false).run Try.prog w = .ok (.int .i64 (f k)) w := by
  obtain ⟨D, h1, h2⟩ := m
  obtain ⟨x, hrun, hat, _⟩ := h1.lookup_int law3 Try.underlying45 Try.underlying3 (zero3 w) (key_ok hk)
  rw [(h2 k).1] at hat
  injection hat with hat; injection hat with _ hat
  rw [hat]; exact hrun
theorem Mp.look_ok {w : World} {n c : Nat} {f : Int → Int} {h : Int → Bool} (m : Mp w n c f h) {k : Int} (hk : In64 k) : (Instr.lookup 45 (.map (some n)) (.int .i64 k) true).run Try.prog w = .ok (.tuple #[.int .i64 (f k), .bool (h k)]) w := by
  obtain ⟨D, h1, h2⟩ := m
  obtain ⟨v, ps, hrun, hv⟩ := h1.look_ok law3 Try.underlying45 (zero3 w) (plainElem_int Try.underlying3 (by decide)) (key_ok hk)
  rw [(h2 k).1] at hv
  obtain ⟨a, rfl, ha, _⟩ := plainElem_int_inv Try.underlying3 hv
  simp only [Prod.mk.injEq] at ha
  have e := ha.1
  injection e with e; injection e with _ e
  rw [hrun, (h2 k).2, e]
/-- a link is laid -/
theorem Mp.put {w : World} {n c : Nat} {f : Int → Int} {h : Int → Bool} (m : Mp w n c f h) (hc : c < 100000) {k d : Int} (hk : In64 k) (hd : In64 d) :
    ∃ w', (Instr.mapUpdate 45 (.map (some n)) (.int .i64 k) (.int .i64 d)).run Try.prog w = .ok () w' ∧ Mp w' n (c + 1) (fun j => if j = k then d else f j) (fun j => if j = k then true else h j) ∧ Only n w w' := by
  obtain ⟨D, h1, h2⟩ := m
  obtain ⟨w', hrun, h3, h4⟩ := h1.update law3 Try.underlying45 (by unfold maxLen; omega) (key_ok hk) (plainElem_int Try.underlying3 (WalkArith.wf_i64 hd))
  refine ⟨w', hrun, ⟨_, h3, fun j => ?_⟩, Only.grown h4⟩
  by_cases e : j = k
  · subst e
    dsimp only; rw [if_pos rfl, if_pos rfl, Maps.atKey_put_same h1.isMap (law3.key (key_ok hk)), Maps.has_put_same h1.isMap (law3.key (key_ok hk))]
    exact ⟨rfl, rfl⟩
  · dsimp only; rw [if_neg e, if_neg e, Maps.atKey_put_other (lk_ne e), Maps.has_put_other (lk_ne e)]
    exact h2 j
/-- .. and taken out -/
theorem Mp.del {w : World} {n c : Nat} {f : Int → Int} {h : Int → Bool} (m : Mp w n c f h) {k : Int} (hk : In64 k) (ty : TypeId) :
    ∃ w', (Builtin.delete_ #[45, 3] ty #[.map (some n), .int .i64 k]).run Try.prog w = .ok (.tuple #[]) w' ∧ Mp w' n c (fun j => if j = k then 0 else f j) (fun j => if j = k then false else h j) ∧ Only n w w' := by
  obtain ⟨D, h1, h2⟩ := m
  obtain ⟨w', hrun, h3, h4⟩ := h1.drop law3 Try.underlying45 (key_ok hk) ty
  refine ⟨w', hrun, ⟨_, h3, fun j => ?_⟩, Only.grown h4.grown⟩
  by_cases e : j = k
  · subst e
    dsimp only; rw [if_pos rfl, if_pos rfl, Maps.atKey_del_same, Maps.has_del_same]
    exact ⟨rfl, rfl⟩
  · dsimp only; rw [if_neg e, if_neg e, Maps.atKey_del_other (lk_ne e), Maps.has_del_other (lk_ne e)]
    exact h2 j
/-- a new one -/
theorem Mp.made (w : World) : Mp (w.alloc (.map #[] 0)) w.heap.size 0 (fun _ => 0) (fun _ => false) :=
  ⟨_, World.ownsMap_made w _ _ _, fun _ => ⟨rfl, rfl⟩⟩

theorem wpList_put_mp {w : World} {ops : Array Oper} {rest : List Oper} {o : Oper} {a : Act} {Q : Exit → Act → World → Prop} (hg : o.guard = none) (m x v : Operand) (hop : o.op = Op.mapUpdate 45 m x v)
    {n c : Nat} {f : Int → Int} {h : Int → Bool} (hm : a.eval m = .map (some n)) (hp : Mp w n c f h) (hc : c < 100000) {k d : Int} (hx : a.eval x = .int .i64 k) (hv : a.eval v = .int .i64 d) (hk : In64 k) (hd : In64 d)
    (hK : ∀ w', Mp w' n (c + 1) (fun j => if j = k then d else f j) (fun j => if j = k then true else h j) → Only n w w' → wpList Try.prog ops Q rest (a.put o.dst undef) w') : wpList Try.prog ops Q (o :: rest) a w := by
  refine wpList_plain hg fun K' hK' => ?_
  obtain ⟨w', hrun, r1, r2⟩ := hp.put hc hk hd
  unfold Oper.wp
  simp [execOp, hop, hm, hx, hv, hrun, Result.andThen]
  exact hK' _ _ (hK w' r1 r2)
theorem wpList_del_mp {w : World} {ops : Array Oper} {rest : List Oper} {o : Oper} {a : Act} {Q : Exit → Act → World → Prop} (hg : o.guard = none) (m x : Operand) (hop : o.op = Op.call { callee := Callee.builtin Builtin.delete, args := #[m, x], argTypes := #[45, 3] })
    {n c : Nat} {f : Int → Int} {h : Int → Bool} (hm : a.eval m = .map (some n)) (hp : Mp w n c f h) {k : Int} (hx : a.eval x = .int .i64 k) (hk : In64 k)
    (hK : ∀ w', Mp w' n c (fun j => if j = k then 0 else f j) (fun j => if j = k then false else h j) → Only n w w' → wpList Try.prog ops Q rest (a.put o.dst (.tuple #[])) w') : wpList Try.prog ops Q (o :: rest) a w := by
  refine wpList_plain hg fun K' hK' => ?_
  obtain ⟨w', hrun, r1, r2⟩ := hp.del hk o.type
  unfold Oper.wp
  simp [execOp, hop, resolve, invoke, builtin, hm, hx, hrun, Result.andThen]
  exact hK' _ _ (hK w' r1 r2)

/-! ### the mailbox -/
/-- the ring as the messages make it -/
def Mr (w : World) (n c : Nat) (M : List It) : Prop := ∃ h, Mp w n c (nxt (0 :: ids M)) h ∧ ∀ k, k ≠ 0 → h k = decide (k ∈ ids M)
theorem Mr.keep {w w' : World} {n c : Nat} {M : List It} (m : Mr w n c M) (k : w'.heap[n]? = w.heap[n]?) : Mr w' n c M := by obtain ⟨h, h1, h2⟩ := m; exact ⟨h, h1.keep k, h2⟩
theorem Mr.lt {w : World} {n c : Nat} {M : List It} (m : Mr w n c M) : n < w.heap.size := by obtain ⟨h, h1, h2⟩ := m; exact h1.lt
theorem Mr.mono {w : World} {n c d : Nat} {M : List It} (m : Mr w n c M) (k : c ≤ d) : Mr w n d M := by obtain ⟨h, h1, h2⟩ := m; exact ⟨h, h1.mono k, h2⟩
theorem Mr.ne {w : World} {n c p : Nat} {M : List It} (m : Mr w n c M) {cs : Array Value} {t : TypeId} {fr : Nat × Nat} (hp : w.heap[p]? = some (.cells cs t fr)) : p ≠ n := by obtain ⟨h, h1, h2⟩ := m; exact h1.ne hp

/-- the program's mailbox: its block s, its queue's q, its map's n; at most c links -/
structure Bx (w : World) (s q n c : Nat) (S : St) : Prop where
  k : Bk w s q n S.mp S.m (lst S.mp S.M)
  l : Ln w q 55 S.b S.L
  p : Mr w n c S.M

theorem Bx.sn {w : World} {s q n c : Nat} {S : St} (h : Bx w s q n c S) : s ≠ n := by obtain ⟨cs, hh, _⟩ := h.k; exact h.p.ne hh
theorem Bx.qn {w : World} {s q n c : Nat} {S : St} (h : Bx w s q n c S) : q ≠ n := by obtain ⟨f, ⟨cs, hh, _⟩, _⟩ := h.l; exact h.p.ne hh
theorem Bx.sq {w : World} {s q n c : Nat} {S : St} (h : Bx w s q n c S) : s ≠ q := by rintro rfl; obtain ⟨f, ⟨cs, hh, _⟩, _⟩ := h.l; exact h.k.type (e := 55) (by decide) _ _ hh
theorem Bx.below {w w' : World} {s q n c : Nat} {S : St} (h : Bx w s q n c S) (k : Below w.heap.size w w') : Bx w' s q n c S := ⟨h.k.below k, h.l.below k, h.p.keep (k.block n h.p.lt)⟩
theorem Bx.mono {w : World} {s q n c d : Nat} {S : St} (h : Bx w s q n c S) (k : c ≤ d) : Bx w s q n d S := ⟨h.k, h.l, h.p.mono k⟩
theorem Bx.drew {w : World} {s q n c : Nat} {S : St} (h : Bx w s q n c S) : Bx w.drew s q n c S := h.below ⟨rfl, rfl, rfl, Nat.le_refl _, fun _ _ => rfl⟩
theorem Bx.drewN {w : World} {s q n c : Nat} {S : St} (h : Bx w s q n c S) (m : Nat) : Bx (w.drewN m) s q n c S := h.below ⟨rfl, rfl, rfl, Nat.le_refl _, fun _ _ => rfl⟩
theorem Bx.alloc {w : World} {s q n c : Nat} {S : St} (h : Bx w s q n c S) (o : Obj) : Bx (w.alloc o) s q n c S := h.below ((Below.refl _ _).alloc (Nat.le_refl _) o)
/-- the queue alone turned -/
theorem Bx.turn {w w' : World} {s q n c : Nat} {S : St} {L : List It} (h : Bx w s q n c S) (k : Only q w w') (hl : Ln w' q 55 S.b L) : Bx w' s q n c { S with L := L } := ⟨h.k.only k h.sq, hl, h.p.keep (k.block n h.p.lt (Ne.symm h.qn))⟩

set_option maxHeartbeats 400000 in
theorem ensure_ok (s q n c : Nat) (S : St) (w : World) (h : Bx w s q n c S) : Calls Try.prog 26 #[.pointer (some ⟨s, 0, none⟩)] w fun e w' => e = .returned (.tuple #[]) ∧ w = w' := by
  have d0 := h.k.c0
  have d3 := h.k.c3
  have hq := fun w => run_eql_map_nil_sl (P := Try.prog) w 45 _ _ (some n) Try.underlying45
  go_enter Try.func26, Try.ntmps26
  go_wp2
  go_end0
  exact ⟨rfl, rfl⟩

/-! ### slices.Index over the array -/
theorem undA : Try.prog.underlying 46 = some (.array (Try.prog.arrayLen 46) (Try.prog.elem 46)) := by kernel_rfl
set_option maxHeartbeats 800000 in
theorem index_any (s : Nat) (f : Int → Int) (x : Int) (w : World) (h : ∀ i : Nat, i < 256 → w.cell? ⟨s, 4 + i, none⟩ = some (.int .i64 (f (i : Int)))) :
    Calls Try.prog 32 #[.slice (some ⟨s, 4, none⟩) 256 256, .int .i64 x] w fun e w' => w = w' ∧ ((e = .returned (.int .i64 (-1)) ∧ ∀ i : Nat, i < 256 → f (i : Int) ≠ x) ∨ ∃ i : Nat, i < 256 ∧ e = .returned (.int .i64 (i : Int)) ∧ f (i : Int) = x) := by
  have HH := Lib.hid h
  clear h
  go_enter Try.func32, Try.ntmps32
  go_wp2
  go_loop [8] (fun i => ∃ t : Nat, t ≤ 256 ∧ i = .int .i64 (t : Int) ∧ ∀ j : Nat, j < t → f (j : Int) ≠ x) (fun i => 256 - (intOf i).toNat)
  case atStart => exact ⟨0, by omega, rfl, fun j hj => absurd hj (by omega)⟩
  case round =>
    obtain ⟨t, ht, rfl, hno⟩ := hrel
    have HN := Lib.hid hno
    clear hno
    by_cases hlt : t < 256
    · have d := HH.out t hlt
      have it : (t : Int) < 256 := by omega
      by_cases he : x = f (t : Int)
      · have te : (x == f (t : Int)) = true := by simpa using he
        have HE := Lib.hid he
        clear he
        go_wp2
        go_ret
        exact ⟨rfl, .inr ⟨t, hlt, rfl, HE.out.symm⟩⟩
      · have te : (x == f (t : Int)) = false := by simpa using he
        have HE := Lib.hid he
        clear he
        go_wp2
        go_round
        case rel =>
          refine ⟨t + 1, by omega, by go_num, fun j hj => ?_⟩
          by_cases e : j = t
          · subst e; exact fun e2 => HE.out e2.symm
          · exact HN.out j (by omega)
        case measure => simp [intOf]; omega
    · have it : decide ((t : Int) < 256) = false := by simp; omega
      have e256 : t = 256 := by omega
      go_wp2
      go_ret
      exact ⟨rfl, .inl ⟨rfl, fun i hi => HN.out i (by omega)⟩⟩

set_option maxHeartbeats 800000 in
/-- the last message of that priority, or of the next lower one that has one -/
theorem upto_any (s q n : Nat) (mp : Bool) (m : Int) (f : Int → Int) (e : Nat) (he : e < 256) (w : World) (h : Bk w s q n mp m f) :
    Calls Try.prog 47 #[.pointer (some ⟨s, 0, none⟩), .int .i64 (e : Int)] w fun r w' => w = w' ∧ ∃ p : Nat, r = .returned (.int .i64 (f (p : Int))) ∧ p ≤ e ∧ (p = 0 ∨ f (p : Int) ≠ 0) ∧ ∀ j : Nat, p < j → j ≤ e → f (j : Int) = 0 := by
  have HB := Lib.hid h
  have HE := Lib.hid he
  clear h he
  go_enter Try.func47, Try.ntmps47
  go_wp2
  go_loop [1] (fun i => ∃ t : Nat, t ≤ e ∧ i = .int .i64 (t : Int) ∧ ∀ j : Nat, t < j → j ≤ e → f (j : Int) = 0) (fun i => (intOf i).toNat)
  case atStart => exact ⟨e, Nat.le_refl _, rfl, fun j h1 h2 => absurd h1 (by omega)⟩
  case round =>
    obtain ⟨t, ht, rfl, hno⟩ := hrel
    have h256 := HE.out
    have HN := Lib.hid hno
    have d := HB.out.cl (i := t) (by omega)
    have it : (t : Int) < 256 := by omega
    clear hno
    by_cases h0 : t = 0
    · have t1 : decide ((0 : Int) < (t : Int)) = false := by simp; omega
      have t2 : decide (0 < t) = false := by simp; omega
      have H0 := Lib.hid h0
      clear h0
      go_wp2
      go_ret
      exact ⟨rfl, t, rfl, ht, .inl H0.out, HN.out⟩
    · have t1 : (0 : Int) < (t : Int) := by omega
      have t2 : 0 < t := by omega
      by_cases c : f (t : Int) = 0
      · have t3 : (f (t : Int) == 0) = true := by simpa using c
        have e1 : IntKind.i64.wrap ((t : Int) - 1) = (t : Int) - 1 := IntWalk.i64_in _ (by omega)
        have HC := Lib.hid c
        clear c h0
        go_wp2
        go_round
        case rel =>
          refine ⟨t - 1, by omega, by go_num, fun j h1 h2 => ?_⟩
          by_cases e : j = t
          · subst e; exact HC.out
          · exact HN.out j (by omega) h2
        case measure => simp [intOf]; omega
      · have t3 : (f (t : Int) == 0) = false := by simpa using c
        have HC := Lib.hid c
        clear c h0
        go_wp2
        go_ret
        exact ⟨rfl, t, rfl, ht, .inr HC.out, HN.out⟩
end Go.Proofs.Ytapogohekfeiiaa
