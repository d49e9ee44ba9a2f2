/- Memory of package order: a line behind a pointer, 'only one block has turned', and how each is kept. -/
import Derived.Test.YtneimdjgbblaoaaRows
import Derived.Test.YtneimdjgbblaoaaAbs
import Derived.Below
import Derived.Laws.Rows
import Derived.Laws.Slices
import Derived.Laws.CopyOwn
import Derived.Laws.OwnMore
import Derived.Deep.Draws
namespace Go.Proofs.Ytneimdjgbblaoaa
open Go.RowKit
set_option maxRecDepth 100000

/-- Only block p may have turned, and new ones may have come. -/
structure Only (p : Nat) (w w' : World) : Prop where
  os : w'.os = w.os
  tape : w'.tape = w.tape
  output : w'.output = w.output
  size : w.heap.size ≤ w'.heap.size
  block : ∀ k, k < w.heap.size → k ≠ p → w'.heap[k]? = w.heap[k]?

theorem Only.refl (p : Nat) (w : World) : Only p w w := ⟨rfl, rfl, rfl, Nat.le_refl _, fun _ _ _ => rfl⟩
theorem Only.trans {p : Nat} {a b c : World} (h : Only p a b) (k : Only p b c) : Only p a c :=
  ⟨k.os.trans h.os, k.tape.trans h.tape, k.output.trans h.output, Nat.le_trans h.size k.size,
   fun i hi h1 => (k.block i (Nat.lt_of_lt_of_le hi h.size) h1).trans (h.block i hi h1)⟩
theorem Only.alloc {p : Nat} {a w : World} (h : Only p a w) (o : Obj) : Only p a (w.alloc o) :=
  h.trans ⟨rfl, rfl, rfl, by simp, fun k hk _ => Below.heap_alloc _ _ _ hk⟩
theorem Only.drew {p : Nat} {a w : World} (h : Only p a w) : Only p a w.drew := ⟨h.os, h.tape, h.output, h.size, h.block⟩
theorem Only.drewN {p : Nat} {a w : World} (h : Only p a w) (n : Nat) : Only p a (w.drewN n) := ⟨h.os, h.tape, h.output, h.size, h.block⟩
theorem Only.setCell {p : Nat} {a w : World} (h : Only p a w) {q : Addr} (hq : q.block = p ∨ a.heap.size ≤ q.block) (u : Value) : Only p a (w.setCell q u) :=
  ⟨h.os, h.tape, h.output, by simpa [World.setCell] using h.size, fun k hk h1 => (Below.heap_setCell _ _ _ _ (by omega)).trans (h.block k hk h1)⟩
theorem Only.cell {p : Nat} {w w' : World} (h : Only p w w') {q : Addr} (hq : q.block < w.heap.size) (h1 : q.block ≠ p) : w'.cell? q = w.cell? q :=
  World.cell?_of_block (w := w) (h.block q.block hq h1)
theorem Only.below {p B : Nat} {w w' : World} (h : Only p w w') (h0 : B ≤ w.heap.size) (h1 : B ≤ p) : Below B w w' :=
  ⟨h.os, h.tape, h.output, h.size, fun k hk => h.block k (by omega) (by omega)⟩
theorem Only.of_below {p : Nat} {w w' : World} (h : Below w.heap.size w w') : Only p w w' :=
  ⟨h.os, h.tape, h.output, h.size, fun k hk _ => h.block k hk⟩
theorem Only.of_new {p q : Nat} {a w w' : World} (h : Only p a w) (k : Only q w w') (hq : a.heap.size ≤ q ∨ q = p) : Only p a w' :=
  ⟨k.os.trans h.os, k.tape.trans h.tape, k.output.trans h.output, Nat.le_trans h.size k.size,
   fun i hi h1 => (k.block i (Nat.lt_of_lt_of_le hi h.size) (by omega)).trans (h.block i hi h1)⟩
theorem below_trans {a b c : World} (h : Below a.heap.size a b) (k : Below b.heap.size b c) : Below a.heap.size a c :=
  h.trans ⟨k.os, k.tape, k.output, k.size, fun i hi => k.block i (Nat.lt_of_lt_of_le hi h.size)⟩

theorem lt_of_heap {w : World} {g : Nat} {o : Obj} (h : w.heap[g]? = some o) : g < w.heap.size := (Array.getElem?_eq_some_iff.1 h).1
theorem addr_add (b o j : Nat) : (⟨b, o, none⟩ : Addr).add j = ⟨b, o + j, none⟩ := by cases j <;> simp [Addr.add]

/-- A queue's cells in block p (its type T) from cell O on: n in use, cells f 0 .. f 31, the count, the flag b; the block's other cells are X. -/
def Lm (O : Nat) (X : Nat → Option Value) (w : World) (p T n : Nat) (b : Bool) (f : Nat → Int) : Prop :=
  ∃ cs : Array Value, w.heap[p]? = some (.cells cs T (0, 0)) ∧ (∀ i, i < 32 → cs[O + i]? = some (.int .i64 (f i))) ∧ cs[O + 32]? = some (.int .i64 (n : Int)) ∧ cs[O + 33]? = some (.bool b) ∧ ∀ i, (i < O ∨ O + 34 ≤ i) → cs[i]? = X i

section
variable {O : Nat} {X : Nat → Option Value}
theorem Lm.lt {w : World} {p T n : Nat} {b : Bool} {f : Nat → Int} (h : Lm O X w p T n b f) : p < w.heap.size := by obtain ⟨cs, hh, _⟩ := h; exact lt_of_heap hh
theorem Lm.at_ {w : World} {p T n : Nat} {b : Bool} {f : Nat → Int} (h : Lm O X w p T n b f) {a i : Nat} (ha : a = O + i) (hi : i < 32) : w.cell? ⟨p, a, none⟩ = some (.int .i64 (f i)) := by
  subst ha; obtain ⟨cs, hh, hc, _⟩ := h; rw [cell_of_row w p _ cs T (0, 0) hh]; exact hc i hi
theorem Lm.count {w : World} {p T n : Nat} {b : Bool} {f : Nat → Int} (h : Lm O X w p T n b f) : w.cell? ⟨p, O + 32, none⟩ = some (.int .i64 (n : Int)) := by
  obtain ⟨cs, hh, _, hc, _⟩ := h; rw [cell_of_row w p _ cs T (0, 0) hh]; exact hc
theorem Lm.flag {w : World} {p T n : Nat} {b : Bool} {f : Nat → Int} (h : Lm O X w p T n b f) : w.cell? ⟨p, O + 33, none⟩ = some (.bool b) := by
  obtain ⟨cs, hh, _, _, hc, _⟩ := h; rw [cell_of_row w p _ cs T (0, 0) hh]; exact hc
theorem Lm.frozen {w : World} {p T n : Nat} {b : Bool} {f : Nat → Int} (h : Lm O X w p T n b f) (i : Nat) : w.frozen? ⟨p, i, none⟩ = false := by
  obtain ⟨cs, hh, _⟩ := h; exact frozen_of_row w p i cs T hh
theorem Lm.keep {w w' : World} {p T n : Nat} {b : Bool} {f : Nat → Int} (h : Lm O X w p T n b f) (k : w'.heap[p]? = w.heap[p]?) : Lm O X w' p T n b f := by
  obtain ⟨cs, hh, r⟩ := h; exact ⟨cs, k.trans hh, r⟩
theorem Lm.only {w w' : World} {p T n q : Nat} {b : Bool} {f : Nat → Int} (h : Lm O X w p T n b f) (k : Only q w w') (h1 : p ≠ q) : Lm O X w' p T n b f := h.keep (k.block p h.lt h1)
theorem Lm.below {w w' : World} {p T n B : Nat} {b : Bool} {f : Nat → Int} (h : Lm O X w p T n b f) (k : Below B w w') (h1 : p < B) : Lm O X w' p T n b f := h.keep (k.block p h1)
theorem Lm.alloc {w : World} {p T n : Nat} {b : Bool} {f : Nat → Int} (h : Lm O X w p T n b f) (o : Obj) : Lm O X (w.alloc o) p T n b f := h.keep (Below.heap_alloc w o p h.lt)
theorem Lm.drew {w : World} {p T n : Nat} {b : Bool} {f : Nat → Int} (h : Lm O X w p T n b f) : Lm O X w.drew p T n b f := h
theorem Lm.congr {w : World} {p T n : Nat} {b : Bool} {f f' : Nat → Int} (h : Lm O X w p T n b f) (e : ∀ i, i < 32 → f' i = f i) : Lm O X w p T n b f' := by
  obtain ⟨cs, hh, hc, r⟩ := h; exact ⟨cs, hh, fun i hi => by rw [e i hi]; exact hc i hi, r⟩
theorem Lm.set {w : World} {p T n : Nat} {b : Bool} {f : Nat → Int} (h : Lm O X w p T n b f) (a i : Nat) (x : Int) (ha : a = O + i) (hi : i < 32) :
    Lm O X (w.setCell ⟨p, a, none⟩ (.int .i64 x)) p T n b (fun j => if j = i then x else f j) := by
  subst ha
  obtain ⟨cs, hh, hc, hn, hb, hX⟩ := h
  have hsz : O + i < cs.size := (Array.getElem?_eq_some_iff.1 (hc i hi)).1
  refine ⟨cs.setIfInBounds (O + i) (.int .i64 x), heap_setCell_same w p _ cs T _ hh, fun j hj => ?_, ?_, ?_, fun j hj => ?_⟩
  · by_cases e : j = i
    · subst e; simp [hsz]
    · have := hc j hj
      have e2 : O + i ≠ O + j := by omega
      simp only [Array.getElem?_setIfInBounds, if_neg e2, if_neg e]; exact this
  · have e : O + i ≠ O + 32 := by omega
    simp only [Array.getElem?_setIfInBounds, if_neg e]; exact hn
  · have e : O + i ≠ O + 33 := by omega
    simp only [Array.getElem?_setIfInBounds, if_neg e]; exact hb
  · have e : O + i ≠ j := by omega
    simp only [Array.getElem?_setIfInBounds, if_neg e]; exact hX j hj
theorem Lm.setCount {w : World} {p T n : Nat} {b : Bool} {f : Nat → Int} (h : Lm O X w p T n b f) (m : Nat) (x : Int) (hx : x = (m : Int)) :
    Lm O X (w.setCell ⟨p, O + 32, none⟩ (.int .i64 x)) p T m b f := by
  subst hx
  obtain ⟨cs, hh, hc, hn, hb, hX⟩ := h
  have hsz : O + 32 < cs.size := (Array.getElem?_eq_some_iff.1 hn).1
  refine ⟨cs.setIfInBounds (O + 32) (.int .i64 (m : Int)), heap_setCell_same w p _ cs T _ hh, fun j hj => ?_, ?_, ?_, fun j hj => ?_⟩
  · have e : O + 32 ≠ O + j := by omega
    simp only [Array.getElem?_setIfInBounds, if_neg e]; exact hc j hj
  · simp [hsz]
  · have e : O + 32 ≠ O + 33 := by omega
    simp only [Array.getElem?_setIfInBounds, if_neg e]; exact hb
  · have e : O + 32 ≠ j := by omega
    simp only [Array.getElem?_setIfInBounds, if_neg e]; exact hX j hj
end

/-- the line's items -/
def Rel (f : Nat → Int) (L : List It) : Prop := ∀ (j : Nat) (x : It), L[j]? = some x → f (j * 2) = x.1 ∧ f (j * 2 + 1) = x.2
def Ln (O : Nat) (X : Nat → Option Value) (w : World) (p T : Nat) (b : Bool) (L : List It) : Prop := ∃ f, Lm O X w p T L.length b f ∧ Rel f L

section
variable {O : Nat} {X : Nat → Option Value}
theorem Ln.lt {w : World} {p T : Nat} {b : Bool} {L : List It} (h : Ln O X w p T b L) : p < w.heap.size := by obtain ⟨f, h, _⟩ := h; exact h.lt
theorem Ln.keep {w w' : World} {p T : Nat} {b : Bool} {L : List It} (h : Ln O X w p T b L) (k : w'.heap[p]? = w.heap[p]?) : Ln O X w' p T b L := by obtain ⟨f, h, r⟩ := h; exact ⟨f, h.keep k, r⟩
theorem Ln.only {w w' : World} {p T q : Nat} {b : Bool} {L : List It} (h : Ln O X w p T b L) (k : Only q w w') (h1 : p ≠ q) : Ln O X w' p T b L := h.keep (k.block p h.lt h1)
theorem Ln.below {w w' : World} {p T : Nat} {b : Bool} {L : List It} (h : Ln O X w p T b L) (k : Below w.heap.size w w') : Ln O X w' p T b L := h.keep (k.block p h.lt)
theorem Ln.alloc {w : World} {p T : Nat} {b : Bool} {L : List It} (h : Ln O X w p T b L) (o : Obj) : Ln O X (w.alloc o) p T b L := h.keep (Below.heap_alloc w o p h.lt)
theorem Ln.drew {w : World} {p T : Nat} {b : Bool} {L : List It} (h : Ln O X w p T b L) : Ln O X w.drew p T b L := h
theorem Ln.drewN {w : World} {p T : Nat} {b : Bool} {L : List It} (h : Ln O X w p T b L) (n : Nat) : Ln O X (w.drewN n) p T b L := h
end

theorem info37 : (Try.prog.info? 60).map (·.size) = some 2 := by kernel_rfl

/-- 'copy(dst, src)' of items, dst at least as long as src: all of src go over. -/
theorem run_copy2 (w : World) (ty : TypeId) (g o dLen dCap : Nat) (a : Addr) (sLen sCap : Nat) (cur : Array Value) (t : TypeId) (cs : List Value)
    (hg : w.heap[g]? = some (.cells cur t (0, 0))) (hle : sLen ≤ dLen) (hn : cs.length = sLen * 2)
    (hsrc : ∀ j v, cs[j]? = some v → w.cell? (a.add j) = some v) (hfit : o + cs.length ≤ cur.size) (h1 : ∀ v ∈ cs, v.oneCell' = true) :
    (Builtin.copy_ #[115, 115] ty #[.slice (some ⟨g, o, none⟩) dLen dCap, .slice (some a) sLen sCap]).run Try.prog w =
      .ok (goInt sLen) (w.setRow g (cur.toList.take o ++ cs ++ cur.toList.drop (o + cs.length)).toArray) := by
  have hl := run_loadCells_list (P := Try.prog) w a cs hsrc
  have hst := run_storeCells_at Try.prog g o t cs 0 cur w hg (by simpa using hfit) h1
  have hs := info37
  have hm : Nat.min sLen dLen = sLen := Nat.min_eq_left hle
  cases hq : Try.prog.info? 60 with
  | none => simp [hq] at hs
  | some i =>
    have hi : i.size = 2 := by simpa [hq] using hs
    simp [Builtin.copy_, run_underlying Try.underlying115, Builtin.lenOf, Builtin.firstCells, sizeOf, typeInfo, hq, hi, hm, ← hn, hl, hst]

theorem run_copy2_none (w : World) (ty : TypeId) (dp sp : Option Addr) (dLen dCap sCap : Nat) :
    (Builtin.copy_ #[115, 115] ty #[.slice dp dLen dCap, .slice sp 0 sCap]).run Try.prog w = .ok (goInt 0) w := by
  have hs := info37
  cases hq : Try.prog.info? 60 with
  | none => simp [hq] at hs
  | some i =>
    cases sp <;> cases dp <;> simp [Builtin.copy_, run_underlying Try.underlying115, Builtin.lenOf, Builtin.firstCells, sizeOf, typeInfo, hq, loadCells, loadCellsFrom, storeCells]

/-- the cells behind a copy -/
def Copied (cur cs' : Array Value) (off n : Nat) (q : Nat → Int) : Prop :=
  ∀ i, cs'[i]? = if off ≤ i ∧ i < off + n * 2 then some (.int .i64 (q (i - off))) else cur[i]?

theorem wpList_copy_items {w : World} {ops : Array Oper} {rest : List Oper} {o : Oper} {a : Act} {Q : Exit → Act → World → Prop} (hgd : o.guard = none) (d s : Operand)
    (ho : o.op = .call { callee := .builtin .copy, args := #[d, s], argTypes := #[115, 115] })
    (dp sp : Option Addr) (dLen dCap sLen sCap : Nat) (hd : a.eval d = .slice dp dLen dCap) (hs : a.eval s = .slice sp sLen sCap) (hle : sLen ≤ dLen)
    (g off : Nat) (q : Nat → Int) (cur : Array Value) (t : TypeId) (hg : w.heap[g]? = some (.cells cur t (0, 0)))
    (hpos : 0 < sLen → dp = some ⟨g, off, none⟩ ∧ ∃ b so, sp = some ⟨b, so, none⟩ ∧ ∀ j, j < sLen * 2 → w.cell? ⟨b, so + j, none⟩ = some (.int .i64 (q j)))
    (hfit : off + sLen * 2 ≤ cur.size)
    (h : ∀ w' cs', w'.heap[g]? = some (.cells cs' t (0, 0)) → Copied cur cs' off sLen q → cs'.size = cur.size → Only g w w' → wpList Try.prog ops Q rest (a.put o.dst (goInt sLen)) w') :
    wpList Try.prog ops Q (o :: rest) a w := by
  refine wpList_plain hgd fun K hK => ?_
  by_cases h0 : sLen = 0
  · subst h0
    have hrun := run_copy2_none w o.type dp sp dLen dCap sCap
    unfold Oper.wp
    simp [execOp, ho, resolve, invoke, builtin, hd, hs, hrun, Result.andThen]
    exact hK _ _ (h w cur hg (fun i => by rw [if_neg (by omega)]) rfl (Only.refl _ _))
  · obtain ⟨rfl, b, so, rfl, hc⟩ := hpos (by omega)
    have hlen : ((List.range (sLen * 2)).map fun j => Value.int .i64 (q j)).length = sLen * 2 := by simp
    have hrun := run_copy2 w o.type g off dLen dCap ⟨b, so, none⟩ sLen sCap cur t ((List.range (sLen * 2)).map fun j => Value.int .i64 (q j)) hg hle hlen
      (fun j v hv => by
        rw [addr_add]
        rw [List.getElem?_map] at hv
        obtain ⟨k, hk, rfl⟩ := Option.map_eq_some_iff.1 hv
        obtain ⟨hk1, hk2⟩ := List.getElem?_eq_some_iff.1 hk
        simp at hk1 hk2
        subst hk2
        exact hc j hk1)
      (by rw [hlen]; exact hfit)
      (fun v hv => by obtain ⟨k, _, rfl⟩ := List.mem_map.1 hv; rfl)
    unfold Oper.wp
    simp [execOp, ho, resolve, invoke, builtin, hd, hs, hrun, Result.andThen]
    refine hK _ _ (h _ _ (by simpa using setRow_heap w g _ _ t _ hg) (fun i => ?_) ?_ ⟨rfl, rfl, rfl, by simp [World.setRow], fun k _ h1 => setRow_other w g k _ h1⟩)
    · rw [List.getElem?_toArray, List.getElem?_append, List.getElem?_append]
      simp only [List.length_map, List.length_range, List.length_take, Array.length_toList]
      have hm : min off cur.size = off := by omega
      rw [hm]
      by_cases c1 : i < off
      · rw [if_pos c1, if_neg (by omega), List.getElem?_take, if_pos c1, Array.getElem?_toList]
      · rw [if_neg c1]
        by_cases c2 : i - off < sLen * 2
        · rw [if_pos c2, if_pos (by omega), List.getElem?_map, List.getElem?_range c2]; rfl
        · rw [if_neg c2, if_neg (by omega), List.getElem?_drop, Array.getElem?_toList]; congr 1; omega
    · simp; omega

/-- the line behind a copy within it -/
theorem lm_copied {O : Nat} {X : Nat → Option Value} {w' : World} {p T n : Nat} {b : Bool} {f : Nat → Int} {cur cs' : Array Value} (hc : (∀ i, i < 32 → cur[O + i]? = some (.int .i64 (f i))) ∧ cur[O + 32]? = some (.int .i64 (n : Int)) ∧ cur[O + 33]? = some (.bool b) ∧ ∀ i, (i < O ∨ O + 34 ≤ i) → cur[i]? = X i)
    (hg : w'.heap[p]? = some (.cells cs' T (0, 0))) (off m : Nat) (q : Nat → Int) (hq : Copied cur cs' (O + off) m q) (hfit : off + m * 2 ≤ 32) :
    Lm O X w' p T n b (fun i => if off ≤ i ∧ i < off + m * 2 then q (i - off) else f i) := by
  refine ⟨cs', hg, fun i hi => ?_, ?_, ?_, fun i hi => ?_⟩
  · rw [hq (O + i)]
    by_cases c : off ≤ i ∧ i < off + m * 2
    · rw [if_pos (by omega)]
      simp only [if_pos c]
      rw [show O + i - (O + off) = i - off by omega]
    · rw [if_neg (by omega)]
      simp only [if_neg c]; exact hc.1 i hi
  · rw [hq, if_neg (by omega)]; exact hc.2.1
  · rw [hq, if_neg (by omega)]; exact hc.2.2.1
  · rw [hq, if_neg (by omega)]; exact hc.2.2.2 i hi

theorem und38 : Try.prog.underlying 61 = some (.array (Try.prog.arrayLen 61) (Try.prog.elem 61)) := by kernel_rfl
theorem arr38 : Try.prog.arrayLen 61 = 16 := by kernel_rfl
theorem elem38 : Try.prog.elem 61 = 60 := by kernel_rfl
theorem size37 (W : World) : (sizeOf 60).run Try.prog W = .ok 2 W := by
  have hs := info37
  cases hq : Try.prog.info? 60 with
  | none => simp [hq] at hs
  | some i =>
    have hi : i.size = 2 := by simpa [hq] using hs
    simp [sizeOf, typeInfo, hq, hi]

/-- the array's first n -/
theorem cut_h (p O n : Nat) (hn : n ≤ 16) (W : World) : (Instr.sliceAt 61 (.pointer (some ⟨p, O, none⟩)) none (some (.int .i64 (n : Int))) none).run Try.prog W = .ok (.slice (some ⟨p, O, none⟩) n 16) W := by
  rw [run_sliceAt_array_h W 61 _ und38 .i64 (n : Int) (by omega) (by rw [arr38]; omega), elem38, arr38, size37]
  simp [slicedAt, Result.andThen, addr_add]
/-- from a on -/
theorem cut_l (p O a : Nat) (ha : a ≤ 16) : ∃ X : Option Addr, (a < 16 → X = some ⟨p, O + a * 2, none⟩) ∧ ∀ (W : World) (x : Int), x = (a : Int) → (Instr.sliceAt 61 (.pointer (some ⟨p, O, none⟩)) (some (.int .i64 x)) none none).run Try.prog W = .ok (.slice X (16 - a) (16 - a)) W := by
  refine ⟨some (if 16 = a then ⟨p, O, none⟩ else ⟨p, O + a * 2, none⟩), fun h => by rw [if_neg (by omega)], fun W x hx => ?_⟩
  subst hx
  rw [run_sliceAt_array_l W 61 _ und38 .i64 (a : Int) (by omega) (by rw [arr38]; omega), elem38, arr38, size37]
  simp [slicedAt, Result.andThen, addr_add]
/-- from a to n -/
theorem cut_lh (p O a n : Nat) (ha : a ≤ n) (hn : n ≤ 16) : ∃ (X : Option Addr) (k : Nat), (a < n → X = some ⟨p, O + a * 2, none⟩) ∧ ∀ (W : World) (x : Int), x = (a : Int) → (Instr.sliceAt 61 (.pointer (some ⟨p, O, none⟩)) (some (.int .i64 x)) (some (.int .i64 (n : Int))) none).run Try.prog W = .ok (.slice X (n - a) k) W := by
  refine ⟨some (if 16 = a then ⟨p, O, none⟩ else ⟨p, O + a * 2, none⟩), 16 - a, fun h => by rw [if_neg (by omega)], fun W x hx => ?_⟩
  subst hx
  rw [run_sliceAt_array_lh W 61 _ und38 .i64 .i64 (a : Int) (n : Int) (by omega) (by omega) (by rw [arr38]; omega), elem38, arr38, size37]
  simp [slicedAt, Result.andThen, addr_add]
end Go.Proofs.Ytneimdjgbblaoaa
