/- Memory of package arena: a row of bytes known whole, an arena behind a pointer, 'only two blocks have turned', and how each is kept. -/
import Derived.Below
import Derived.Laws.Rows
import Derived.Laws.CopyOwn
import Derived.Laws.OwnMore
import Derived.Deep.Draws
namespace Go.Proofs.Ytneimdjgbblaoaa.R
open Go.RowKit
set_option maxRecDepth 100000

/-- Only blocks p and m may have turned, and new ones may have come. -/
structure Only (p m : Nat) (w w' : World) : Prop where
  os : w'.os = w.os
  tape : w'.tape = w.tape
  output : w'.output = w.output
  size : w.heap.size ≤ w'.heap.size
  block : ∀ k, k < w.heap.size → k ≠ p → k ≠ m → w'.heap[k]? = w.heap[k]?

theorem Only.refl (p m : Nat) (w : World) : Only p m w w := ⟨rfl, rfl, rfl, Nat.le_refl _, fun _ _ _ _ => rfl⟩
theorem Only.trans {p m : Nat} {a b c : World} (h : Only p m a b) (k : Only p m b c) : Only p m a c :=
  ⟨k.os.trans h.os, k.tape.trans h.tape, k.output.trans h.output, Nat.le_trans h.size k.size,
   fun i hi h1 h2 => (k.block i (Nat.lt_of_lt_of_le hi h.size) h1 h2).trans (h.block i hi h1 h2)⟩
theorem Only.alloc {p m : Nat} {a w : World} (h : Only p m a w) (o : Obj) : Only p m a (w.alloc o) :=
  h.trans ⟨rfl, rfl, rfl, by simp, fun k hk _ _ => Below.heap_alloc _ _ _ hk⟩
theorem Only.drew {p m : Nat} {a w : World} (h : Only p m a w) : Only p m a w.drew := ⟨h.os, h.tape, h.output, h.size, h.block⟩
theorem Only.drewN {p m : Nat} {a w : World} (h : Only p m a w) (n : Nat) : Only p m a (w.drewN n) := ⟨h.os, h.tape, h.output, h.size, h.block⟩
theorem Only.setCell {p m : Nat} {a w : World} (h : Only p m a w) {q : Addr} (hq : q.block = p ∨ q.block = m ∨ a.heap.size ≤ q.block) (u : Value) : Only p m a (w.setCell q u) :=
  ⟨h.os, h.tape, h.output, by simpa [World.setCell] using h.size, fun k hk h1 h2 => (Below.heap_setCell _ _ _ _ (by omega)).trans (h.block k hk h1 h2)⟩
theorem Only.setRow {p m : Nat} {a w : World} (h : Only p m a w) {g : Nat} (hq : g = p ∨ g = m ∨ a.heap.size ≤ g) (cs : Array Value) : Only p m a (w.setRow g cs) :=
  ⟨h.os, h.tape, h.output, by simpa [World.setRow] using h.size, fun k hk h1 h2 => (setRow_other w g k cs (by omega)).trans (h.block k hk h1 h2)⟩
theorem Only.cell {p m : Nat} {w w' : World} (h : Only p m w w') {q : Addr} (hq : q.block < w.heap.size) (h1 : q.block ≠ p) (h2 : q.block ≠ m) : w'.cell? q = w.cell? q :=
  World.cell?_of_block (w := w) (h.block q.block hq h1 h2)
theorem Only.below {p m B : Nat} {w w' : World} (h : Only p m w w') (h0 : B ≤ w.heap.size) (h1 : B ≤ p) (h2 : B ≤ m) : Below B w w' :=
  ⟨h.os, h.tape, h.output, h.size, fun k hk => h.block k (by omega) (by omega) (by omega)⟩
theorem Only.of_below {p m : Nat} {w w' : World} (h : Below w.heap.size w w') : Only p m w w' :=
  ⟨h.os, h.tape, h.output, h.size, fun k hk _ _ => h.block k hk⟩
theorem Only.wide {p m : Nat} {w w' : World} (h : Only p p w w') : Only p m w w' := ⟨h.os, h.tape, h.output, h.size, fun k hk h1 _ => h.block k hk h1 h1⟩
theorem Only.wide' {p m : Nat} {w w' : World} (h : Only m m w w') : Only p m w w' := ⟨h.os, h.tape, h.output, h.size, fun k hk _ h1 => h.block k hk h1 h1⟩
/-- the two blocks lie behind the first world: so nothing old has turned -/
theorem Only.of_new {p m q r : Nat} {a w w' : World} (h : Only p m a w) (k : Only q r w w') (hq : a.heap.size ≤ q ∨ q = p ∨ q = m) (hr : a.heap.size ≤ r ∨ r = p ∨ r = m) : Only p m a w' :=
  ⟨k.os.trans h.os, k.tape.trans h.tape, k.output.trans h.output, Nat.le_trans h.size k.size,
   fun i hi h1 h2 => (k.block i (Nat.lt_of_lt_of_le hi h.size) (by omega) (by omega)).trans (h.block i hi h1 h2)⟩

/-- Block g is a row of bytes (none frozen); its first n cells are f 0, f 1, .. -/
def Row (w : World) (g n : Nat) (f : Nat → Int) : Prop :=
  ∃ cs : Array Value, w.heap[g]? = some (.cells cs 5 (0, 0)) ∧ ∀ i, i < n → cs[i]? = some (.int .u8 (f i)) ∧ 0 ≤ f i ∧ f i ≤ 255

theorem lt_of_heap {w : World} {g : Nat} {o : Obj} (h : w.heap[g]? = some o) : g < w.heap.size := (Array.getElem?_eq_some_iff.1 h).1

theorem Row.lt {w : World} {g n : Nat} {f : Nat → Int} (h : Row w g n f) : g < w.heap.size := by obtain ⟨cs, hh, _⟩ := h; exact lt_of_heap hh
theorem Row.at_ {w : World} {g n : Nat} {f : Nat → Int} (h : Row w g n f) {i : Nat} (hi : i < n) : w.cell? ⟨g, i, none⟩ = some (.int .u8 (f i)) := by
  obtain ⟨cs, hh, hc⟩ := h; rw [cell_of_row w g i cs 5 (0, 0) hh]; exact (hc i hi).1
theorem Row.lo {w : World} {g n : Nat} {f : Nat → Int} (h : Row w g n f) {i : Nat} (hi : i < n) : 0 ≤ f i ∧ f i ≤ 255 := by
  obtain ⟨cs, hh, hc⟩ := h; exact (hc i hi).2
theorem Row.frozen {w : World} {g n : Nat} {f : Nat → Int} (h : Row w g n f) (i : Nat) : w.frozen? ⟨g, i, none⟩ = false := by
  obtain ⟨cs, hh, hc⟩ := h; exact frozen_of_row w g i cs 5 hh
theorem Row.keep {w w' : World} {g n : Nat} {f : Nat → Int} (h : Row w g n f) (k : w'.heap[g]? = w.heap[g]?) : Row w' g n f := by
  obtain ⟨cs, hh, hc⟩ := h; exact ⟨cs, k.trans hh, hc⟩
theorem Row.only {w w' : World} {g n p m : Nat} {f : Nat → Int} (h : Row w g n f) (k : Only p m w w') (h1 : g ≠ p) (h2 : g ≠ m) : Row w' g n f :=
  h.keep (k.block g h.lt h1 h2)
theorem Row.below {w w' : World} {g n B : Nat} {f : Nat → Int} (h : Row w g n f) (k : Below B w w') (h1 : g < B) : Row w' g n f :=
  h.keep (k.block g h1)
theorem Row.alloc {w : World} {g n : Nat} {f : Nat → Int} (h : Row w g n f) (o : Obj) : Row (w.alloc o) g n f := h.keep (Below.heap_alloc w o g h.lt)
theorem Row.drew {w : World} {g n : Nat} {f : Nat → Int} (h : Row w g n f) : Row w.drew g n f := h
theorem Row.drewN {w : World} {g n : Nat} {f : Nat → Int} (h : Row w g n f) (k : Nat) : Row (w.drewN k) g n f := h
theorem Row.far {w : World} {g n : Nat} {f : Nat → Int} (h : Row w g n f) {q : Addr} (hq : g ≠ q.block) (u : Value) : Row (w.setCell q u) g n f := h.keep (Below.heap_setCell w q u g hq)
theorem Row.congr {w : World} {g n : Nat} {f f' : Nat → Int} (h : Row w g n f) (e : ∀ i, i < n → f' i = f i) : Row w g n f' := by
  obtain ⟨cs, hh, hc⟩ := h; exact ⟨cs, hh, fun i hi => by rw [e i hi]; exact hc i hi⟩
theorem Row.less {w : World} {g n n' : Nat} {f : Nat → Int} (h : Row w g n f) (hn : n' ≤ n) : Row w g n' f := by
  obtain ⟨cs, hh, hc⟩ := h; exact ⟨cs, hh, fun i hi => hc i (by omega)⟩

/-- f with n values of g laid over it from a on -/
def upd (f : Nat → Int) (a n : Nat) (g : Nat → Int) : Nat → Int := fun i => if a ≤ i ∧ i < a + n then g (i - a) else f i
theorem upd_in (f : Nat → Int) (a n : Nat) (g : Nat → Int) (i : Nat) (h1 : a ≤ i) (h2 : i < a + n) : upd f a n g i = g (i - a) := by simp [upd, h1, h2]
theorem upd_out (f : Nat → Int) (a n : Nat) (g : Nat → Int) (i : Nat) (h : i < a ∨ a + n ≤ i) : upd f a n g i = f i := by
  unfold upd; rw [if_neg]; omega
theorem upd_zero (f : Nat → Int) (a : Nat) (g : Nat → Int) : upd f a 0 g = f := by funext i; exact upd_out _ _ _ _ _ (by omega)
theorem upd_one (f : Nat → Int) (a k : Nat) (g : Nat → Int) : upd f a (k + 1) g = fun i => if i = a + k then g k else upd f a k g i := by
  funext i
  by_cases h : i = a + k
  · subst h; rw [upd_in _ _ _ _ _ (by omega) (by omega)]; simp
  · simp only [h, if_false]
    by_cases h2 : a ≤ i ∧ i < a + k
    · rw [upd_in _ _ _ _ _ h2.1 (by omega), upd_in _ _ _ _ _ h2.1 h2.2]
    · rw [upd_out _ _ _ _ _ (by omega), upd_out _ _ _ _ _ (by omega)]
theorem upd_upd (f : Nat → Int) (a x y : Nat) (g h q : Nat → Int) (e1 : ∀ i, i < x → q i = g i) (e2 : ∀ i, i < y → q (x + i) = h i) : upd (upd f a x g) (a + x) y h = upd f a (x + y) q := by
  funext i
  by_cases h1 : a + x ≤ i ∧ i < a + x + y
  · rw [upd_in _ _ _ _ _ h1.1 h1.2, upd_in _ _ _ _ _ (by omega) (by omega), ← e2 _ (by omega)]; congr 1; omega
  · rw [upd_out _ _ _ _ _ (by omega)]
    by_cases h2 : a ≤ i ∧ i < a + x
    · rw [upd_in _ _ _ _ _ h2.1 h2.2, upd_in _ _ _ _ _ (by omega) (by omega), e1 _ (by omega)]
    · rw [upd_out _ _ _ _ _ (by omega), upd_out _ _ _ _ _ (by omega)]
theorem upd_congr (f : Nat → Int) (a n : Nat) (g h : Nat → Int) (e : ∀ i, i < n → g i = h i) : upd f a n g = upd f a n h := by
  funext i
  by_cases h1 : a ≤ i ∧ i < a + n
  · rw [upd_in _ _ _ _ _ h1.1 h1.2, upd_in _ _ _ _ _ h1.1 h1.2]; exact e _ (by omega)
  · rw [upd_out _ _ _ _ _ (by omega), upd_out _ _ _ _ _ (by omega)]

theorem Row.set_ {w : World} {g n : Nat} {f : Nat → Int} (h : Row w g n f) (i : Nat) (x : Int) (h0 : 0 ≤ x) (h1 : x ≤ 255) (hi : i < n) :
    Row (w.setCell ⟨g, i, none⟩ (.int .u8 x)) g n (fun j => if j = i then x else f j) := by
  obtain ⟨cs, hh, hc⟩ := h
  refine ⟨cs.setIfInBounds i (.int .u8 x), heap_setCell_same w g i cs 5 _ hh, fun j hj => ?_⟩
  have hsz : i < cs.size := (Array.getElem?_eq_some_iff.1 (hc i hi).1).1
  by_cases e : j = i
  · subst e; simp [hsz, h0, h1]
  · have := hc j hj; simp [Ne.symm e, e, this.1]; exact this.2

/-- one more byte laid -/
theorem Row.put {w : World} {g n a k : Nat} {f q : Nat → Int} (h : Row w g n (upd f a k q)) (h0 : 0 ≤ q k) (h1 : q k ≤ 255) (hi : a + k < n) :
    Row (w.setCell ⟨g, a + k, none⟩ (.int .u8 (q k))) g n (upd f a (k + 1) q) := by
  rw [upd_one]; exact h.set_ (a + k) (q k) h0 h1 hi

section
variable {X : TypeId × List Value}
/-- An arena: its struct lies in block p ahead of other fields (X: the block's type and these), its bytes in block m. -/
def Ar (X : TypeId × List Value) (w : World) (p m n : Nat) (c : Int) (f : Nat → Int) : Prop :=
  X.1 ≠ 5 ∧ (∃ k : Nat, w.heap[p]? = some (.cells ⟨.slice (some ⟨m, 0, none⟩) n k :: .int .i64 c :: X.2⟩ X.1 (0, 0)) ∧ n ≤ k ∧ k ≤ 9223372036854775807) ∧ Row w m n f

theorem Ar.row {w : World} {p m n : Nat} {c : Int} {f : Nat → Int} (h : Ar X w p m n c f) : Row w m n f := h.2.2
theorem Ar.ne {w : World} {p m n : Nat} {c : Int} {f : Nat → Int} (h : Ar X w p m n c f) : p ≠ m := by
  rintro rfl
  obtain ⟨hX, ⟨k, hk, _⟩, cs, hc, _⟩ := h
  rw [hk] at hc; injection hc with hc; injection hc with _ ht; exact hX ht
theorem Ar.ltp {w : World} {p m n : Nat} {c : Int} {f : Nat → Int} (h : Ar X w p m n c f) : p < w.heap.size := by obtain ⟨_, ⟨k, hk, _⟩, _⟩ := h; exact lt_of_heap hk
theorem Ar.ltm {w : World} {p m n : Nat} {c : Int} {f : Nat → Int} (h : Ar X w p m n c f) : m < w.heap.size := h.2.2.lt
theorem Ar.keep {w w' : World} {p m n : Nat} {c : Int} {f : Nat → Int} (h : Ar X w p m n c f) (h1 : w'.heap[p]? = w.heap[p]?) (h2 : w'.heap[m]? = w.heap[m]?) : Ar X w' p m n c f := by
  obtain ⟨hX, ⟨k, hk, r⟩, hr⟩ := h; exact ⟨hX, ⟨k, h1.trans hk, r⟩, hr.keep h2⟩
theorem Ar.only {w w' : World} {p m n q r : Nat} {c : Int} {f : Nat → Int} (h : Ar X w p m n c f) (k : Only q r w w') (h1 : p ≠ q) (h2 : p ≠ r) (h3 : m ≠ q) (h4 : m ≠ r) : Ar X w' p m n c f :=
  h.keep (k.block p h.ltp h1 h2) (k.block m h.ltm h3 h4)
theorem Ar.alloc {w : World} {p m n : Nat} {c : Int} {f : Nat → Int} (h : Ar X w p m n c f) (o : Obj) : Ar X (w.alloc o) p m n c f := h.keep (Below.heap_alloc w o p h.ltp) (Below.heap_alloc w o m h.ltm)
theorem Ar.drew {w : World} {p m n : Nat} {c : Int} {f : Nat → Int} (h : Ar X w p m n c f) : Ar X w.drew p m n c f := h
theorem Ar.drewN {w : World} {p m n : Nat} {c : Int} {f : Nat → Int} (h : Ar X w p m n c f) (k : Nat) : Ar X (w.drewN k) p m n c f := h
theorem Ar.far {w : World} {p m n : Nat} {c : Int} {f : Nat → Int} (h : Ar X w p m n c f) {q : Addr} (h1 : p ≠ q.block) (h2 : m ≠ q.block) (u : Value) : Ar X (w.setCell q u) p m n c f :=
  h.keep (Below.heap_setCell w q u p h1) (Below.heap_setCell w q u m h2)
theorem Ar.below {w w' : World} {p m n B : Nat} {c : Int} {f : Nat → Int} (h : Ar X w p m n c f) (k : Below B w w') (h1 : p < B) (h2 : m < B) : Ar X w' p m n c f :=
  h.keep (k.block p h1) (k.block m h2)
theorem Ar.congr {w : World} {p m n : Nat} {c : Int} {f f' : Nat → Int} (h : Ar X w p m n c f) (e : ∀ i, i < n → f' i = f i) : Ar X w p m n c f' := ⟨h.1, h.2.1, h.2.2.congr e⟩
/-- the cost turned -/
theorem Ar.cost {w : World} {p m n : Nat} {c : Int} {f : Nat → Int} (h : Ar X w p m n c f) (c' : Int) : Ar X (w.setCell ⟨p, 1, none⟩ (.int .i64 c')) p m n c' f := by
  have hne := h.ne
  obtain ⟨hX, ⟨k, hk, r⟩, hr⟩ := h
  refine ⟨hX, ⟨k, ?_, r⟩, hr.far (q := ⟨p, 1, none⟩) (Ne.symm hne) _⟩
  have := heap_setCell_same w p 1 _ X.1 (.int .i64 c') hk
  simpa using this
/-- another field turned -/
theorem Ar.other {T : TypeId} {xs : List Value} {w : World} {p m n : Nat} {c : Int} {f : Nat → Int} (h : Ar (T, xs) w p m n c f) (i : Nat) (v : Value) : Ar (T, xs.set i v) (w.setCell ⟨p, i + 2, none⟩ v) p m n c f := by
  have hne := h.ne
  obtain ⟨hX, ⟨k, hk, r⟩, hr⟩ := h
  refine ⟨hX, ⟨k, ?_, r⟩, hr.far (q := ⟨p, i + 2, none⟩) (Ne.symm hne) _⟩
  have := heap_setCell_same w p (i + 2) _ T v hk
  simpa using this
/-- the bytes turned -/
theorem Ar.bytes {w w' : World} {p m n : Nat} {c : Int} {f f' : Nat → Int} (h : Ar X w p m n c f) (k : Only m m w w') (hr : Row w' m n f') : Ar X w' p m n c f' := by
  have hne := h.ne
  obtain ⟨hX, ⟨j, hk, r⟩, _⟩ := h
  exact ⟨hX, ⟨j, (k.block p (lt_of_heap hk) hne hne).trans hk, r⟩, hr⟩
theorem Ar.cells {w : World} {p m n : Nat} {c : Int} {f : Nat → Int} (h : Ar X w p m n c f) :
    ∃ k : Nat, w.cell? ⟨p, 0, none⟩ = some (.slice (some ⟨m, 0, none⟩) n k) ∧ w.cell? ⟨p, 1, none⟩ = some (.int .i64 c) ∧ w.frozen? ⟨p, 1, none⟩ = false ∧ n ≤ k ∧ k ≤ 9223372036854775807 := by
  obtain ⟨hX, ⟨k, hk, r⟩, _⟩ := h
  exact ⟨k, by rw [cell_of_row w p 0 _ X.1 (0, 0) hk]; rfl, by rw [cell_of_row w p 1 _ X.1 (0, 0) hk]; rfl, frozen_of_row w p 1 _ X.1 hk, r⟩
theorem Ar.field {w : World} {p m n : Nat} {c : Int} {f : Nat → Int} (h : Ar X w p m n c f) (i : Nat) (v : Value) (hv : X.2[i]? = some v) : w.cell? ⟨p, i + 2, none⟩ = some v ∧ w.frozen? ⟨p, i + 2, none⟩ = false := by
  obtain ⟨hX, ⟨k, hk, r⟩, _⟩ := h
  exact ⟨by rw [cell_of_row w p (i + 2) _ X.1 (0, 0) hk]; simpa using hv, frozen_of_row w p (i + 2) _ X.1 hk⟩

end

/-- A slice of bytes that is read: n bytes g 0, g 1, .. at A, in a block that is neither p nor m. -/
def Src (w : World) (p m : Nat) (A : Option Addr) (n : Nat) (g : Nat → Int) : Prop :=
  0 < n → ∃ b o : Nat, A = some ⟨b, o, none⟩ ∧ b ≠ p ∧ b ≠ m ∧ ∀ j, j < n → w.cell? ⟨b, o + j, none⟩ = some (.int .u8 (g j)) ∧ 0 ≤ g j ∧ g j ≤ 255
theorem Src.only {w w' : World} {p m n q r : Nat} {A : Option Addr} {g : Nat → Int} (h : Src w p m A n g) (k : Only q r w w') (hq : q = p ∨ q = m ∨ w.heap.size ≤ q) (hr : r = p ∨ r = m ∨ w.heap.size ≤ r) : Src w' p m A n g := by
  intro hn
  obtain ⟨b, o, hA, h1, h2, hc⟩ := h hn
  have hb : b < w.heap.size := block_lt_of_cell (hc 0 hn).1
  refine ⟨b, o, hA, h1, h2, fun j hj => ⟨?_, (hc j hj).2⟩⟩
  rw [k.cell (q := ⟨b, o + j, none⟩) hb (by simp only; omega) (by simp only; omega)]; exact (hc j hj).1
theorem Src.lo {w : World} {p m n : Nat} {A : Option Addr} {g : Nat → Int} (h : Src w p m A n g) {j : Nat} (hj : j < n) : 0 ≤ g j ∧ g j ≤ 255 := by
  obtain ⟨b, o, hA, h1, h2, hc⟩ := h (by omega); exact (hc j hj).2
theorem Src.of_row {w : World} {g n p m k : Nat} {f q : Nat → Int} (h : Row w g n f) (h1 : g ≠ p) (h2 : g ≠ m) (at_ : Nat) (hk : at_ + k ≤ n) (e : ∀ j, j < k → q j = f (at_ + j)) : Src w p m (some ⟨g, at_, none⟩) k q := by
  intro hn
  exact ⟨g, at_, rfl, h1, h2, fun j hj => ⟨by rw [e j hj]; exact h.at_ (by omega), by rw [e j hj]; exact h.lo (by omega)⟩⟩

/-- Block g has just k cells. -/
def Fit (w : World) (g k : Nat) : Prop := ∃ cs : Array Value, w.heap[g]? = some (.cells cs 5 (0, 0)) ∧ cs.size = k
theorem Fit.keep {w w' : World} {g k : Nat} (h : Fit w g k) (e : w'.heap[g]? = w.heap[g]?) : Fit w' g k := by obtain ⟨cs, h1, h2⟩ := h; exact ⟨cs, e.trans h1, h2⟩

/-- 'copy(dst, src)' where dst lies in a row of bytes and at least as long as src: n bytes go over. -/
theorem wpList_copy_bytes {P : Program} {w : World} {ops : Array Oper} {rest : List Oper} {o : Oper} {a : Act} {Q : Exit → Act → World → Prop} (hgd : o.guard = none) (d s : Operand) (dT sT : TypeId)
    (ho : o.op = .call { callee := .builtin .copy, args := #[d, s], argTypes := #[dT, sT] }) (hu : P.underlying dT = some (.slice 5)) (hsz : (P.info? 5).map (·.size) = some 1)
    (dp sp : Option Addr) (dLen dCap sLen sCap : Nat) (hd : a.eval d = .slice dp dLen dCap) (hs : a.eval s = .slice sp sLen sCap)
    (g off n p : Nat) (f q : Nat → Int) (hr : Row w g n f) (hle : sLen ≤ dLen) (hdp : 0 < dLen → dp = some ⟨g, off, none⟩) (hfit : off + sLen ≤ n) (hsrc : Src w p g sp sLen q)
    (h : ∀ w', Row w' g n (upd f off sLen q) → Only g g w w' → (∀ k, Fit w g k → Fit w' g k) → wpList P ops Q rest (a.put o.dst (.int .i64 sLen)) w') :
    wpList P ops Q (o :: rest) a w := by
  by_cases h0 : sLen = 0
  · subst h0
    refine wpList_copy_nothing hgd d s dT sT ho 5 hu hsz dp sp dLen dCap 0 sCap hd hs (Nat.zero_min _) ?_
    exact h w (by rw [upd_zero]; exact hr) (Only.refl _ _ _) (fun _ h => h)
  · obtain ⟨b, so, rfl, hbp, hbg, hc⟩ := hsrc (by omega)
    obtain rfl := hdp (by omega)
    have hr' := hr
    obtain ⟨cs, hh, hcs⟩ := hr
    have hcsz : n ≤ cs.size := by
      rcases Nat.eq_zero_or_pos n with h | h
      · omega
      · have := (Array.getElem?_eq_some_iff.1 (hcs (n - 1) (by omega)).1).1; omega
    have hlen : ((List.range sLen).map fun j => Value.int .u8 (q j)).length = sLen := by simp
    refine wpList_copy_own hgd d s dT sT ho 5 hu hsz g off dLen dCap ⟨b, so, none⟩ sLen sCap hd hs cs 5 hh ((List.range sLen).map fun j => Value.int .u8 (q j)) (by rw [hlen]; exact (Nat.min_eq_left hle).symm) ?_ ?_ ?_ ?_
    · intro j v hj
      have hjl : j < sLen := by have := (List.getElem?_eq_some_iff.1 hj).1; simpa using this
      simp [List.getElem?_map, List.getElem?_range hjl] at hj
      subst hj
      have := (hc j hjl).1
      unfold Addr.add
      by_cases hj0 : j = 0
      · subst hj0; simpa using this
      · rw [if_neg hj0]; exact this
    · rw [hlen]; omega
    · intro v hv; simp at hv; obtain ⟨j, _, rfl⟩ := hv; rfl
    · rw [hlen]
      refine h _ ?_ ((Only.refl g g w).setRow (.inl rfl) _) ?_
      rotate_left
      · rintro k ⟨cs', h1, h2⟩
        rw [hh] at h1; injection h1 with h1; injection h1 with h1; subst h1
        refine ⟨_, setRow_heap w g _ _ 5 _ hh, ?_⟩
        simp; omega
      refine ⟨_, setRow_heap w g _ _ 5 _ hh, fun i hi => ?_⟩
      simp only [List.getElem?_toArray]
      by_cases h1 : i < off
      · rw [List.getElem?_append_left (by simp; omega), List.getElem?_take_of_lt h1, upd_out _ _ _ _ _ (by omega), Array.getElem?_toList]; exact hcs i hi
      · rw [List.getElem?_append_right (by simp; omega)]
        have e1 : (List.take off cs.toList).length = off := by simp; omega
        rw [e1]
        by_cases h2 : i < off + sLen
        · rw [List.getElem?_append_left (by simp; omega), upd_in _ _ _ _ _ (by omega) h2]
          refine ⟨?_, (hc (i - off) (by omega)).2⟩
          rw [List.getElem?_map, List.getElem?_range (by omega)]; rfl
        · rw [List.getElem?_append_right (by simp; omega), upd_out _ _ _ _ _ (by omega)]
          simp only [hlen, List.getElem?_drop, Array.getElem?_toList]
          have e2 : off + sLen + (i - off - sLen) = i := by omega
          rw [e2]; exact hcs i hi
end Go.Proofs.Ytneimdjgbblaoaa.R
