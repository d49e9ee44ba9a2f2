/-
  The calls of detentlaw5.BitsPlays, opened: a slice of structs of two fields; the array beside the Map.
-/
import Derived.Test.YtdhemejipkaopaaDoorConL
import Derived.Deep.Slices
import Derived.Deep.Fields
import Derived.ChangeSlices
namespace Go.Proofs.YtdhemejipkaopaaDoor.bitsPlays
open Go.ChangeShapes Go.WideShapes Go.ChangeAt Go.RowKit Go.Deep
set_option linter.unusedVariables false

/-- numbers that came in, in a block below S -/
def SrcB (S : Nat) (w : World) (a : Option Addr) (L : List Int) : Prop :=
  0 < L.length → ∃ b o : Nat, a = some ⟨b, o, none⟩ ∧ b < S ∧ ∀ j x, L[j]? = some x → w.cell? ⟨b, o + j, none⟩ = some (.int .i64 x)
theorem SrcB.below {S : Nat} {w w' : World} {a : Option Addr} {L : List Int} (h : SrcB S w a L) (k : Below S w w') : SrcB S w' a L := fun h0 => by
  obtain ⟨b, o, h1, h2, h4⟩ := h h0
  exact ⟨b, o, h1, h2, fun j x hx => by rw [k.cell (p := ⟨b, o + j, none⟩) h2]; exact h4 j x hx⟩
theorem SrcB.src {S : Nat} {w : World} {a : Option Addr} {L : List Int} (h : SrcB S w a L) {p : Nat} (h1 : S ≤ w.heap.size) (h2 : S ≤ p) : Src p w a L := fun h0 => by
  obtain ⟨b, o, e, h3, h4⟩ := h h0
  exact ⟨b, o, e, by omega, by omega, h4⟩

/-- The calls, as they lie in memory: two cells each. -/
structure Acts (S : Nat) (w : World) (b o n : Nat) (op : Nat → Int) (PB : Nat → Option Addr) (PK : Nat → Nat) (ns : Nat → List Int) : Prop where
  c0 : ∀ i, i < n → w.cell? ⟨b, o + i * 2, none⟩ = some (.int .i64 (op i))
  c1 : ∀ i, i < n → w.cell? ⟨b, o + i * 2 + 1, none⟩ = some (.slice (PB i) (ns i).length (PK i))
  hp : ∀ i, i < n → SrcB S w (PB i) (ns i)
  hl : ∀ i, i < n → (ns i).length ≤ 9223372036854775807
  hlt : b < S
theorem Acts.below {S : Nat} {w w' : World} {b o n : Nat} {op : Nat → Int} {PB : Nat → Option Addr} {PK : Nat → Nat} {ns : Nat → List Int} (h : Acts S w b o n op PB PK ns) (k : Below S w w') : Acts S w' b o n op PB PK ns :=
  ⟨fun i hi => by rw [k.cell (p := ⟨b, o + i * 2, none⟩) h.hlt]; exact h.c0 i hi, fun i hi => by rw [k.cell (p := ⟨b, o + i * 2 + 1, none⟩) h.hlt]; exact h.c1 i hi, fun i hi => (h.hp i hi).below k, h.hl, h.hlt⟩

theorem spot_none {w : World} {a : Addr} {v : Value} (h : w.cell? a = some v) : a.spot = none := by
  obtain ⟨b, o, s⟩ := a
  cases s with
  | none => rfl
  | some q => simp [World.cell?] at h; split at h <;> simp at h
theorem add_zero' (a : Addr) : a.add 0 = a := by simp [Addr.add]
theorem cells31 : Tryd.prog.cellsOf 31 = 2 := by kernel_rfl
theorem cells3 : Tryd.prog.cellsOf 3 = 1 := by kernel_rfl
theorem cells29 : Tryd.prog.cellsOf 29 = 1 := by kernel_rfl

section
variable {H : Type} {enc : TypeId × Value → H} {W : World} {base : Nat} {spare : Nat → Bool} {held : Bool}

theorem ints_open {fuel : Nat} {v : Value} {x : DataW H × List MemPlace} (h : DataW.trod enc Tryd.prog W base spare held fuel 29 [v] = some x) :
    ∃ (B : Option Addr) (k : Nat) (l : List Int), v = .slice B l.length k ∧ SrcB W.heap.size W B l ∧ l.length ≤ 9223372036854775807 := by
  rcases open_ints Tryd.underlying29 Tryd.underlying3 (by kernel_rfl) h with ⟨hcs, _⟩ | ⟨a, len, cap, zs, hcs, _, hl, hm, hz, _, hcell, _⟩
  · simp only [List.cons.injEq, and_true] at hcs
    subst hcs
    exact ⟨none, 0, [], rfl, fun h => by simp at h, by simp⟩
  · simp only [List.cons.injEq, and_true] at hcs
    subst hcs
    have hlz : len ≤ zs.length := by rw [hz]; split <;> omega
    unfold maxLen at hm
    have hll : (zs.take len).length = len := by simp; omega
    refine ⟨some a, cap, zs.take len, by rw [hll], fun h0 => ?_, by rw [hll]; omega⟩
    rw [hll] at h0
    have hc0 := hcell 0 (by omega)
    rw [add_zero'] at hc0
    have hs := spot_none hc0
    have hb := lt_of_cell hc0
    obtain ⟨b, o, s⟩ := a
    simp only at hs hb
    subst hs
    refine ⟨b, o, rfl, by omega, fun j x hx => ?_⟩
    rw [List.getElem?_take] at hx
    split at hx
    · have := hcell j (by omega)
      rw [addr_add] at this
      rw [this, List.getD_eq_getElem?_getD, hx]; rfl
    · exact absurd hx (by simp)

/-- one call's reading -/
def Act1 (W : World) (cs : List Value) (y : Int × Option Addr × Nat × List Int) : Prop :=
  cs = [.int .i64 y.1, .slice y.2.1 y.2.2.2.length y.2.2.1] ∧ SrcB W.heap.size W y.2.1 y.2.2.2 ∧ y.2.2.2.length ≤ 9223372036854775807

theorem act_open {fuel : Nat} {cs : List Value} {x : DataW H × List MemPlace} (h : DataW.trod enc Tryd.prog W base spare held fuel 31 cs = some x) : ∃ y, Act1 W cs y := by
  obtain ⟨ys, n, _, rfl, hl, hlen, hf⟩ := DataW.trod_struct Tryd.underlying31 h
  rw [cells31] at hl
  match cs, hl with
  | [c0, c1], _ =>
    match ys, hlen with
    | [y0, y1], _ =>
      have f0 : DataW.trod enc Tryd.prog W base spare held n 3 (List.take (Tryd.prog.cellsOf 3) (List.drop 0 [c0, c1])) = some y0 := hf 0 _ rfl
      rw [cells3] at f0
      change DataW.trod enc Tryd.prog W base spare held n 3 [c0] = some y0 at f0
      have f1 : DataW.trod enc Tryd.prog W base spare held n 29 (List.take (Tryd.prog.cellsOf 29) (List.drop 1 [c0, c1])) = some y1 := hf 1 _ rfl
      rw [cells29] at f1
      change DataW.trod enc Tryd.prog W base spare held n 29 [c1] = some y1 at f1
      obtain ⟨x0, e0, _⟩ := DataW.trod_int Tryd.underlying3 (x := y0) f0
      obtain ⟨B, K, l, e1, hp, hpl⟩ := ints_open (x := y1) f1
      simp only [List.cons.injEq, and_true] at e0
      subst e0 e1
      exact ⟨⟨x0, B, K, l⟩, rfl, hp, hpl⟩

theorem acts_open {fuel : Nat} {v : Value} {x : DataW H × List MemPlace} (h : DataW.trod enc Tryd.prog W base spare held fuel 22 [v] = some x) :
    ∃ (A : Option Addr) (n cap b o : Nat) (op : Nat → Int) (PB : Nat → Option Addr) (PK : Nat → Nat) (ns : Nat → List Int),
      v = .slice A n cap ∧ n ≤ 9223372036854775807 ∧ (0 < n → A = some ⟨b, o, none⟩ ∧ Acts W.heap.size W b o n op PB PK ns) := by
  rcases open_slice (e := 31) Tryd.underlying22 h with ⟨hcs, rfl⟩ | ⟨a, len, cap, m, n, D, Pl, hcs, _, hl, hm, hmm, rfl, hel⟩
  · simp only [List.cons.injEq, and_true] at hcs
    subst hcs
    exact ⟨none, 0, 0, 0, 0, fun _ => 0, fun _ => none, fun _ => 0, fun _ => [], rfl, by omega, fun h => absurd h (by omega)⟩
  · simp only [List.cons.injEq, and_true] at hcs
    subst hcs
    unfold maxLen at hm
    have hlm : len ≤ m := by rw [hmm]; split <;> omega
    rw [cells31] at hel
    have hch : ∀ i, i < len → ∃ y, ∃ cs', W.cells? base (a.add (i * 2)) 2 = some cs' ∧ Act1 W cs' y := fun i hi => by
      obtain ⟨cs', h1, h2⟩ := hel i (by omega)
      obtain ⟨y, hy⟩ := act_open h2
      exact ⟨y, cs', h1, hy⟩
    obtain ⟨Y, hY⟩ := choose_lt hch
    have hcell : ∀ i, i < len → ∀ j, j < 2 → W.cell? (a.add (i * 2 + j)) = [Value.int .i64 (Y i).1, .slice (Y i).2.1 (Y i).2.2.2.length (Y i).2.2.1][j]? := fun i hi j hj => by
      obtain ⟨cs', h1, h2⟩ := hY i hi
      obtain ⟨_, _, h3⟩ := World.cells?_some h1
      have := h3 j hj
      rw [add_add, h2.1] at this
      exact this
    refine ⟨some a, len, cap, a.block, a.off, fun i => (Y i).1, fun i => (Y i).2.1, fun i => (Y i).2.2.1, fun i => (Y i).2.2.2, rfl, by omega, fun h0 => ?_⟩
    have hc0 := hcell 0 h0 0 (by omega)
    simp only [Nat.zero_mul, Nat.zero_add, add_zero'] at hc0
    have hs := spot_none hc0
    have hbl := lt_of_cell hc0
    obtain ⟨b, o, sp⟩ := a
    simp only at hs hbl
    subst hs
    simp only [addr_add] at hcell
    refine ⟨rfl, ⟨fun i hi => ?_, fun i hi => ?_, fun i hi => ?_, fun i hi => ?_, hbl⟩⟩
    · exact hcell i hi 0 (by omega)
    · exact hcell i hi 1 (by omega)
    · obtain ⟨cs', _, h2⟩ := hY i hi; exact h2.2.1
    · obtain ⟨cs', _, h2⟩ := hY i hi; exact h2.2.2
end

/-- the array of 258 bools in block g -/
def On (w : World) (g : Nat) (f : Nat → Bool) : Prop :=
  ∃ cs : Array Value, w.heap[g]? = some (.cells cs 28 (0, 0)) ∧ ∀ j, j < 258 → cs[j]? = some (.bool (f j))
theorem On.lt {w : World} {g : Nat} {f : Nat → Bool} (h : On w g f) : g < w.heap.size := by obtain ⟨cs, hh, _⟩ := h; exact lt_of_heap hh
theorem On.at_ {w : World} {g : Nat} {f : Nat → Bool} (h : On w g f) {j : Nat} (hj : j < 258) : w.cell? ⟨g, j, none⟩ = some (.bool (f j)) := by
  obtain ⟨cs, hh, hc⟩ := h; rw [cell_of_row w g j cs 28 (0, 0) hh]; exact hc j hj
theorem On.frozen {w : World} {g : Nat} {f : Nat → Bool} (h : On w g f) (j : Nat) : w.frozen? ⟨g, j, none⟩ = false := by
  obtain ⟨cs, hh, _⟩ := h; exact frozen_of_row w g j cs 28 hh
theorem On.keep {w w' : World} {g : Nat} {f : Nat → Bool} (h : On w g f) (k : w'.heap[g]? = w.heap[g]?) : On w' g f := by
  obtain ⟨cs, hh, r⟩ := h; exact ⟨cs, k.trans hh, r⟩
theorem On.set {w : World} {g : Nat} {f : Nat → Bool} (h : On w g f) (i : Nat) (x : Bool) (hi : i < 258) :
    On (w.setCell ⟨g, i, none⟩ (.bool x)) g (fun j => if j = i then x else f j) := by
  obtain ⟨cs, hh, hc⟩ := h
  have hsz : i < cs.size := (Array.getElem?_eq_some_iff.1 (hc i hi)).1
  refine ⟨cs.setIfInBounds i (.bool x), heap_setCell_same w g i cs 28 _ hh, fun j hj => ?_⟩
  by_cases e : j = i
  · subst e; simp [hsz]
  · have := hc j hj; simp [Ne.symm e, e, this]

/-- the Map, the array beside it, and what they have in common -/
structure Ps (w : World) (p g : Nat) (B F : Nat → Bool) (v : World) : Prop where
  a : Mp v p B
  o : ∃ f, On v g f ∧ ∀ q, 1 ≤ q → q ≤ 256 → f q = F q
  ne : p ≠ g
  lp : w.heap.size ≤ p
  lg : w.heap.size ≤ g
  tab : Tab v
  bel : Below w.heap.size w v
  pos : 0 < w.heap.size
theorem Ps.map {w : World} {p g : Nat} {B F B' : Nat → Bool} {v v' : World} (h : Ps w p g B F v) (k : Only p v v') (m : Mp v' p B') : Ps w p g B' F v' := by
  obtain ⟨f, ho, hf⟩ := h.o
  exact ⟨m, ⟨f, ho.keep (k.block g ho.lt (Ne.symm h.ne)), hf⟩, h.ne, h.lp, h.lg, h.tab.only k h.a.1, h.bel.trans (k.below h.bel.size h.lp), h.pos⟩
theorem Ps.below {w : World} {p g : Nat} {B F : Nat → Bool} {v v' : World} (h : Ps w p g B F v) (k : Below v.heap.size v v') : Ps w p g B F v' := by
  obtain ⟨f, ho, hf⟩ := h.o
  exact ⟨h.a.below k, ⟨f, ho.keep (k.block g ho.lt), hf⟩, h.ne, h.lp, h.lg, h.tab.below k, h.bel.trans (k.mono h.bel.size), h.pos⟩
theorem Ps.drewN {w : World} {p g : Nat} {B F : Nat → Bool} {v : World} (h : Ps w p g B F v) (n : Nat) : Ps w p g B F (v.drewN n) := h.below (below_drewN _ _ _)
/-- on[x] = b -/
theorem Ps.put {w : World} {p g : Nat} {B F : Nat → Bool} {v : World} (h : Ps w p g B F v) (x : Nat) (b : Bool) (hx : x ≤ 256) (F' : Nat → Bool) (hF : ∀ q, 1 ≤ q → q ≤ 256 → F' q = if q = x then b else F q) : Ps w p g B F' (v.setCell ⟨g, x, none⟩ (.bool b)) := by
  obtain ⟨f, ho, hf⟩ := h.o
  have k : Only g v (v.setCell ⟨g, x, none⟩ (.bool b)) := (Only.refl g v).setCell (q := ⟨g, x, none⟩) (.inl rfl) _
  have hg0 : g ≠ 0 := by have := h.lg; have := h.pos; omega
  exact ⟨h.a.only k h.ne, ⟨_, ho.set x b (by omega), fun q h1 h2 => by rw [hF q h1 h2]; by_cases e : q = x <;> simp [e, hf q h1 h2]⟩, h.ne, h.lp, h.lg, h.tab.only k hg0, h.bel.trans (k.below h.bel.size h.lg), h.pos⟩
end Go.Proofs.YtdhemejipkaopaaDoor.bitsPlays
