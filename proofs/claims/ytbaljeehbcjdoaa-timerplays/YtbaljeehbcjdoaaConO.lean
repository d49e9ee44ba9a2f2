/- Which entries are there, which were seen: for the law of those that are due once. -/
import Derived.Test.YtbaljeehbcjdoaaConN
namespace Go.Proofs.Ytbaljeehbcjdoaa
open Go.RowKit

/-- just those are there of which P holds -/
def Ch (q : Nat → Int) (n : Nat) (P : Nat → Prop) (S : List En) : Prop := ∀ x, x ∈ S ↔ ∃ i : Nat, i < n ∧ x = (q i, (i : Int) + 1, (i : Int)) ∧ P i
theorem ch_fil (q : Nat → Int) (n : Nat) : Ch q n (fun _ => True) (fil q n) := fun x => by
  rw [fil_mem]
  constructor
  · rintro ⟨i, h1, h2⟩; exact ⟨i, h1, h2, trivial⟩
  · rintro ⟨i, h1, h2, _⟩; exact ⟨i, h1, h2⟩
theorem Ch.of {q : Nat → Int} {n : Nat} {P : Nat → Prop} {S : List En} (h : Ch q n P S) : Of q n S := fun x hx => by
  obtain ⟨i, h1, h2, _⟩ := (h x).1 hx; exact ⟨i, h1, h2⟩
theorem Ch.congr {q : Nat → Int} {n : Nat} {P P' : Nat → Prop} {S : List En} (h : Ch q n P S) (e : ∀ i, i < n → (P i ↔ P' i)) : Ch q n P' S := fun x => by
  rw [h x]
  constructor
  · rintro ⟨i, h1, h2, h3⟩; exact ⟨i, h1, h2, (e i h1).1 h3⟩
  · rintro ⟨i, h1, h2, h3⟩; exact ⟨i, h1, h2, (e i h1).2 h3⟩
theorem Ch.mem {q : Nat → Int} {n : Nat} {P : Nat → Prop} {S : List En} (h : Ch q n P S) {i : Nat} (hi : i < n) : (q i, (i : Int) + 1, (i : Int)) ∈ S ↔ P i := by
  rw [h]
  constructor
  · rintro ⟨j, _, h2, h3⟩
    have e : (i : Int) = (j : Int) := congrArg (fun x : En => x.2.2) h2
    have e2 : i = j := by omega
    rw [e2]; exact h3
  · intro hp; exact ⟨i, hi, rfl, hp⟩
theorem Ch.del {q : Nat → Int} {n : Nat} {P : Nat → Prop} {S : List En} (h : Ch q n P S) (t : Nat) : Ch q n (fun i => P i ∧ i ≠ t) (del S ((t : Int) + 1)) := fun x => by
  rw [mem_del, h x]
  constructor
  · rintro ⟨⟨i, h1, h2, h3⟩, h4⟩
    refine ⟨i, h1, h2, h3, ?_⟩
    rintro rfl; exact h4 (by rw [h2])
  · rintro ⟨i, h1, h2, h3, h4⟩
    refine ⟨⟨i, h1, h2, h3⟩, ?_⟩
    rw [h2]
    show (i : Int) + 1 ≠ (t : Int) + 1
    omega
theorem Ch.rst {q : Nat → Int} {n : Nat} {P : Nat → Prop} {S : List En} (h : Ch q n P S) (hs : S.Pairwise lt) (v : Int) : Ch q n (fun i => P i ∧ v < q i) (rst S v) := fun x => by
  rw [mem_rst hs, h x]
  constructor
  · rintro ⟨⟨i, h1, h2, h3⟩, h4⟩
    rw [h2] at h4
    exact ⟨i, h1, h2, h3, h4⟩
  · rintro ⟨i, h1, h2, h3, h4⟩
    refine ⟨⟨i, h1, h2, h3⟩, ?_⟩
    rw [h2]; exact h4
theorem ch_has {q : Nat → Int} {n : Nat} {P : Nat → Prop} {S : List En} (h : Ch q n P S) (ha : S.Pairwise fun x y => x.2.1 ≠ y.2.1) {t : Nat} (ht : t < n) (hp : P t) : (fnd S ((t : Int) + 1)).isSome = true := by
  have := fnd_some ha ((h.mem ht).2 hp)
  have e : fnd S ((t : Int) + 1) = some (q t, (t : Int) + 1, (t : Int)) := this
  rw [e]; rfl

/-- one that is due, among those that are there -/
theorem due_once {q : Nat → Int} {n : Nat} {C : Nat → Bool} {S : List En} {v : Int} (hs : S.Pairwise lt) (hS : Ch q n (fun i => C i = false ∧ v ≤ q i) S) {t : Nat} (ht : t < (due S v).length) :
    ∃ i : Nat, i < n ∧ q i = v ∧ C i = false ∧ (args (due S v))[t]? = some (i : Int) ∧ (i : Int) ∉ (args (due S v)).take t := by
  have hm : ∀ x, x ∈ S → v ≤ x.1 := fun x hx => by
    obtain ⟨i, _, e, h⟩ := (hS x).1 hx
    rw [e]; exact h.2
  obtain ⟨i, hi, hq, hmem, hg, _⟩ := due_elem hs hS.of hm ht
  refine ⟨i, hi, hq, ((hS.mem hi).1 hmem).1, hg, fun hin => ?_⟩
  obtain ⟨k, hk, e⟩ := List.getElem_of_mem hin
  rw [List.length_take, args_len] at hk
  rw [List.getElem_take] at e
  have hkd : k < (due S v).length := by omega
  obtain ⟨i2, hi2, hq2, _, hg2, _⟩ := due_elem hs hS.of hm hkd
  have e2 : (args (due S v))[k]? = some (i : Int) := by rw [List.getElem?_eq_getElem (by rw [args_len]; exact hkd), e]
  rw [hg2] at e2
  injection e2 with e2
  have hp := List.pairwise_iff_getElem.1 (due_srt hs v) k t hkd ht (by omega)
  have a1 : (due S v)[k] ∈ S := ((mem_due hs v _).1 (List.getElem_mem hkd)).1
  have a2 : (due S v)[t] ∈ S := ((mem_due hs v _).1 (List.getElem_mem ht)).1
  obtain ⟨j1, _, f1⟩ := hS.of _ a1
  obtain ⟨j2, _, f2⟩ := hS.of _ a2
  have g1 : (j1 : Int) = (i2 : Int) := by
    have := args_get (due S v) k
    rw [hg2, List.getElem?_eq_getElem hkd, f1] at this
    injection this with this; exact this.symm
  have g2 : (j2 : Int) = (i : Int) := by
    have := args_get (due S v) t
    rw [hg, List.getElem?_eq_getElem ht, f2] at this
    injection this with this; exact this.symm
  rw [f1, f2] at hp
  have e3 : j1 = j2 := by omega
  subst e3
  unfold lt at hp
  omega
theorem args_due {q : Nat → Int} {n : Nat} {C : Nat → Bool} {S : List En} {v : Int} (hs : S.Pairwise lt) (hS : Ch q n (fun i => C i = false ∧ v ≤ q i) S) {j : Nat} (hj : j < n) : (j : Int) ∈ args (due S v) ↔ C j = false ∧ q j = v := by
  unfold args
  rw [List.mem_map]
  constructor
  · rintro ⟨x, hx, e⟩
    obtain ⟨h1, h2⟩ := (mem_due hs v x).1 hx
    obtain ⟨i, hi, e2, h3⟩ := (hS x).1 h1
    rw [e2] at e h2
    have e3 : i = j := by have : (i : Int) = (j : Int) := e; omega
    subst e3
    have h2' : q i ≤ v := h2
    exact ⟨h3.1, by omega⟩
  · rintro ⟨h1, h2⟩
    exact ⟨_, (mem_due hs v _).2 ⟨(hS.mem hj).2 ⟨h1, by omega⟩, by show q j ≤ v; omega⟩, rfl⟩

/-- what was seen -/
def Sn (n : Nat) (R : Nat → Prop) (f : Nat → Bool) : Prop := ∀ j, j < n → (f j = true ↔ R j)
theorem sn_step {n t i : Nat} {R : Nat → Prop} {f : Nat → Bool} {L : List Int} (h : Sn n (fun j => R j ∨ (j : Int) ∈ L.take t) f) (hi : L[t]? = some (i : Int)) : Sn n (fun j => R j ∨ (j : Int) ∈ L.take (t + 1)) (fun j => if j = i then true else f j) := by
  intro j hj
  have e : L.take (t + 1) = L.take t ++ [(i : Int)] := by
    rw [List.take_add_one, hi]; rfl
  rw [e]
  by_cases c : j = i
  · subst c; simp
  · simp only [if_neg c]
    rw [h j hj]
    have c2 : ¬ (j : Int) = (i : Int) := by omega
    simp [c2]

/-- the row of what was seen, in block g -/
def On (w : World) (g : Nat) (f : Nat → Bool) : Prop :=
  ∃ cs : Array Value, w.heap[g]? = some (.cells cs 57 (0, 0)) ∧ ∀ j, j < 100 → cs[j]? = some (.bool (f j))
theorem On.lt {w : World} {g : Nat} {f : Nat → Bool} (h : On w g f) : g < w.heap.size := by obtain ⟨cs, hh, _⟩ := h; exact lt_of_heap hh
theorem On.at_ {w : World} {g : Nat} {f : Nat → Bool} (h : On w g f) {j : Nat} (hj : j < 100) : w.cell? ⟨g, j, none⟩ = some (.bool (f j)) := by
  obtain ⟨cs, hh, hc⟩ := h; rw [cell_of_row w g j cs 57 (0, 0) hh]; exact hc j hj
theorem On.frozen {w : World} {g : Nat} {f : Nat → Bool} (h : On w g f) (j : Nat) : w.frozen? ⟨g, j, none⟩ = false := by
  obtain ⟨cs, hh, _⟩ := h; exact frozen_of_row w g j cs 57 hh
theorem On.keep {w w' : World} {g : Nat} {f : Nat → Bool} (h : On w g f) (k : w'.heap[g]? = w.heap[g]?) : On w' g f := by
  obtain ⟨cs, hh, r⟩ := h; exact ⟨cs, k.trans hh, r⟩
theorem On.set {w : World} {g : Nat} {f : Nat → Bool} (h : On w g f) (i : Nat) (x : Bool) (hi : i < 100) :
    On (w.setCell ⟨g, i, none⟩ (.bool x)) g (fun j => if j = i then x else f j) := by
  obtain ⟨cs, hh, hc⟩ := h
  have hsz : i < cs.size := (Array.getElem?_eq_some_iff.1 (hc i hi)).1
  refine ⟨cs.setIfInBounds i (.bool x), heap_setCell_same w g i cs 57 _ hh, fun j hj => ?_⟩
  by_cases e : j = i
  · subst e; simp [hsz]
  · have := hc j hj; simp [Ne.symm e, e, this]
theorem On.type {w : World} {g : Nat} {f : Nat → Bool} (h : On w g f) {e : TypeId} (he : e ≠ 57) : ∀ cs fr, w.heap[g]? ≠ some (.cells cs e fr) := by
  obtain ⟨cs, hh, _⟩ := h
  intro cs2 fr h2
  rw [hh] at h2; injection h2 with h2; injection h2 with _ h3; exact he h3.symm
/-- timers' blocks bear their types -/
theorem Tm.ne {w : World} {B p g z : Nat} {S : List En} {last : Int} (h : Tm w B p g S last) (h1 : ∀ cs fr, w.heap[z]? ≠ some (.cells cs 63 fr)) (h2 : ∀ cs fr, w.heap[z]? ≠ some (.cells cs 66 fr)) : z ≠ p ∧ z ≠ g := by
  obtain ⟨H, v, a1, a2, a3, a4, a5⟩ := h.row
  refine ⟨by rintro rfl; exact h1 _ _ a3, ?_⟩
  rcases a5 with a5 | ⟨_, rfl⟩
  · rcases a4.2 with ⟨e1, _⟩ | ⟨g', cap, cur, e1, _, e2, _⟩
    · rw [e1] at a5; cases a5
    · rw [e1] at a5; injection a5 with a5; subst a5; rintro rfl; exact h2 _ _ e2
  · rintro rfl; exact h1 _ _ a3
theorem On.ne {w : World} {B p g z : Nat} {S : List En} {last : Int} {f : Nat → Bool} (h : On w z f) (ht : Tm w B p g S last) : z ≠ p ∧ z ≠ g := ht.ne (h.type (by decide)) (h.type (by decide))

def zer : Array Value := Array.replicate 100 (.bool false)
theorem info57 : (Try.prog.info? 57).map (·.zero) = some (some (.agg zer)) := by kernel_rfl
theorem zero57 (W : World) : (zeroValue 57).run Try.prog W = .ok (.agg zer) W := by
  have h := info57
  cases hq : Try.prog.info? 57 with
  | none => simp [hq] at h
  | some i =>
    have hi : i.zero = some (.agg zer) := by simpa [hq] using h
    simp [zeroValue, typeInfo, hq, hi]
theorem on_new (w : World) : On (w.alloc (.cells zer 57)) w.heap.size (fun _ => false) :=
  ⟨zer, heap_alloc_new w _, fun j hj => by unfold zer; rw [Array.getElem?_replicate, if_pos hj]⟩
end Go.Proofs.Ytbaljeehbcjdoaa
