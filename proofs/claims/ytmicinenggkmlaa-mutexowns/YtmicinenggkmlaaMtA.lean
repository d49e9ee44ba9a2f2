/- The mutexes in memory (package mtx): a block of 17 cells, a row of mutexes of four cells each, their queues; what is read of them. -/
import Derived.Test.YtmicinenggkmlaaConL
import Derived.Test.YtmicinenggkmlaaKdA
import Derived.Test.YtmicinenggkmlaaMtO
namespace Go.Proofs.Ytmicinenggkmlaa
open Go.RowKit
set_option linter.unusedVariables false
set_option maxRecDepth 100000

/-- Only the blocks of Z may have turned, and new ones may have come. -/
structure OnS (Z : Nat → Prop) (w w' : World) : Prop where
  os : w'.os = w.os
  tape : w'.tape = w.tape
  output : w'.output = w.output
  size : w.heap.size ≤ w'.heap.size
  block : ∀ k, k < w.heap.size → ¬ Z k → w'.heap[k]? = w.heap[k]?
theorem OnS.refl (Z : Nat → Prop) (w : World) : OnS Z w w := ⟨rfl, rfl, rfl, Nat.le_refl _, fun _ _ _ => rfl⟩
theorem OnS.trans {Z : Nat → Prop} {a b c : World} (h : OnS Z a b) (k : OnS Z b c) : OnS Z a c :=
  ⟨k.os.trans h.os, k.tape.trans h.tape, k.output.trans h.output, Nat.le_trans h.size k.size,
   fun i hi h1 => (k.block i (Nat.lt_of_lt_of_le hi h.size) h1).trans (h.block i hi h1)⟩
theorem OnS.of_below {Z : Nat → Prop} {w w' : World} (h : Below w.heap.size w w') : OnS Z w w' := ⟨h.os, h.tape, h.output, h.size, fun k hk _ => h.block k hk⟩
theorem OnS.at_ {Z : Nat → Prop} {p : Nat} {w w' : World} (h : Only p w w') (hp : Z p) : OnS Z w w' := ⟨h.os, h.tape, h.output, h.size, fun k hk h1 => h.block k hk (fun e => h1 (e ▸ hp))⟩
theorem OnS.alloc {Z : Nat → Prop} {a w : World} (h : OnS Z a w) (o : Obj) : OnS Z a (w.alloc o) := h.trans (.of_below ((Below.refl _ _).alloc (Nat.le_refl _) o))
theorem OnS.drewN {Z : Nat → Prop} {a w : World} (h : OnS Z a w) (n : Nat) : OnS Z a (w.drewN n) := ⟨h.os, h.tape, h.output, h.size, h.block⟩
theorem OnS.below {Z : Nat → Prop} {w w' : World} {B : Nat} (h : OnS Z w w') (h0 : B ≤ w.heap.size) (h1 : ∀ k, Z k → B ≤ k) : Below B w w' :=
  ⟨h.os, h.tape, h.output, h.size, fun k hk => h.block k (by omega) (fun z => by have := h1 k z; omega)⟩

theorem htype {w : World} {g : Nat} {a b : Array Value} {s t : TypeId} {fr fs : Nat × Nat} (h : w.heap[g]? = some (.cells a s fr)) (k : w.heap[g]? = some (.cells b t fs)) : s = t := by
  rw [h] at k; injection k with k; injection k

abbrev PtrV (p : Nat) : Value := .pointer (some ⟨p, 0, none⟩)

/-- the mutexes: block a (the bases and the row), block g (the row's cells), their queues' blocks -/
structure Mx (w : World) (a g : Nat) (q : Nat → Nat) (S : St) : Prop where
  ha : ∃ (cs : Array Value) (X : Option Addr) (k : Nat), w.heap[a]? = some (.cells cs 66 (0, 0)) ∧ cs.size = 17 ∧ (∀ u : Nat, u < 16 → cs[u]? = some (.int .i64 (S.B ((u : Int) + 1)))) ∧
    cs[16]? = some (.slice X S.n k) ∧ S.n ≤ k ∧ k ≤ 9223372036854775807 ∧ (0 < S.n → X = some ⟨g, 0, none⟩)
  hg : 0 < S.n → ∃ ds : Array Value, w.heap[g]? = some (.cells ds 70 (0, 0)) ∧ ∀ i, i < S.n → ds[i * 4]? = some (.int .i64 (S.A i)) ∧ ds[i * 4 + 1]? = some (.int .i64 (S.C i)) ∧ ds[i * 4 + 2]? = some (.int .i64 (S.O i)) ∧ ds[i * 4 + 3]? = some (PtrV (q i))
  hl : ∀ i, i < S.n → Ln w (q i) 87 (S.bp i) (S.Q i)
  inj : ∀ i j, i < S.n → j < S.n → q i = q j → i = j

/-- its blocks -/
def Zp (a g : Nat) (q : Nat → Nat) (n : Nat) (k : Nat) : Prop := k = a ∨ (0 < n ∧ k = g) ∨ ∃ i, i < n ∧ k = q i

section
variable {w w' : World} {a g : Nat} {q : Nat → Nat} {S : St}

theorem Mx.lt (h : Mx w a g q S) : a < w.heap.size := by obtain ⟨cs, X, k, hh, _⟩ := h.ha; exact lt_of_heap hh
theorem Mx.keep (h : Mx w a g q S) (k : ∀ b, (b = a ∨ (0 < S.n ∧ b = g) ∨ ∃ i, i < S.n ∧ b = q i) → w'.heap[b]? = w.heap[b]?) : Mx w' a g q S := by
  obtain ⟨cs, X, c, h1, h2⟩ := h.ha
  refine ⟨⟨cs, X, c, (k a (.inl rfl)).trans h1, h2⟩, fun h0 => ?_, fun i hi => (h.hl i hi).keep (k _ (.inr (.inr ⟨i, hi, rfl⟩))), h.inj⟩
  obtain ⟨ds, h3, h4⟩ := h.hg h0
  exact ⟨ds, (k g (.inr (.inl ⟨h0, rfl⟩))).trans h3, h4⟩
theorem Mx.below (h : Mx w a g q S) (k : Below w.heap.size w w') : Mx w' a g q S := h.keep fun b hb => by
  rcases hb with rfl | ⟨h0, rfl⟩ | ⟨i, hi, rfl⟩
  · exact k.block _ h.lt
  · obtain ⟨ds, h3, _⟩ := h.hg h0; exact k.block _ (lt_of_heap h3)
  · exact k.block _ (h.hl i hi).lt
theorem Mx.atype (h : Mx w a g q S) {e : TypeId} (he : e ≠ 66) : ∀ cs fr, w.heap[a]? ≠ some (.cells cs e fr) := by
  obtain ⟨cs, X, c, h1, h2⟩ := h.ha
  intro cs2 fr h3; exact he (htype h1 h3).symm
theorem Mx.gtype (h : Mx w a g q S) (h0 : 0 < S.n) {e : TypeId} (he : e ≠ 70) : ∀ cs fr, w.heap[g]? ≠ some (.cells cs e fr) := by
  obtain ⟨cs, h1, h2⟩ := h.hg h0
  intro cs2 fr h3; exact he (htype h1 h3).symm
theorem Mx.qtype (h : Mx w a g q S) {i : Nat} (hi : i < S.n) {e : TypeId} (he : e ≠ 87) : ∀ cs fr, w.heap[q i]? ≠ some (.cells cs e fr) := (h.hl i hi).type he
/-- what is read -/
theorem Mx.row (h : Mx w a g q S) : ∃ (X : Option Addr) (k : Nat), w.cell? ⟨a, 16, none⟩ = some (.slice X S.n k) ∧ S.n ≤ k ∧ k ≤ 9223372036854775807 ∧ (0 < S.n → X = some ⟨g, 0, none⟩) := by
  obtain ⟨cs, X, k, h1, h2, h3, h4, h5⟩ := h.ha
  exact ⟨X, k, by rw [cell_of_row w a 16 cs 66 (0, 0) h1]; exact h4, h5⟩
theorem Mx.base (h : Mx w a g q S) {u : Nat} (hu : u < 16) : w.cell? ⟨a, u, none⟩ = some (.int .i64 (S.B ((u : Int) + 1))) := by
  obtain ⟨cs, X, k, h1, h2, h3, h4, h5⟩ := h.ha
  rw [cell_of_row w a u cs 66 (0, 0) h1]; exact h3 u hu
theorem Mx.fza (h : Mx w a g q S) (i : Nat) : w.frozen? ⟨a, i, none⟩ = false := by
  obtain ⟨cs, X, k, h1, _⟩ := h.ha; exact frozen_of_row w a i cs 66 h1
theorem Mx.fzg (h : Mx w a g q S) (h0 : 0 < S.n) (i : Nat) : w.frozen? ⟨g, i, none⟩ = false := by
  obtain ⟨ds, h1, _⟩ := h.hg h0; exact frozen_of_row w g i ds 70 h1
theorem Mx.cells (h : Mx w a g q S) {i : Nat} (hi : i < S.n) : w.cell? ⟨g, i * 4, none⟩ = some (.int .i64 (S.A i)) ∧ w.cell? ⟨g, i * 4 + 1, none⟩ = some (.int .i64 (S.C i)) ∧ w.cell? ⟨g, i * 4 + 2, none⟩ = some (.int .i64 (S.O i)) ∧ w.cell? ⟨g, i * 4 + 3, none⟩ = some (PtrV (q i)) := by
  obtain ⟨ds, h1, h2⟩ := h.hg (by omega)
  rw [cell_of_row w g _ ds 70 (0, 0) h1, cell_of_row w g _ ds 70 (0, 0) h1, cell_of_row w g _ ds 70 (0, 0) h1, cell_of_row w g _ ds 70 (0, 0) h1]
  exact h2 i hi
/-- the holder is another -/
theorem Mx.setO (h : Mx w a g q S) {i : Nat} (hi : i < S.n) (v : Int) : Mx (w.setCell ⟨g, i * 4 + 2, none⟩ (.int .i64 v)) a g q { S with O := upd S.O i v } := by
  have hne : ∀ b, b ≠ g → (w.setCell ⟨g, i * 4 + 2, none⟩ (.int .i64 v)).heap[b]? = w.heap[b]? := fun b hb => Below.heap_setCell w ⟨g, i * 4 + 2, none⟩ _ b hb
  obtain ⟨cs, X, k, h1, h2⟩ := h.ha
  have hag : a ≠ g := by rintro rfl; exact h.gtype (by omega) (e := 66) (by decide) _ _ h1
  obtain ⟨ds, h3, h4⟩ := h.hg (by omega)
  have hq : ∀ j, j < S.n → q j ≠ g := fun j hj e => by
    have := h.qtype hj (e := 70) (by decide) ds (0, 0)
    rw [e] at this; exact this h3
  refine ⟨⟨cs, X, k, (hne a hag).trans h1, h2⟩, fun _ => ⟨ds.setIfInBounds (i * 4 + 2) (.int .i64 v), heap_setCell_same w g _ ds 70 _ h3, fun j hj => ?_⟩, fun j hj => (h.hl j hj).keep (hne _ (hq j hj)), h.inj⟩
  obtain ⟨e1, e2, e3, e4⟩ := h4 j hj
  have hsz : i * 4 + 2 < ds.size := (Array.getElem?_eq_some_iff.1 (h4 i hi).2.2.1).1
  refine ⟨by rw [Array.getElem?_setIfInBounds_ne (by omega)]; exact e1, by rw [Array.getElem?_setIfInBounds_ne (by omega)]; exact e2, ?_, by rw [Array.getElem?_setIfInBounds_ne (by omega)]; exact e4⟩
  simp only
  by_cases c : j = i
  · subst c; rw [upd_at, Array.getElem?_setIfInBounds_self_of_lt hsz]
  · rw [upd_ne _ _ c, Array.getElem?_setIfInBounds_ne (by omega)]; exact e3
theorem Mx.setB (h : Mx w a g q S) {u : Nat} (hu : u < 16) {t : Int} (ht : t = (u : Int) + 1) (v : Int) : Mx (w.setCell ⟨a, u, none⟩ (.int .i64 v)) a g q (setB S t v) := by
  have hne : ∀ b, b ≠ a → (w.setCell ⟨a, u, none⟩ (.int .i64 v)).heap[b]? = w.heap[b]? := fun b hb => Below.heap_setCell w ⟨a, u, none⟩ _ b hb
  obtain ⟨cs, X, k, h1, h2, h3, h4, h5⟩ := h.ha
  have hq : ∀ j, j < S.n → q j ≠ a := fun j hj e => by
    have := h.qtype hj (e := 66) (by decide) cs (0, 0)
    rw [e] at this; exact this h1
  refine ⟨⟨cs.setIfInBounds u (.int .i64 v), X, k, heap_setCell_same w a u cs 66 _ h1, by simpa using h2, fun j hj => ?_, by rw [Array.getElem?_setIfInBounds_ne (by omega)]; exact h4, h5⟩, fun h0 => ?_, fun j hj => (h.hl j hj).keep (hne _ (hq j hj)), h.inj⟩
  · unfold Ytmicinenggkmlaa.setB
    simp only
    by_cases c : j = u
    · subst c; rw [if_pos (by omega), Array.getElem?_setIfInBounds_self_of_lt (by omega)]
    · rw [if_neg (by omega), Array.getElem?_setIfInBounds_ne (by omega)]; exact h3 j hj
  · obtain ⟨ds, h6, h7⟩ := h.hg h0
    have : g ≠ a := by rintro rfl; exact h.gtype h0 (e := 66) (by decide) _ _ h1
    exact ⟨ds, (hne g this).trans h6, h7⟩
/-- one queue turned -/
theorem Mx.turn (h : Mx w a g q S) {i : Nat} (hi : i < S.n) {L : List It} (k : Only (q i) w w') (hl : Ln w' (q i) 87 (S.bp i) L) : Mx w' a g q { S with Q := upd S.Q i L } := by
  obtain ⟨cs, X, c, h1, h2⟩ := h.ha
  refine ⟨⟨cs, X, c, (k.block a h.lt ?_).trans h1, h2⟩, fun h0 => ?_, fun j hj => ?_, h.inj⟩
  · rintro rfl; exact h.qtype hi (e := 66) (by decide) _ _ h1
  · obtain ⟨ds, h6, h7⟩ := h.hg h0
    refine ⟨ds, (k.block g (lt_of_heap h6) ?_).trans h6, h7⟩
    rintro rfl; exact h.qtype hi (e := 70) (by decide) _ _ h6
  · simp only
    by_cases e : j = i
    · subst e; rw [upd_at]; exact hl
    · rw [upd_ne _ _ e]; exact (h.hl j hj).only k (fun e2 => e (h.inj j i hj hi e2))
end

set_option maxHeartbeats 400000 in
theorem isTask_any (x : Int) (w : World) (r : Bool) (hr : decide (isT x) = r) :
    Calls Try.prog 45 #[.int .i64 x] w fun e w' => e = .returned (.bool r) ∧ w = w' := by
  subst hr
  by_cases c1 : 1 ≤ x
  · have e : decide (isT x) = decide (x ≤ 16) := decide_eq_decide.2 (by unfold isT; omega)
    rw [e]
    go_enter Try.func45, Try.ntmps45
    go_wp2
    go_ret
    exact ⟨rfl, rfl⟩
  · have e : decide (isT x) = false := decide_eq_false (by unfold isT; omega)
    have t1 : decide (1 ≤ x) = false := by simpa using c1
    rw [e]
    go_enter Try.func45, Try.ntmps45
    go_wp2
    go_ret
    exact ⟨rfl, rfl⟩
set_option maxHeartbeats 400000 in
theorem isPri_any (x : Int) (w : World) (r : Bool) (hr : decide (1 ≤ x ∧ x ≤ 16) = r) :
    Calls Try.prog 52 #[.int .i64 x] w fun e w' => e = .returned (.bool r) ∧ w = w' := by
  subst hr
  by_cases c1 : 1 ≤ x
  · have e : decide (1 ≤ x ∧ x ≤ 16) = decide (x ≤ 16) := by simp [c1]
    rw [e]
    go_enter Try.func52, Try.ntmps52
    go_wp2
    go_ret
    exact ⟨rfl, rfl⟩
  · have e : decide (1 ≤ x ∧ x ≤ 16) = false := by simp [c1]
    have t1 : decide (1 ≤ x) = false := by simpa using c1
    rw [e]
    go_enter Try.func52, Try.ntmps52
    go_wp2
    go_ret
    exact ⟨rfl, rfl⟩
set_option maxHeartbeats 400000 in
theorem isMutex_any (a g : Nat) (q : Nat → Nat) (S : St) (m : Int) (w : World) (h : Mx w a g q S) (r : Bool) (hr : decide (isM S m) = r) :
    Calls Try.prog 44 #[PtrV a, .int .i64 m] w fun e w' => e = .returned (.bool r) ∧ w = w' := by
  subst hr
  obtain ⟨X, k, c16, _⟩ := h.row
  clear h
  by_cases c1 : 1 ≤ m
  · have e : decide (isM S m) = decide (m ≤ (S.n : Int)) := decide_eq_decide.2 (by unfold isM; omega)
    rw [e]
    generalize S.n = n at *
    go_enter Try.func44, Try.ntmps44
    go_wp2
    go_ret
    exact ⟨rfl, rfl⟩
  · have e : decide (isM S m) = false := decide_eq_false (by unfold isM; omega)
    have t1 : decide (1 ≤ m) = false := by simpa using c1
    rw [e]
    generalize S.n = n at *
    go_enter Try.func44, Try.ntmps44
    go_wp2
    go_ret
    exact ⟨rfl, rfl⟩
set_option maxHeartbeats 800000 in
theorem over_any (S : St) (i : Nat) (p o : Int) (v : Value) (w : World) (r : Bool) (hr : decide (over S i p) = r) :
    Calls Try.prog 46 #[.agg #[.int .i64 (S.A i), .int .i64 (S.C i), .int .i64 o, v], .int .i64 p] w fun e w' => e = .returned (.bool r) ∧ Below w.heap.size w w' := by
  subst hr
  by_cases c1 : S.A i = 3
  · have e : decide (over S i p) = decide (p < S.C i) := decide_eq_decide.2 (by unfold over; omega)
    rw [e, c1]
    generalize S.C i = y at *
    go_enter Try.func46, Try.ntmps46
    go_wp2
    go_ret
    exact ⟨rfl, (Below.refl _ _).alloc (Nat.le_refl _) _⟩
  · have e : decide (over S i p) = false := decide_eq_false (by unfold over; omega)
    have t1 : (S.A i == 3) = false := by simpa using c1
    rw [e]
    generalize S.A i = x at *
    generalize S.C i = y at *
    go_enter Try.func46, Try.ntmps46
    go_wp2
    go_ret
    exact ⟨rfl, (Below.refl _ _).alloc (Nat.le_refl _) _⟩
/-- is a kind permitted -/
def okK (x y : Int) : Prop := if x = 3 then 1 ≤ y ∧ y ≤ 16 else 0 ≤ x ∧ x < 3 ∧ y = 0
instance (x y : Int) : Decidable (okK x y) := by unfold okK; infer_instance
set_option maxHeartbeats 800000 in
theorem allowed_any (x y : Int) (w : World) (r : Bool) (hr : decide (okK x y) = r) :
    Calls Try.prog 34 #[.agg #[.int .i64 x, .int .i64 y]] w fun e w' => e = .returned (.bool r) ∧ Below w.heap.size w w' := by
  by_cases c1 : x = 3
  · subst c1
    have e : decide (1 ≤ y ∧ y ≤ 16) = r := by rw [← hr]; exact decide_eq_decide.2 (by unfold okK; rw [if_pos rfl])
    clear hr
    go_enter Try.func34, Try.ntmps34
    go_wp2_with fail
    refine (isPri_any y _ r e).mono ?_
    rintro e1 w1 ⟨rfl, rfl⟩
    go_wp2
    go_ret
    exact ⟨rfl, (Below.refl _ _).alloc (Nat.le_refl _) _⟩
  · have t1 : (x == 3) = false := by simpa using c1
    have e2 : okK x y ↔ 0 ≤ x ∧ x < 3 ∧ y = 0 := by unfold okK; rw [if_neg c1]
    subst hr
    by_cases a1 : 0 ≤ x
    · have u1 := decide_eq_true a1
      by_cases a2 : x < 3
      · have u2 := decide_eq_true a2
        have e : decide (okK x y) = (y == 0) := by rw [Bool.eq_iff_iff]; simp [e2, a1, a2]
        rw [e]
        clear e e2
        go_enter Try.func34, Try.ntmps34
        go_wp2
        go_ret
        exact ⟨rfl, (Below.refl _ _).alloc (Nat.le_refl _) _⟩
      · have u2 := decide_eq_false a2
        have e : decide (okK x y) = false := decide_eq_false (fun c => a2 (e2.1 c).2.1)
        rw [e]
        clear e e2
        go_enter Try.func34, Try.ntmps34
        go_wp2
        go_ret
        exact ⟨rfl, (Below.refl _ _).alloc (Nat.le_refl _) _⟩
    · have u1 := decide_eq_false a1
      have e : decide (okK x y) = false := decide_eq_false (fun c => a1 (e2.1 c).1)
      rw [e]
      clear e e2
      go_enter Try.func34, Try.ntmps34
      go_wp2
      go_ret
      exact ⟨rfl, (Below.refl _ _).alloc (Nat.le_refl _) _⟩

set_option maxHeartbeats 800000 in
theorem base_any (a g : Nat) (q : Nat → Nat) (S : St) (t : Int) (w : World) (h : Mx w a g q S) (r : Int) (hr : bas S t = r) :
    Calls Try.prog 33 #[PtrV a, .int .i64 t] w fun e w' => e = .returned (.int .i64 r) ∧ w = w' := by
  unfold bas at hr
  by_cases c : isT t
  · rw [if_pos c] at hr
    obtain ⟨u, hu⟩ : ∃ u : Nat, t - 1 = (u : Int) := ⟨(t - 1).toNat, by unfold isT at c; omega⟩
    have hu16 : u < 16 := by unfold isT at c; omega
    have c0 := h.base hu16
    rw [show (u : Int) + 1 = t by omega, hr] at c0
    have H1 := Lib.hid (isTask_any t w true (decide_eq_true c))
    clear h hr c
    go_enter Try.func33, Try.ntmps33
    go_wp2_with fail
    refine H1.out.mono ?_
    rintro e w1 ⟨rfl, rfl⟩
    go_wp2
    go_ret
    exact ⟨rfl, rfl⟩
  · rw [if_neg c] at hr
    subst hr
    have H1 := Lib.hid (isTask_any t w false (decide_eq_false c))
    clear h c
    go_enter Try.func33, Try.ntmps33
    go_wp2_with fail
    refine H1.out.mono ?_
    rintro e w1 ⟨rfl, rfl⟩
    go_wp2
    go_ret
    exact ⟨rfl, rfl⟩
set_option maxHeartbeats 800000 in
theorem owner_any (a g : Nat) (q : Nat → Nat) (S : St) (m : Int) (w : World) (h : Mx w a g q S) (r : Int) (hr : owns S m = r) :
    Calls Try.prog 30 #[PtrV a, .int .i64 m] w fun e w' => e = .returned (.int .i64 r) ∧ w = w' := by
  unfold owns at hr
  by_cases c : isM S m
  · rw [if_pos c] at hr
    obtain ⟨hi, hm⟩ := ix_of c
    have H1 := Lib.hid (isMutex_any a g q S m w h true (decide_eq_true c))
    obtain ⟨X, k, c16, _, _, hX⟩ := h.row
    obtain rfl := hX (by omega)
    obtain ⟨_, _, c2, _⟩ := h.cells hi
    rw [hr] at c2
    clear h hr c hX
    generalize ix m = i at *
    generalize S.n = n at *
    have hm' : m - 1 = (i : Int) := by omega
    clear hm
    go_enter Try.func30, Try.ntmps30
    go_wp2_with fail
    refine H1.out.mono ?_
    rintro e w1 ⟨rfl, rfl⟩
    go_wp2
    go_ret
    exact ⟨rfl, rfl⟩
  · rw [if_neg c] at hr
    subst hr
    have H1 := Lib.hid (isMutex_any a g q S m w h false (decide_eq_false c))
    clear h c
    go_enter Try.func30, Try.ntmps30
    go_wp2_with fail
    refine H1.out.mono ?_
    rintro e w1 ⟨rfl, rfl⟩
    go_wp2
    go_ret
    exact ⟨rfl, rfl⟩

set_option maxHeartbeats 1600000 in
theorem waits_any (a g : Nat) (q : Nat → Nat) (S : St) (t : Int) (w : World) (h : Mx w a g q S) (hf : Fine0 S) (r : Int) (hr : (if fi S t < S.n then ((fi S t + 1 : Nat) : Int) else 0) = r) :
    Calls Try.prog 47 #[PtrV a, .int .i64 t] w fun e w' => e = .returned (.int .i64 r) ∧ Below w.heap.size w w' := by
  obtain ⟨X, k, c16, _, _, hX⟩ := h.row
  have hn8 := hf.n8
  have HR := Lib.hid hr
  have HF := Lib.hid hf
  have HX := Lib.hid hX
  clear hr hf hX
  obtain ⟨n, hn⟩ : ∃ n, S.n = n := ⟨_, rfl⟩
  have HN := Lib.hid hn
  rw [hn] at c16 hn8
  clear hn
  go_enter Try.func47, Try.ntmps47
  go_wp2
  clear c16
  go_loopw [12] (fun i wr => ∃ v : Nat, v ≤ n ∧ i = .int .i64 (v : Int) ∧ (∀ j, j < v → ¬ inq S j t) ∧ Below w.heap.size w wr) (fun i _ => n - (intOf i).toNat)
  case atStart => exact ⟨0, Nat.zero_le _, rfl, fun j hj => absurd hj (by omega), Below.refl _ _⟩
  case round =>
    obtain ⟨v, hv, rfl, hno, hb⟩ := hrel
    have h2 := h.below hb
    have HB := Lib.hid hb
    have HO := Lib.hid hno
    clear h hno hb
    by_cases hlt : v < n
    · have hvn : v < S.n := by rw [HN.out]; exact hlt
      obtain rfl := HX.out (by omega)
      obtain ⟨d0, d1, d2, d3⟩ := h2.cells hvn
      have hl := h2.hl v hvn
      have hg := HF.out.gd v hvn
      have H2 := Lib.hid h2
      generalize q v = p at *
      generalize S.A v = xa at *
      generalize S.C v = xc at *
      generalize S.O v = xo at *
      clear h2
      go_wp2_with fail
      have hb2 := HB.out.alloc HB.out.size (.cells #[.int .i64 xa, .int .i64 xc, .int .i64 xo, PtrV p] 70)
      have hl2 := hl.alloc (.cells #[.int .i64 xa, .int .i64 xc, .int .i64 xo, PtrV p] 70)
      have HB2 := Lib.hid hb2
      by_cases c : inq S v t
      · refine (has_any p 87 (S.bp v) (S.Q v) _ hl2 hg.len t true (decide_eq_true (pos_inq.2 c))).mono ?_
        rintro e w2 ⟨rfl, hb3⟩
        have HB3 := Lib.hid (below_trans HB2.out hb3)
        have HC := Lib.hid c
        clear hl hg d0 d1 d2 d3 hb2 hl2 hb3 c
        go_wp2
        go_ret
        refine ⟨?_, HB3.out⟩
        rw [← HR.out, fi_eq hvn HC.out HO.out, if_pos hvn]
        go_num
      · refine (has_any p 87 (S.bp v) (S.Q v) _ hl2 hg.len t false (decide_eq_false (fun e => c (pos_inq.1 e)))).mono ?_
        rintro e w2 ⟨rfl, hb3⟩
        have HB3 := Lib.hid (below_trans HB2.out hb3)
        have HC := Lib.hid c
        clear hl hg d0 d1 d2 d3 hb2 hl2 hb3 c
        go_wp2
        go_roundw
        case rel =>
          refine ⟨v + 1, by omega, by go_num, fun j hj => ?_, HB3.out⟩
          by_cases e : j = v
          · subst e; exact HC.out
          · exact HO.out j (by omega)
        case measure => simp [intOf]; omega
    · clear h2
      go_wp2
      go_ret
      refine ⟨?_, HB.out⟩
      rw [← HR.out, fi_none fun j hj => HO.out j (by rw [HN.out] at hj; omega), if_neg (by omega)]
      rfl
end Go.Proofs.Ytmicinenggkmlaa
