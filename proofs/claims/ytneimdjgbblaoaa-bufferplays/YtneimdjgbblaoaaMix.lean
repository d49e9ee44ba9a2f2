/- A region that draws its order, in which some operations make memory: one walk in the order of the text serves every order. What is asked of the order is asked once, of three tables of numbers (what each operation waits for, where it puts its value, what it looks at). No Go text. -/
import Derived.Deep.Quiet
import Derived.Deep.RegionHeld3
import Derived.KernelRfl
namespace Go.Proofs.Ytneimdjgbblaoaa
open Go
section
variable {P : Program} {ops : Array Oper} {md : Region.Mode} {C : World → Prop}

abbrev Row := List Nat × Nat × List Nat
/-- what an operation waits for; where it puts its value (one more; 0: nowhere); what it looks at -/
def rowOf (md : Region.Mode) (ops : Array Oper) (o : Oper) : Row :=
  ((o.after.toList.filter (Region.binds md)).map (·.on), (match o.dst with | some d => d + 1 | none => 0), o.looksAt ops)
def apartT (r s : Row) : Bool :=
  (r.2.1 == 0 || (!s.2.2.contains (r.2.1 - 1) && !(s.2.1 == r.2.1))) && (s.2.1 == 0 || !r.2.2.contains (s.2.1 - 1))
/-- each row waits for earlier ones alone; of two rows the later one waits for the earlier one, or they are apart -/
def pairsB : Nat → List Row → Bool
  | _, [] => true
  | k, r :: rest => r.1.all (fun e => Nat.blt e k) && rest.all (fun s => s.1.contains k || apartT r s) && pairsB (k + 1) rest
/-- flags: true: this one comes up alone -/
def solesB : Nat → List Bool → List Row → Bool
  | _, [], _ => true
  | k, false :: fs, _ :: rest => solesB (k + 1) fs rest
  | k, true :: fs, _ :: rest => rest.all (fun s => s.1.any (fun e => Nat.ble k e)) && solesB (k + 1) fs rest
  | _, _ :: _, [] => false

theorem pairs_at : ∀ (T : List Row) (k : Nat), pairsB k T = true → ∀ i r, T[i]? = some r →
    (r.1.all (fun e => Nat.blt e (k + i)) = true) ∧ ∀ j s, i < j → T[j]? = some s → (s.1.contains (k + i) || apartT r s) = true
  | [], _, _, i, r, hi => by simp at hi
  | r0 :: rest, k, h, i, r, hi => by
    simp only [pairsB, Bool.and_eq_true] at h
    obtain ⟨⟨h1, h2⟩, h3⟩ := h
    cases i with
    | zero =>
      simp at hi
      subst hi
      refine ⟨h1, fun j s hj hs => ?_⟩
      cases j with
      | zero => omega
      | succ j =>
        simp at hs
        exact List.all_eq_true.1 h2 s (List.mem_of_getElem? hs)
    | succ i =>
      simp at hi
      obtain ⟨g1, g2⟩ := pairs_at rest (k + 1) h3 i r hi
      have e : k + 1 + i = k + (i + 1) := by omega
      rw [e] at g1 g2
      refine ⟨g1, fun j s hj hs => ?_⟩
      cases j with
      | zero => omega
      | succ j =>
        simp at hs
        exact g2 j s (by omega) hs

theorem mem_row {o : Oper} {k : Nat} (h : k ∈ (rowOf md ops o).1) : ∃ e ∈ o.after, Region.binds md e = true ∧ e.on = k := by
  simp only [rowOf, List.mem_map, List.mem_filter] at h
  obtain ⟨e, ⟨h1, h2⟩, h3⟩ := h
  exact ⟨e, by simpa using h1, h2, h3⟩
theorem row_mem {o : Oper} {e : Edge} (h : e ∈ o.after) (hb : Region.binds md e = true) : e.on ∈ (rowOf md ops o).1 := by
  simp only [rowOf, List.mem_map, List.mem_filter]
  exact ⟨e, ⟨by simpa using h, hb⟩, rfl⟩

theorem apart_row {x y : Oper} (h : apartT (rowOf md ops x) (rowOf md ops y) = true) : x.apart ops y = true := by
  unfold apartT rowOf at h
  unfold Oper.apart
  simp only [Bool.and_eq_true, Bool.or_eq_true] at h
  obtain ⟨h1, h2⟩ := h
  simp only [Bool.and_eq_true]
  constructor
  · cases hx : x.dst with
    | none => rfl
    | some d =>
      simp only [hx] at h1
      rcases h1 with h1 | h1
      · simp at h1
      · simp only [Nat.add_sub_cancel] at h1
        have h3 := h1.2
        simp only [h1.1, Bool.true_and]
        cases hy : y.dst with
        | none => rfl
        | some e =>
          simp only [hy] at h3
          have : ¬ e + 1 = d + 1 := by simpa using h3
          have hne : ¬ e = d := fun h => this (by rw [h])
          simp [hne]
  · cases hy : y.dst with
    | none => rfl
    | some d =>
      simp only [hy] at h2
      rcases h2 with h2 | h2
      · simp at h2
      · simpa using h2

/-- the tables tell what the order wants -/
structure Fits (md : Region.Mode) (ops : Array Oper) : Prop where
  sel : Region.noSelect ops = true
  back : ∀ (k : Nat) (o : Oper), ops[k]? = some o → ∀ e ∈ o.after, Region.binds md e = true → e.on < k
  part : ∀ (k j : Nat) (x y : Oper), k < j → ops[k]? = some x → ops[j]? = some y → (∀ e ∈ y.after, Region.binds md e = true → e.on ≠ k) → x.apart ops y = true

theorem fits_of {T : List Row} (hs : Region.noSelect ops = true) (hT : ops.toList.map (rowOf md ops) = T) (hp : pairsB 0 T = true) : Fits md ops := by
  subst hT
  have row : ∀ (k : Nat) (o : Oper), ops[k]? = some o → (ops.toList.map (rowOf md ops))[k]? = some (rowOf md ops o) := fun k o h => by simp [h]
  refine ⟨hs, fun k o h e he hb => ?_, fun k j x y hkj hx hy hn => ?_⟩
  · have := (pairs_at _ 0 hp k _ (row k o h)).1
    have h2 := List.all_eq_true.1 this e.on (row_mem he hb)
    simpa [Nat.blt_eq] using h2
  · have := (pairs_at _ 0 hp k _ (row k x hx)).2 j _ hkj (row j y hy)
    simp only [Nat.zero_add, Bool.or_eq_true] at this
    rcases this with h | h
    · obtain ⟨e, he, hb, ho⟩ := mem_row (by simpa using h : k ∈ (rowOf md ops y).1)
      exact absurd ho (hn e he hb)
    · exact apart_row h

/-- just the first k have come up -/
def Upto (N : Nat) (listed : Array Bool) (k : Nat) : Prop := listed.size = N ∧ ∀ j, j < N → listed.getD j true = decide (j < k)
theorem upto_zero (N : Nat) : Upto N (Array.replicate N false) 0 := ⟨by simp, fun j hj => by simp [hj]⟩
theorem Upto.next {N k : Nat} {listed : Array Bool} (h : Upto N listed k) (hk : k < N) : Upto N (listed.setIfInBounds k true) (k + 1) := by
  refine ⟨by simp [h.1], fun j hj => ?_⟩
  by_cases e : j = k
  · subst e
    have : j < listed.size := by rw [h.1]; exact hk
    simp [this]
  · rw [getD_set_ne true (Ne.symm e), h.2 j hj]
    have : (j < k) = (j < k + 1) := by simp; omega
    simp [this]
theorem Upto.isf {N k j : Nat} {listed : Array Bool} (h : Upto N listed k) (hj : j < N) : listed.getD j false = decide (j < k) := by
  have h1 := h.2 j hj
  have h2 : j < listed.size := by rw [h.1]; exact hj
  simpa [h2] using h1
theorem lt_ops {k : Nat} {o : Oper} (h : ops[k]? = some o) : k < ops.size := (Array.getElem?_eq_some_iff.1 h).1
theorem Upto.ready {k : Nat} {listed : Array Bool} {o : Oper} (F : Fits md ops) (h : Upto ops.size listed k) (hk : ops[k]? = some o) : k ∈ Region.ready md ops listed := by
  have hlt := lt_ops hk
  refine mem_ready.2 ⟨by rw [h.2 k hlt]; simp, o, hk, fun e he hb => ?_⟩
  have := F.back k o hk e he hb
  rw [h.isf (by omega)]
  simpa using this
theorem Upto.later {k j : Nat} {listed : Array Bool} (h : Upto ops.size listed k) (hj : j ∈ Region.ready md ops listed) : k ≤ j ∧ j < ops.size := by
  obtain ⟨h0, o, ho, _⟩ := mem_ready.1 hj
  have hlt := lt_ops ho
  rw [h.2 j hlt] at h0
  exact ⟨by simpa using h0, hlt⟩
theorem Upto.free {k : Nat} {listed : Array Bool} {x : Oper} (F : Fits md ops) (h : Upto ops.size listed k) (hk : ops[k]? = some x) (j : Nat) (y : Oper) (hj : ops[j]? = some y)
    (hne : j ≠ k) (h0 : listed.getD j true = false) (hn : ∀ e ∈ y.after, Region.binds md e = true → e.on ≠ k) : x.apart ops y = true := by
  rw [h.2 j (lt_ops hj)] at h0
  have : ¬ j < k := by simpa using h0
  exact F.part k j x y (by omega) hk hj hn

/-- the quiet end: from number k on -/
theorem quiet_from {Qa : Act → Prop} (F : Fits md ops) : ∀ (l : List Oper) (k : Nat) (listed : Array Bool) (a : Act), (∀ j, l[j]? = ops[k + j]?) →
    Upto ops.size listed k → wpQuiet P ops C Qa l a → wpAnyQ P md ops C Qa l.length listed a
  | [], k, listed, a, hl, hu, h => by
    refine ⟨List.eq_nil_iff_forall_not_mem.2 fun j hj => ?_, h⟩
    obtain ⟨h1, h2⟩ := hu.later hj
    have h3 : ops[k]? = none := by simpa using (hl 0).symm
    simp at h3
    omega
  | o :: l, k, listed, a, hl, hu, h => by
    have h0 : ops[k]? = some o := by simpa using (hl 0).symm
    have hst : qOp P ops C k (wpQuiet P ops C Qa l) a := by unfold qOp; simp only [h0]; exact h
    obtain ⟨v, hy, hK⟩ := yieldsIn_of_qOp h0 hst
    exact wpAnyQ_first h0 (Region.noSelect_spec F.sel) l.length listed a (fun j y hj hne h1 hn => hu.free F h0 j y hj hne h1 hn) (hu.ready F h0) hy
      (quiet_from F l (k + 1) _ _ (fun j => by have := hl (j + 1); simpa [Nat.add_assoc, Nat.add_comm 1 j] using this) (hu.next (lt_ops h0)) hK)
theorem held_of_quiet {Qa : Act → Prop} {Q' : Exit → Act → World → Prop} (hQ : ∀ a w, C w → Qa a → Q' .normal a w) : ∀ (fuel : Nat) (listed : Array Bool) (a : Act) (w : World), C w →
    wpAnyQ P md ops C Qa fuel listed a → wpAnyH P md ops Q' C fuel listed a w
  | 0, _, _, _, hw, h => ⟨h.1, hQ _ _ hw h.2⟩
  | fuel + 1, _, _, _, hw, h => ⟨fun h0 => hQ _ _ hw (h.1 h0), fun i hi => wpOp_of_qOp hw (fun a' w' hw' hk => ⟨hw', held_of_quiet hQ fuel _ a' w' hw' hk⟩) (h.2 i hi)⟩

/-- THE WALK: false: an operation that yields its value in every world of C; true: one that comes up alone, carried out in the world at hand; behind the flags all is quiet in C. -/
def wpMix (P : Program) (ops : Array Oper) (C : World → Prop) (Q : Exit → Act → World → Prop) : List Bool → List Oper → Act → World → Prop
  | [], l, a, w => (l = [] ∧ Q .normal a w) ∨ wpQuiet P ops C (fun a' => ∀ w', C w' → Q .normal a' w') l a
  | false :: fs, o :: l, a, w => ∃ v, YieldsIf P ops C o v a ∧ wpMix P ops C Q fs l (a.put o.dst v) w
  | true :: fs, o :: l, a, w => Region.wanted o (yielded ops a.tmps) = true ∧ o.wp P a w (fun a' w' => C w' ∧ wpMix P ops C Q fs l a' w') (NoPanic Q)
  | _ :: _, [], _, _ => False

theorem held_of_mix {Q : Exit → Act → World → Prop} (F : Fits md ops) : ∀ (fs : List Bool) (l : List Oper) (k : Nat) (listed : Array Bool) (a : Act) (w : World), (∀ j, l[j]? = ops[k + j]?) →
    Upto ops.size listed k → C w → solesB k fs (l.map (rowOf md ops)) = true → wpMix P ops C Q fs l a w → wpAnyH P md ops (NoPanic Q) C l.length listed a w
  | [], l, k, listed, a, w, hl, hu, hw, _, h => by
    rcases h with ⟨rfl, h⟩ | h
    · refine ⟨List.eq_nil_iff_forall_not_mem.2 fun j hj => ?_, NoPanic.normal h⟩
      obtain ⟨h1, h2⟩ := hu.later hj
      have h3 : ops[k]? = none := by simpa using (hl 0).symm
      simp at h3
      omega
    · exact held_of_quiet (fun _ _ hw' h' => NoPanic.normal (h' _ hw')) _ _ _ _ hw (quiet_from F l k listed a hl hu h)
  | f :: fs, [], _, _, _, _, _, _, _, _, h => by cases f <;> exact h.elim
  | false :: fs, o :: l, k, listed, a, w, hl, hu, hw, hB, h => by
    have h0 : ops[k]? = some o := by simpa using (hl 0).symm
    obtain ⟨v, hy, hK⟩ := h
    simp only [List.map_cons, solesB] at hB
    exact wpAnyH_first h0 (Region.noSelect_spec F.sel) (fun _ _ _ h => h) l.length listed a w (fun j y hj hne h1 hn => hu.free F h0 j y hj hne h1 hn) (hu.ready F h0) hy hw
      (held_of_mix F fs l (k + 1) _ _ w (fun j => by have := hl (j + 1); simpa [Nat.add_assoc, Nat.add_comm 1 j] using this) (hu.next (lt_ops h0)) hw hB hK)
  | true :: fs, o :: l, k, listed, a, w, hl, hu, hw, hB, h => by
    have h0 : ops[k]? = some o := by simpa using (hl 0).symm
    simp only [List.map_cons, solesB, Bool.and_eq_true] at hB
    obtain ⟨hB1, hB2⟩ := hB
    obtain ⟨hwt, hK⟩ := h
    refine ⟨fun h1 => absurd (hu.ready F h0) (by rw [h1]; simp), fun i hi => ?_⟩
    have hik : i = k := by
      obtain ⟨g1, g2⟩ := hu.later hi
      rcases Nat.lt_or_ge k i with g | g
      · exfalso
        obtain ⟨_, y, hy, hall⟩ := mem_ready.1 hi
        have h3 : l[i - (k + 1)]? = some y := by
          have := hl (i - k)
          rw [show k + (i - k) = i by omega, hy] at this
          rw [show i - k = (i - (k + 1)) + 1 by omega] at this
          simpa using this
        have h4 : rowOf md ops y ∈ l.map (rowOf md ops) := List.mem_map.2 ⟨y, List.mem_of_getElem? h3, rfl⟩
        have h5 := List.all_eq_true.1 hB1 _ h4
        obtain ⟨e, he, hle⟩ := List.any_eq_true.1 h5
        obtain ⟨ed, hed, hb, rfl⟩ := mem_row he
        have h6 := hall ed hed hb
        have h7 : k ≤ ed.on := by simpa [Nat.ble_eq] using hle
        rcases Nat.lt_or_ge ed.on ops.size with g3 | g3
        · rw [hu.isf g3] at h6
          have : ed.on < k := by simpa using h6
          omega
        · have : listed.getD ed.on false = false := by
            have : listed.size ≤ ed.on := by rw [hu.1]; exact g3
            simp [Array.getElem?_eq_none this]
          rw [this] at h6; cases h6
      · omega
    subst hik
    unfold wpOp
    simp only [h0, hwt, if_true]
    refine .inl (Oper.wp_mono (fun a' w' h' => ⟨h'.1, ?_⟩) hK)
    exact held_of_mix F fs l (i + 1) _ a' w' (fun j => by have := hl (j + 1); simpa [Nat.add_assoc, Nat.add_comm 1 j] using this) (hu.next (lt_ops h0)) h'.1 hB2 h'.2

/-- ONE WALK OF THE TEXT's ORDER. -/
theorem wp_region_mix {id : Nat} {Q : Exit → Act → World → Prop} {a : Act} {w : World} {l : List Oper} (T : List Row) (fs : List Bool) (hm : P.follows .mixedOrders = true)
    (hs : Region.noSelect l.toArray = true) (hT : l.map (rowOf .any l.toArray) = T) (hp : pairsB 0 T = true) (hf : solesB 0 fs T = true) (hC : C w.drew)
    (h : wpMix P l.toArray C Q fs l a w.drew) : (Code.region id l.toArray true).wp P Q a w := by
  refine wp_region_noPanic (wp_region_held (S := C) hm ?_)
  have F : Fits .any l.toArray := fits_of hs (by simpa using hT) hp
  have := held_of_mix (P := P) (C := C) (Q := Q) F fs l 0 (Array.replicate l.toArray.size false) a w.drew (fun j => by simp) (upto_zero _) hC (by rw [hT]; exact hf) h
  simpa using this

/-! ### the walk's steps -/
section
variable {Q : Exit → Act → World → Prop} {Qa : Act → Prop} {a : Act} {w : World} {o : Oper} {l : List Oper} {fs : List Bool}
theorem mix_free (v : Value) (hw : Region.wanted o (yielded ops a.tmps) = true) (hy : ∀ Z, C Z → (execOp a.eval o).run P Z = .ok (.value v) Z) (h : wpMix P ops C Q fs l (a.put o.dst v) w) : wpMix P ops C Q (false :: fs) (o :: l) a w :=
  ⟨v, .inl ⟨hw, hy⟩, h⟩
theorem mix_alone (hw : Region.wanted o (yielded ops a.tmps) = true) (h : o.wp P a w (fun a' w' => C w' ∧ wpMix P ops C Q fs l a' w') (NoPanic Q)) : wpMix P ops C Q (true :: fs) (o :: l) a w := ⟨hw, h⟩
theorem quiet_free (v : Value) (hw : Region.wanted o (yielded ops a.tmps) = true) (hy : ∀ Z, C Z → (execOp a.eval o).run P Z = .ok (.value v) Z) (h : wpQuiet P ops C Qa l (a.put o.dst v)) : wpQuiet P ops C Qa (o :: l) a :=
  wpQuiet_step fun K hK => by
    rw [if_pos hw]
    exact ⟨v, fun Z hZ => by unfold Oper.quietAt; rw [hy Z hZ]; exact ⟨rfl, rfl⟩, hK _ h⟩
theorem quiet_skip (hw : Region.wanted o (yielded ops a.tmps) = false) (h : wpQuiet P ops C Qa l (a.put o.dst undef)) : wpQuiet P ops C Qa (o :: l) a :=
  wpQuiet_step fun K hK => by
    rw [if_neg (by simp [hw])]
    exact hK _ h
theorem quiet_call (v : Value) (f : Nat) (args : Array Value) (hw : Region.wanted o (yielded ops a.tmps) = true) (he : ∀ Z, C Z → (execOp a.eval o).run P Z = .ok (.enter f args) Z)
    (hy : ∀ Z, C Z → Calls P f args Z (fun e Z' => e = .returned v ∧ C Z')) (h : wpQuiet P ops C Qa l (a.put o.dst v)) : wpQuiet P ops C Qa (o :: l) a :=
  wpQuiet_step fun K hK => by
    rw [if_pos hw]
    exact ⟨v, fun Z hZ => by unfold Oper.quietAt; rw [he Z hZ]; exact ⟨rfl, hy Z hZ⟩, hK _ h⟩
/-- the quiet end behind a structure: a goal that whnf does not open (where a guard is not met, it would run on through all that follows) -/
structure WQ (P : Program) (ops : Array Oper) (C : World → Prop) (Qa : Act → Prop) (l : List Oper) (a : Act) : Prop where
  out : wpQuiet P ops C Qa l a
theorem wq_start (h : WQ P ops C (fun a' => ∀ w', C w' → Q .normal a' w') l a) : wpMix P ops C Q [] l a w := .inr h.out
/-- all is done: the world is the one at hand -/
theorem mix_end (h : Q .normal a w) : wpMix P ops C Q [] [] a w := .inl ⟨rfl, h⟩
theorem wq_free (v : Value) (hw : Region.wanted o (yielded ops a.tmps) = true) (hy : ∀ Z, C Z → (execOp a.eval o).run P Z = .ok (.value v) Z) (h : WQ P ops C Qa l (a.put o.dst v)) : WQ P ops C Qa (o :: l) a :=
  ⟨quiet_free v hw hy h.out⟩
theorem wq_skip (hw : Region.wanted o (yielded ops a.tmps) = false) (h : WQ P ops C Qa l (a.put o.dst undef)) : WQ P ops C Qa (o :: l) a := ⟨quiet_skip hw h.out⟩
theorem wq_call (v : Value) (f : Nat) (args : Array Value) (hw : Region.wanted o (yielded ops a.tmps) = true) (he : ∀ Z, C Z → (execOp a.eval o).run P Z = .ok (.enter f args) Z)
    (hy : ∀ Z, C Z → Calls P f args Z (fun e Z' => e = .returned v ∧ C Z')) (h : WQ P ops C Qa l (a.put o.dst v)) : WQ P ops C Qa (o :: l) a := ⟨quiet_call v f args hw he hy h.out⟩
theorem wq_nil (h : Qa a) : WQ P ops C Qa [] a := ⟨wpQuiet_nil h⟩
end
end
end Go.Proofs.Ytneimdjgbblaoaa
