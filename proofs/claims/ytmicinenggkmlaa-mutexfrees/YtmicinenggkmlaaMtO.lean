/- Mutexes as plain functions: what each call makes of them, and that all stays in order. No Go here. -/
import Derived.Test.YtmicinenggkmlaaMtS
namespace Go.Proofs.Ytmicinenggkmlaa
set_option linter.unusedVariables false

theorem pos_inq {S : St} {i : Nat} {t : Int} : pos (S.Q i) t < (S.Q i).length ↔ inq S i t := pos_lt

/-- the mutex a task waits for; n: none -/
def fi (S : St) (t : Int) : Nat := (List.range S.n).findIdx (fun i => decide (pos (S.Q i) t < (S.Q i).length))
theorem fi_eq {S : St} {t : Int} {k : Nat} (hk : k < S.n) (h1 : inq S k t) (h2 : ∀ j, j < k → ¬ inq S j t) : fi S t = k := by
  unfold fi
  rw [List.findIdx_eq (by simpa using hk)]
  refine ⟨by simpa using pos_inq.2 h1, fun j hj => ?_⟩
  simp only [List.getElem_range, decide_eq_false_iff_not]
  exact fun c => h2 j hj (pos_inq.1 c)
theorem fi_none {S : St} {t : Int} (h : ∀ j, j < S.n → ¬ inq S j t) : fi S t = S.n := by
  unfold fi
  have e : (List.range S.n).findIdx (fun i => decide (pos (S.Q i) t < (S.Q i).length)) = (List.range S.n).length := by
    rw [List.findIdx_eq_length]
    intro x hx
    rw [List.mem_range] at hx
    simp only [decide_eq_false_iff_not]
    exact fun c => h x hx (pos_inq.1 c)
  rw [e, List.length_range]
theorem fi_le (S : St) (t : Int) : fi S t ≤ S.n := by
  have := List.findIdx_le_length (p := fun i => decide (pos (S.Q i) t < (S.Q i).length)) (xs := List.range S.n)
  simpa [fi] using this
theorem fi_at {S : St} {t : Int} (h : fi S t < S.n) : inq S (fi S t) t := by
  have h0 : (List.range S.n).findIdx (fun i => decide (pos (S.Q i) t < (S.Q i).length)) < (List.range S.n).length := by simpa [fi] using h
  have h2 := List.findIdx_getElem (p := fun i => decide (pos (S.Q i) t < (S.Q i).length)) (xs := List.range S.n) (w := h0)
  simp only [List.getElem_range, decide_eq_true_eq] at h2
  exact pos_inq.1 h2
theorem fi_out {S : St} {t : Int} (h : ¬ fi S t < S.n) {j : Nat} (hj : j < S.n) : ¬ inq S j t := fun c => by
  have h0 : ¬ (List.range S.n).findIdx (fun i => decide (pos (S.Q i) t < (S.Q i).length)) < (List.range S.n).length := by simpa [fi] using h
  refine h0 (List.findIdx_lt_length.2 ⟨j, by simpa using hj, ?_⟩)
  exact decide_eq_true (pos_inq.2 c)
theorem fi_in {S : St} (h : Fine0 S) {t : Int} {j : Nat} (hj : j < S.n) (hi : inq S j t) : fi S t = j := by
  by_cases c : fi S t < S.n
  · obtain ⟨x, hx, e⟩ := fi_at c
    obtain ⟨y, hy, e2⟩ := hi
    exact h.one _ _ c hj x y hx hy (by rw [e, e2])
  · exact absurd hi (fi_out c hj)

/-- the holder of what the holder waits for -/
def nx (S : St) (o : Int) : Int := if fi S o < S.n then S.O (fi S o) else 0
def itr (S : St) (o : Int) : Nat → Int
  | 0 => o
  | k + 1 => nx S (itr S o k)
def circ (S : St) (o t : Int) : Bool := (List.range 17).any (fun k => itr S o k == t)
theorem nx_zero {S : St} (h : Fine0 S) : nx S 0 = 0 := by
  unfold nx
  split
  · rename_i c
    obtain ⟨y, hy, e⟩ := fi_at c
    have := (h.gd _ c).rng y hy
    omega
  · rfl
theorem itr_zero {S : St} (h : Fine0 S) {o : Int} {k : Nat} (h0 : itr S o k = 0) : ∀ j, itr S o (k + j) = 0
  | 0 => h0
  | j + 1 => by
    show nx S (itr S o (k + j)) = 0
    rw [itr_zero h h0 j]; exact nx_zero h
theorem circ_yes {S : St} {o t : Int} {k : Nat} (hk : k ≤ 16) (e : itr S o k = t) : circ S o t = true := by
  unfold circ
  rw [List.any_eq_true]
  exact ⟨k, by rw [List.mem_range]; omega, by rw [e]; exact beq_self_eq_true t⟩
theorem circ_no {S : St} {o t : Int} (h : ∀ k, k ≤ 16 → itr S o k ≠ t) : circ S o t = false := by
  unfold circ
  rw [List.any_eq_false]
  intro k hk
  rw [List.mem_range] at hk
  simpa using h k (by omega)
/-- ranks rise along the way -/
theorem itr_rank {S : St} {rk : Int → Nat} (h : Rk S rk) {o : Int} (k : Nat) (h0 : itr S o (k + 1) ≠ 0) : rk (itr S o k) < rk (itr S o (k + 1)) := by
  have e : itr S o (k + 1) = nx S (itr S o k) := rfl
  rw [e] at h0 ⊢
  unfold nx at h0 ⊢
  split
  · rename_i c
    obtain ⟨y, hy, e⟩ := fi_at c
    have := h _ c y hy
    rwa [e] at this
  · rename_i c; rw [if_neg c] at h0; exact absurd rfl h0
theorem itr_len {S : St} (hf : Fine0 S) {rk : Int → Nat} (h : Rk S rk) {o : Int} : ∀ k, itr S o k ≠ 0 → k ≤ rk (itr S o k)
  | 0, _ => Nat.zero_le _
  | k + 1, h0 => by
    have h1 : itr S o k ≠ 0 := fun e => h0 (by have := itr_zero hf e 1; exact this)
    have := itr_len hf h k h1
    have := itr_rank h k h0
    omega
theorem circ_not {S : St} (h : Fine0 S) {o t : Int} (ht : t ≠ 0) (hc : circ S o t = false) : ∀ k, itr S o k ≠ t := fun k e => by
  obtain ⟨rk, h1, h2⟩ := h.ac
  have h3 := itr_len h h1 (o := o) k (by rw [e]; exact ht)
  have h4 := h2 (itr S o k)
  rw [circ_yes (by omega) e] at hc
  cases hc

/-! ### the calls -/
def isT (t : Int) : Prop := 1 ≤ t ∧ t ≤ 16
def isM (S : St) (m : Int) : Prop := 1 ≤ m ∧ m ≤ (S.n : Int)
instance (t : Int) : Decidable (isT t) := inferInstanceAs (Decidable (_ ∧ _))
instance (S : St) (m : Int) : Decidable (isM S m) := inferInstanceAs (Decidable (_ ∧ _))
/-- a mutex by its number -/
def ix (m : Int) : Nat := (m - 1).toNat
theorem ix_of {S : St} {m : Int} (h : isM S m) : ix m < S.n ∧ ((ix m : Nat) : Int) = m - 1 := by
  unfold isM at h; unfold ix; omega
def over (S : St) (i : Nat) (p : Int) : Prop := S.A i = 3 ∧ p < S.C i
instance (S : St) (i : Nat) (p : Int) : Decidable (over S i p) := inferInstanceAs (Decidable (_ ∧ _))

def tryL (S : St) (m t : Int) : St × Bool × Int :=
  if ¬ (isM S m ∧ isT t) then (S, false, -18)
  else if S.O (ix m) = t ∨ over S (ix m) (S.B t) then (S, false, -28)
  else if fi S t < S.n then (S, false, -41)
  else if S.O (ix m) ≠ 0 then (S, false, 0)
  else ({ S with O := upd S.O (ix m) t }, true, 0)
def addQ (S : St) (i : Nat) (t : Int) : St := { S with Q := upd S.Q i (addL (S.bp i) (S.Q i) t (P S t)) }
def lockL (S : St) (m t : Int) : St × Bool × Int :=
  if (tryL S m t).2.1 = true ∨ (tryL S m t).2.2 ≠ 0 then tryL S m t
  else if circ S (S.O (ix m)) t = true then (S, false, -28)
  else (settle (addQ S (ix m) t), false, 0)
def fst (L : List It) : Int := match L with | [] => 0 | x :: _ => x.1
def passQ (S : St) (i : Nat) : St := { S with O := upd S.O i (fst (S.Q i)), Q := upd S.Q i (S.Q i).tail }
def passS (S : St) (i : Nat) : St := settle (passQ S i)
def unlk (S : St) (m t : Int) : St × Int × Int :=
  if ¬ (isM S m ∧ isT t) then (S, 0, -18)
  else if S.O (ix m) ≠ t then (S, 0, -28)
  else (passS S (ix m), fst (S.Q (ix m)), 0)
def outQ (S : St) (i : Nat) (t : Int) : St := { S with Q := upd S.Q i ((S.Q i).eraseIdx (pos (S.Q i) t)) }
def drp (S : St) (t : Int) : St × Bool := if fi S t < S.n then (settle (outQ S (fi S t) t), true) else (S, false)
def frk (S : St) (t : Int) : Nat → St × List Int
  | 0 => (S, [])
  | k + 1 => if S.O k = t then (passS (frk S t k).1 k, (frk S t k).2 ++ if fst ((frk S t k).1.Q k) = 0 then [] else [fst ((frk S t k).1.Q k)]) else frk S t k
def fre (S : St) (t : Int) : St × List Int := if isT t then frk S t S.n else (S, [])
def setB (S : St) (t p : Int) : St := { S with B := fun s => if s = t then p else S.B s }
def badB (S : St) (t p : Int) : Prop := ∃ i, i < S.n ∧ over S i p ∧ (S.O i = t ∨ inq S i t)
theorem badB_iff (S : St) (t p : Int) : (List.range S.n).any (fun i => decide (over S i p) && (S.O i == t || decide (pos (S.Q i) t < (S.Q i).length))) = true ↔ badB S t p := by
  rw [List.any_eq_true]
  constructor
  · rintro ⟨i, hi, h⟩
    rw [List.mem_range] at hi
    simp only [Bool.and_eq_true, Bool.or_eq_true, decide_eq_true_eq, beq_iff_eq] at h
    exact ⟨i, hi, h.1, h.2.imp id pos_inq.1⟩
  · rintro ⟨i, hi, h1, h2⟩
    refine ⟨i, List.mem_range.2 hi, ?_⟩
    simp only [Bool.and_eq_true, Bool.or_eq_true, decide_eq_true_eq, beq_iff_eq]
    exact ⟨h1, h2.imp id pos_inq.2⟩
instance (S : St) (t p : Int) : Decidable (badB S t p) := decidable_of_iff _ (badB_iff S t p)
def sbase (S : St) (t p : Int) : St × Int :=
  if ¬ isT t then (S, -18)
  else if ¬ (1 ≤ p ∧ p ≤ 16) then (S, -17)
  else if badB S t p then (S, -28)
  else (settle (setB S t p), 0)

def owns (S : St) (m : Int) : Int := if isM S m then S.O (ix m) else 0
def pri (S : St) (t : Int) : Int := if isT t then P S t else 0
def bas (S : St) (t : Int) : Int := if isT t then S.B t else 0
def hel (S : St) (t : Int) : Nat → List Int
  | 0 => []
  | k + 1 => if S.O k = t then hel S t k ++ [(k : Int) + 1] else hel S t k
def held (S : St) (t : Int) : List Int := if isT t then hel S t S.n else []
def wait (S : St) (m : Int) : List Int := if isM S m then (S.Q (ix m)).map Prod.fst else []

/-! ### all stays in order -/
theorem setO_P {S : St} (h : Fine0 S) {m : Nat} (hm : m < S.n) {t : Int} (h0 : S.O m = 0) (ht : t ≠ 0) (hw : ∀ j, j < S.n → ¬ inq S j t) :
    ∀ d s, s ≠ t → s ≠ 0 → pf { S with O := upd S.O m t } d s = pf S d s := by
  have step : ∀ (f g : Int → Int) (s : Int), s ≠ t → s ≠ 0 → (∀ s, s ≠ t → s ≠ 0 → f s = g s) → ∀ k, k ≤ S.n → gk { S with O := upd S.O m t } f s k = gk S g s k := by
    intro f g s hs1 hs2 hfg k
    induction k with
    | zero => intro _; rfl
    | succ k ih =>
      intro hk
      unfold gk
      rw [ih (by omega)]
      have ho : (upd S.O m t k = s) = (S.O k = s) := by
        by_cases c : k = m
        · subst c
          rw [upd_at, h0]
          exact propext ⟨fun e => absurd e.symm hs1, fun e => absurd e.symm hs2⟩
        · rw [upd_ne _ _ c]
      have hl : lend { S with O := upd S.O m t } f k = lend S g k := by
        have : lend { S with O := upd S.O m t } f k = lend S f k := rfl
        rw [this]
        refine lend_congr fun y hy => hfg _ (fun e => hw k (by omega) ⟨y, hy, e⟩) (fun e => ?_)
        have := (h.gd k (by omega)).rng y hy
        omega
      simp only [ho, hl]
  intro d
  induction d with
  | zero => intro s h1 h2; exact step _ _ s h1 h2 (fun _ _ _ => rfl) S.n (Nat.le_refl _)
  | succ d ih => intro s h1 h2; exact step _ _ s h1 h2 ih S.n (Nat.le_refl _)

theorem Fine.setO {S : St} (h : Fine S) {m : Nat} (hm : m < S.n) {t : Int} (ht : isT t) (h0 : S.O m = 0) (hw : ∀ j, j < S.n → ¬ inq S j t) : Fine { S with O := upd S.O m t } := by
  have hP := setO_P h.toFine0 hm h0 (by unfold isT at ht; omega) hw 16
  have hq0 := (h.ow m hm).2.2 h0
  have hO : ∀ i, i < S.n → ∀ y, y ∈ S.Q i → upd S.O m t i = S.O i := fun i hi y hy => by
    by_cases c : i = m
    · subst c; rw [hq0] at hy; cases hy
    · rw [upd_ne _ _ c]
  refine ⟨⟨h.n8, h.kd, h.gd, fun i hi => ?_, h.one, h.bs, ?_⟩, fun i hi x hx => ?_⟩
  · by_cases c : i = m
    · subst c
      refine ⟨?_, ?_, fun _ => hq0⟩ <;> · simp only [upd_at]; unfold isT at ht; omega
    · simp only [upd_ne _ _ c]; exact h.ow i hi
  · obtain ⟨rk, h1, h2⟩ := h.ac
    exact ⟨rk, fun i hi y hy => by simp only [hO i hi y hy]; exact h1 i hi y hy, h2⟩
  · have := (h.gd i hi).rng x hx
    unfold P
    rw [hP x.1 (fun e => hw i hi ⟨x, hx, e⟩) (by omega)]
    exact h.told i hi x hx
theorem Fine.tryL {S : St} (h : Fine S) (m t : Int) : Fine (tryL S m t).1 := by
  unfold Ytmicinenggkmlaa.tryL
  split
  · exact h
  · rename_i c
    split
    · exact h
    · split
      · exact h
      · split
        · exact h
        · rename_i c2 c3 c4
          have c' : isM S m ∧ isT t := Classical.not_not.1 c
          exact h.setO (ix_of c'.1).1 c'.2 (Classical.not_not.1 c4) fun j hj => fi_out c3 hj

theorem rk_up {S : St} (h : Fine0 S) {i : Nat} {o t : Int} {rk : Int → Nat} (hr : Rk S rk) (ht : t ≠ 0) (hc : ∀ k, itr S o k ≠ t) :
    ∃ rk' : Int → Nat, Rk S rk' ∧ rk' t < rk' o := by
  have hdec : ∀ s, Decidable (∃ k, itr S o k = s) := fun s => Classical.propDecidable _
  refine ⟨fun s => if (∃ k, itr S o k = s) then rk s + rk t + 1 else rk s, fun j hj y hy => ?_, ?_⟩
  · have h1 := hr j hj y hy
    simp only
    by_cases c : ∃ k, itr S o k = y.1
    · have c2 : ∃ k, itr S o k = S.O j := by
        obtain ⟨k, e⟩ := c
        refine ⟨k + 1, ?_⟩
        show nx S (itr S o k) = S.O j
        rw [e]
        unfold nx
        have e2 := fi_in h hj ⟨y, hy, rfl⟩
        rw [e2, if_pos hj]
      rw [if_pos c, if_pos c2]; omega
    · rw [if_neg c]
      split <;> omega
  · simp only
    rw [if_neg (fun ⟨k, e⟩ => hc k e), if_pos ⟨0, rfl⟩]; omega
theorem Fine.addQ {S : St} (h : Fine S) {i : Nat} (hi : i < S.n) {t : Int} (ht : isT t) (hw : ∀ j, j < S.n → ¬ inq S j t) (ho : S.O i ≠ 0) (hc : circ S (S.O i) t = false) :
    Fine0 (addQ S i t) ∧ ∀ j, j < S.n → ∀ x, x ∈ (addQ S i t).Q j → x.2 = P S x.1 := by
  have ht0 : t ≠ 0 := by unfold isT at ht; omega
  have hp := h.toFine0.pri ht.1 ht.2
  have hn : ∀ y, y ∈ S.Q i → y.1 ≠ t := fun y hy e => hw i hi ⟨y, hy, e⟩
  have hq : (Ytmicinenggkmlaa.addQ S i t).Q i = ins (S.Q i) (plc (S.bp i) (S.Q i) (P S t)) (t, P S t) := by
    unfold Ytmicinenggkmlaa.addQ
    simp only [upd_at]
    unfold addL
    rw [if_pos ⟨ht, hp, fun c => by obtain ⟨y, hy, e⟩ := pos_lt.1 c; exact hn y hy e⟩]
  have hq' : ∀ j, j ≠ i → (Ytmicinenggkmlaa.addQ S i t).Q j = S.Q j := fun j hj => by
    unfold Ytmicinenggkmlaa.addQ; simp only [upd_ne _ _ hj]
  have hm : ∀ j, j < S.n → ∀ x, x ∈ (Ytmicinenggkmlaa.addQ S i t).Q j → (j = i ∧ x = (t, P S t)) ∨ x ∈ S.Q j := fun j hj x hx => by
    by_cases c : j = i
    · subst c
      rw [hq] at hx
      rcases mem_ins.1 hx with e | e
      · exact .inl ⟨rfl, e⟩
      · exact .inr e
    · rw [hq' j c] at hx; exact .inr hx
  have hgd : ∀ j, j < S.n → Good (S.bp j) ((Ytmicinenggkmlaa.addQ S i t).Q j) := fun j hj => by
    by_cases c : j = i
    · subst c; rw [hq]; exact (h.gd j hj).ins ht hp hn
    · rw [hq' j c]; exact h.gd j hj
  refine ⟨⟨h.n8, h.kd, hgd, fun j hj => ⟨(h.ow j hj).1, (h.ow j hj).2.1, fun e => ?_⟩, fun j k hj hk x y hx hy e => ?_, h.bs, ?_⟩, fun j hj x hx => ?_⟩
  · by_cases c : j = i
    · subst c; exact absurd e ho
    · rw [hq' j c]; exact (h.ow j hj).2.2 e
  · rcases hm j hj x hx with ⟨e1, e2⟩ | e1 <;> rcases hm k hk y hy with ⟨e3, e4⟩ | e3
    · rw [e1, e3]
    · exact absurd ⟨y, e3, by rw [← e, e2]⟩ (hw k hk)
    · exact absurd ⟨x, e1, by rw [e, e4]⟩ (hw j hj)
    · exact h.one j k hj hk x y e1 e3 e
  · obtain ⟨rk, h1, h2⟩ := h.ac
    obtain ⟨rk', h3, h4⟩ := rk_up (i := i) h.toFine0 h1 ht0 (circ_not h.toFine0 ht0 hc)
    refine acy_of (rk := rk') (fun j hj y hy => ?_) (fun j hj y hy => ?_)
    · rcases hm j hj y hy with ⟨e1, e2⟩ | e1
      · subst e1; rw [e2]; exact h4
      · exact h3 j hj y e1
    · have := (hgd j hj).rng y hy; omega
  · rcases hm j hj x hx with ⟨e1, e2⟩ | e1
    · rw [e2]
    · exact h.told j hj x e1
theorem Fine.passQ {S : St} (h : Fine S) {i : Nat} (hi : i < S.n) : Fine0 (passQ S i) ∧ ∀ j, j < S.n → ∀ x, x ∈ (passQ S i).Q j → x.2 = P S x.1 := by
  have hm : ∀ j x, x ∈ (Ytmicinenggkmlaa.passQ S i).Q j → x ∈ S.Q j := fun j x hx => by
    by_cases c : j = i
    · subst c
      unfold Ytmicinenggkmlaa.passQ at hx; simp only [upd_at] at hx
      exact List.mem_of_mem_tail hx
    · unfold Ytmicinenggkmlaa.passQ at hx; simp only [upd_ne _ _ c] at hx; exact hx
  have hgd : ∀ j, j < S.n → Good (S.bp j) ((Ytmicinenggkmlaa.passQ S i).Q j) := fun j hj => by
    by_cases c : j = i
    · subst c
      unfold Ytmicinenggkmlaa.passQ; simp only [upd_at]
      exact (h.gd j hj).sub (List.tail_sublist _)
    · unfold Ytmicinenggkmlaa.passQ; simp only [upd_ne _ _ c]; exact h.gd j hj
  refine ⟨⟨h.n8, h.kd, hgd, fun j hj => ?_, fun j k hj hk x y hx hy e => h.one j k hj hk x y (hm j x hx) (hm k y hy) e, h.bs, ?_⟩, fun j hj x hx => h.told j hj x (hm j x hx)⟩
  · by_cases c : j = i
    · subst c
      unfold Ytmicinenggkmlaa.passQ; simp only [upd_at]
      cases e : S.Q j with
      | nil => exact ⟨by simp [fst], by simp [fst], fun _ => rfl⟩
      | cons y L =>
        have := (h.gd j hj).rng y (by rw [e]; exact List.mem_cons_self)
        refine ⟨?_, ?_, fun e2 => ?_⟩
        · show 0 ≤ y.1; omega
        · show y.1 ≤ 16; omega
        · have : y.1 = 0 := e2
          omega
    · unfold Ytmicinenggkmlaa.passQ; simp only [upd_ne _ _ c]; exact h.ow j hj
  · obtain ⟨rk, h1, h2⟩ := h.ac
    cases e : S.Q i with
    | nil =>
      refine ⟨rk, fun j hj y hy => ?_, h2⟩
      have hy' := hm j y hy
      have c : j ≠ i := by rintro rfl; rw [e] at hy'; cases hy'
      unfold Ytmicinenggkmlaa.passQ; simp only [upd_ne _ _ c]
      exact h1 j hj y hy'
    | cons z L =>
      have hz : z ∈ S.Q i := by rw [e]; exact List.mem_cons_self
      -- the one that holds it now waits no more
      have hz2 : ∀ j, j < S.n → ∀ y, y ∈ (Ytmicinenggkmlaa.passQ S i).Q j → y.1 ≠ z.1 := fun j hj y hy e2 => by
        have hji := h.one j i hj hi y z (hm j y hy) hz e2
        subst hji
        unfold Ytmicinenggkmlaa.passQ at hy; simp only [upd_at, e, List.tail_cons] at hy
        have := (h.gd j hi).ids
        rw [e, List.map_cons] at this
        exact (List.nodup_cons.1 this).1 (List.mem_map.2 ⟨y, hy, e2⟩)
      refine acy_of (rk := fun s => if s = z.1 then 17 else rk s) (fun j hj y hy => ?_) (fun j hj y hy => ?_)
      · simp only
        rw [if_neg (hz2 j hj y hy)]
        have h3 := h2 y.1
        by_cases c : j = i
        · subst c
          have e3 : (Ytmicinenggkmlaa.passQ S j).O j = z.1 := by unfold Ytmicinenggkmlaa.passQ; simp only [upd_at, e, fst]
          rw [e3, if_pos rfl]; omega
        · have e3 : (Ytmicinenggkmlaa.passQ S i).O j = S.O j := by unfold Ytmicinenggkmlaa.passQ; simp only [upd_ne _ _ c]
          rw [e3]
          split
          · omega
          · exact h1 j hj y (hm j y hy)
      · have := (hgd j hj).rng y hy; omega
theorem Fine.outQ {S : St} (h : Fine S) (i : Nat) (t : Int) : Fine0 (outQ S i t) ∧ ∀ j, j < S.n → ∀ x, x ∈ (outQ S i t).Q j → x.2 = P S x.1 := by
  have hm : ∀ j x, x ∈ (Ytmicinenggkmlaa.outQ S i t).Q j → x ∈ S.Q j := fun j x hx => by
    by_cases c : j = i
    · subst c
      unfold Ytmicinenggkmlaa.outQ at hx; simp only [upd_at] at hx
      exact List.mem_of_mem_eraseIdx hx
    · unfold Ytmicinenggkmlaa.outQ at hx; simp only [upd_ne _ _ c] at hx; exact hx
  refine ⟨⟨h.n8, h.kd, fun j hj => ?_, fun j hj => ⟨(h.ow j hj).1, (h.ow j hj).2.1, fun e => ?_⟩, fun j k hj hk x y hx hy e => h.one j k hj hk x y (hm j x hx) (hm k y hy) e, h.bs, ?_⟩, fun j hj x hx => h.told j hj x (hm j x hx)⟩
  · by_cases c : j = i
    · subst c
      unfold Ytmicinenggkmlaa.outQ; simp only [upd_at]
      exact (h.gd j hj).erase _
    · unfold Ytmicinenggkmlaa.outQ; simp only [upd_ne _ _ c]; exact h.gd j hj
  · have := (h.ow j hj).2.2 e
    cases e2 : (Ytmicinenggkmlaa.outQ S i t).Q j with
    | nil => rfl
    | cons y L =>
      have := hm j y (by rw [e2]; exact List.mem_cons_self)
      rw [(h.ow j hj).2.2 e] at this; cases this
  · exact h.ac.congr rfl (fun _ _ => rfl) fun j _ s ⟨y, hy, e⟩ => ⟨y, hm j y hy, e⟩
theorem Fine.setB {S : St} (h : Fine S) {t p : Int} (hp : 1 ≤ p ∧ p ≤ 16) : Fine0 (setB S t p) ∧ ∀ j, j < S.n → ∀ x, x ∈ (setB S t p).Q j → x.2 = P S x.1 := by
  refine ⟨⟨h.n8, h.kd, h.gd, h.ow, h.one, fun s h1 h2 => ?_, h.ac.congr rfl (fun _ _ => rfl) fun j _ s hs => hs⟩, h.told⟩
  unfold Ytmicinenggkmlaa.setB
  simp only
  split
  · exact hp
  · exact h.bs s h1 h2
theorem Fine.passS {S : St} (h : Fine S) {i : Nat} (hi : i < S.n) : Fine (passS S i) := (h.passQ hi).1.settle
theorem Fine.lockL {S : St} (h : Fine S) (m t : Int) : Fine (lockL S m t).1 := by
  unfold Ytmicinenggkmlaa.lockL
  split
  · exact h.tryL m t
  · rename_i c
    split
    · exact h
    · rename_i c2
      have hx : (isM S m ∧ isT t) ∧ (∀ j, j < S.n → ¬ inq S j t) ∧ S.O (ix m) ≠ 0 := by
        unfold Ytmicinenggkmlaa.tryL at c
        split at c
        · exact absurd (.inr (by simp)) c
        · split at c
          · exact absurd (.inr (by simp)) c
          · split at c
            · exact absurd (.inr (by simp)) c
            · split at c
              · rename_i c3 c4 c5 c6
                exact ⟨Classical.not_not.1 c3, fun j hj => fi_out c5 hj, c6⟩
              · exact absurd (.inl rfl) c
      exact (h.addQ (ix_of hx.1.1).1 hx.1.2 hx.2.1 hx.2.2 (by simpa using c2)).1.settle
theorem Fine.unlk {S : St} (h : Fine S) (m t : Int) : Fine (unlk S m t).1 := by
  unfold Ytmicinenggkmlaa.unlk
  split
  · exact h
  · rename_i c
    split
    · exact h
    · exact h.passS (ix_of (Classical.not_not.1 c).1).1
theorem Fine.drp {S : St} (h : Fine S) (t : Int) : Fine (drp S t).1 := by
  unfold Ytmicinenggkmlaa.drp
  split
  · exact (h.outQ _ t).1.settle
  · exact h
theorem frk_n (S : St) (t : Int) : ∀ k, (frk S t k).1.n = S.n
  | 0 => rfl
  | k + 1 => by
    unfold frk
    split
    · exact frk_n S t k
    · exact frk_n S t k
theorem frk_O (S : St) (t : Int) : ∀ k j, k ≤ j → (frk S t k).1.O j = S.O j
  | 0, _, _ => rfl
  | k + 1, j, h => by
    unfold frk
    split
    · show upd (frk S t k).1.O k _ j = _
      rw [upd_ne _ _ (by omega)]
      exact frk_O S t k j (by omega)
    · exact frk_O S t k j (by omega)
theorem Fine.frk {S : St} (h : Fine S) (t : Int) : ∀ k, k ≤ S.n → Fine (frk S t k).1
  | 0, _ => h
  | k + 1, hk => by
    have ih := Fine.frk h t k (by omega)
    unfold Ytmicinenggkmlaa.frk
    split
    · exact ih.passS (by rw [frk_n]; omega)
    · exact ih
theorem Fine.fre {S : St} (h : Fine S) (t : Int) : Fine (fre S t).1 := by
  unfold Ytmicinenggkmlaa.fre
  split
  · exact h.frk t _ (Nat.le_refl _)
  · exact h
theorem Fine.sbase {S : St} (h : Fine S) (t p : Int) : Fine (sbase S t p).1 := by
  unfold Ytmicinenggkmlaa.sbase
  split
  · exact h
  · split
    · exact h
    · split
      · exact h
      · rename_i c _
        exact (h.setB (Classical.not_not.1 c)).1.settle
/-- nobody holds anything -/
def St.new (n : Nat) (A C : Nat → Int) : St := ⟨n, A, C, fun _ => 0, fun _ => [], fun _ => 16⟩
theorem Fine.new {n : Nat} {A C : Nat → Int} (hn : n ≤ 8) (hk : ∀ i, i < n → 0 ≤ A i ∧ A i ≤ 3 ∧ (A i = 3 → 1 ≤ C i ∧ C i ≤ 16)) : Fine (St.new n A C) :=
  have h0 : ∀ (i : Nat) (x : It), ¬ x ∈ (St.new n A C).Q i := fun i x hx => absurd hx List.not_mem_nil
  ⟨⟨hn, hk, fun _ _ => good_nil _, fun _ _ => ⟨by show (0 : Int) ≤ 0; omega, by show (0 : Int) ≤ 16; omega, fun _ => rfl⟩, fun i _ _ _ x _ hx _ _ => absurd hx (h0 i x), fun _ _ _ => ⟨by show (1 : Int) ≤ 16; omega, by show (16 : Int) ≤ 16; omega⟩,
    ⟨fun _ => 0, fun i _ y hy => absurd hy (h0 i y), fun _ => Nat.zero_le _⟩⟩, fun i _ x hx => absurd hx (h0 i x)⟩
end Go.Proofs.Ytmicinenggkmlaa
