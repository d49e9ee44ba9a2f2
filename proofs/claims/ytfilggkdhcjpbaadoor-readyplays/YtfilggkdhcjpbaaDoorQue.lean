/- Those that are ready, no Go at all: a row of tasks for each priority, and each task's priority. -/
import Derived.Test.YtfilggkdhcjpbaaDoorSets
namespace Go.Proofs.YtfilggkdhcjpbaaDoor

/-- rows by priority; the priority by task (0: not there) -/
structure St where
  R : Nat → List Int
  P : Int → Nat

structure Good (S : St) : Prop where
  mem : ∀ a x, x ∈ S.R a ↔ (a ≠ 0 ∧ S.P x = a)
  dom : ∀ x, S.P x ≠ 0 → 1 ≤ x ∧ x ≤ 16
  le : ∀ x, S.P x ≤ 16
  nodup : ∀ a, (S.R a).Nodup

def St.new : St := ⟨fun _ => [], fun _ => 0⟩
def St.put (S : St) (x : Int) (a : Nat) : St := ⟨fun b => if b = a then S.R b ++ [x] else S.R b, fun y => if y = x then a else S.P y⟩
def St.del (S : St) (x : Int) : St := ⟨fun b => (S.R b).filter (· != x), fun y => if y = x then 0 else S.P y⟩
def inR (x : Int) : Prop := 1 ≤ x ∧ x ≤ 16
instance (x : Int) : Decidable (inR x) := inferInstanceAs (Decidable (1 ≤ x ∧ x ≤ 16))
def St.add (S : St) (x p : Int) : St := if inR x ∧ inR p ∧ S.P x = 0 then S.put x p.toNat else S
def St.addC (S : St) (x p : Int) : Int := if inR x ∧ inR p then (if S.P x = 0 then 0 else -41) else -17
def St.chg (S : St) (x p : Int) : St := if inR p ∧ S.P x ≠ 0 then (S.del x).put x p.toNat else S
def St.rot (S : St) (p : Int) : St := if inR p then (match S.R p.toNat with | [] => S | y :: _ => (S.del y).put y p.toNat) else S

theorem Good.new : Good St.new := ⟨fun a x => by simp [St.new]; omega, fun x h => absurd rfl h, fun _ => Nat.zero_le _, fun _ => List.nodup_nil⟩

/-- apart, within 1 to 16: at most 16 -/
theorem len16 {l : List Int} (h : l.Nodup) (hd : ∀ x ∈ l, 1 ≤ x ∧ x ≤ 16) : l.length ≤ 16 := by
  have key : ∀ (n : Nat) (l : List Int), l.Nodup → (∀ x ∈ l, 1 ≤ x ∧ x ≤ (n : Int)) → l.length ≤ n := by
    intro n
    induction n with
    | zero => intro l _ hd; cases l with
      | nil => simp
      | cons a r => have := hd a (by simp); omega
    | succ n ih =>
      intro l hn hd
      have h1 := ih (l.erase ((n : Int) + 1)) (hn.erase _) fun x hx => by
        have hx2 := (hn.mem_erase_iff).1 hx
        have := hd x hx2.2
        have := hx2.1
        omega
      rw [List.length_erase] at h1
      split at h1 <;> omega
  exact key 16 l h hd
theorem Good.dom' {S : St} (h : Good S) {a : Nat} {x : Int} (hx : x ∈ S.R a) : 1 ≤ x ∧ x ≤ 16 := h.dom x (by have := (h.mem a x).1 hx; omega)
theorem Good.len {S : St} (h : Good S) (a : Nat) : (S.R a).length ≤ 16 := len16 (h.nodup a) fun _ hx => h.dom' hx
theorem Good.out {S : St} (h : Good S) {a : Nat} (ha : a = 0 ∨ 16 < a) : S.R a = [] := by
  rcases hl : S.R a with _ | ⟨x, r⟩
  · rfl
  · have h1 := (h.mem a x).1 (by simp [hl])
    have := h.le x
    omega
theorem Good.notin {S : St} (h : Good S) {x : Int} (hx : S.P x = 0) (a : Nat) : x ∉ S.R a := fun h1 => by have := (h.mem a x).1 h1; omega
theorem Good.room {S : St} (h : Good S) {x : Int} (hx : inR x) (h0 : S.P x = 0) (a : Nat) : (S.R a).length ≤ 15 := by
  have := len16 (l := x :: S.R a) (List.nodup_cons.2 ⟨h.notin h0 a, h.nodup a⟩) fun y hy => by
    rcases List.mem_cons.1 hy with rfl | hy
    · exact hx
    · exact h.dom' hy
  simp at this; omega

theorem filter_id {l : List Int} {x : Int} (h : x ∉ l) : l.filter (· != x) = l := by
  rw [List.filter_eq_self]; intro y hy; simp; rintro rfl; exact h hy
theorem St.ext' {S T : St} (h1 : ∀ b, S.R b = T.R b) (h2 : ∀ x, S.P x = T.P x) : S = T := by
  cases S; cases T; congr
  · funext b; exact h1 b
  · funext x; exact h2 x
theorem Good.del0 {S : St} (h : Good S) {x : Int} (hx : S.P x = 0) : S.del x = S :=
  St.ext' (fun b => filter_id (h.notin hx b)) (fun y => by show (if y = x then 0 else S.P y) = _; split <;> simp_all)
theorem Good.del {S : St} (h : Good S) (x : Int) : Good (S.del x) := by
  refine ⟨fun a y => ?_, fun y hy => ?_, fun y => ?_, fun a => (h.nodup a).filter _⟩
  · show y ∈ (S.R a).filter (· != x) ↔ (a ≠ 0 ∧ (if y = x then 0 else S.P y) = a)
    rw [List.mem_filter, h.mem]
    by_cases e : y = x
    · simp [e]; omega
    · simp [e]
  · have hy' : (if y = x then 0 else S.P y) ≠ 0 := hy
    exact h.dom y (by split at hy' <;> simp_all)
  · show (if y = x then 0 else S.P y) ≤ 16
    have := h.le y; split <;> omega
theorem Good.put {S : St} (h : Good S) {x : Int} {a : Nat} (hx : inR x) (h0 : S.P x = 0) (h1 : 1 ≤ a) (h2 : a ≤ 16) : Good (S.put x a) := by
  refine ⟨fun b y => ?_, fun y hy => ?_, fun y => ?_, fun b => ?_⟩
  · show y ∈ (if b = a then S.R b ++ [x] else S.R b) ↔ (b ≠ 0 ∧ (if y = x then a else S.P y) = b)
    by_cases e : b = a
    · subst e
      rw [if_pos rfl, List.mem_append, h.mem, List.mem_singleton]
      by_cases e2 : y = x
      · simp [e2]; omega
      · simp [e2]
    · rw [if_neg e, h.mem]
      by_cases e2 : y = x
      · subst e2; simp [h0]; omega
      · simp [e2]
  · have hy' : (if y = x then a else S.P y) ≠ 0 := hy
    by_cases e : y = x
    · subst e; exact hx
    · rw [if_neg e] at hy'; exact h.dom y hy'
  · show (if y = x then a else S.P y) ≤ 16
    have := h.le y; split <;> omega
  · show (if b = a then S.R b ++ [x] else S.R b).Nodup
    split
    · rw [List.nodup_append]
      exact ⟨h.nodup b, by simp, fun y hy z hz => by simp at hz; subst hz; rintro rfl; exact h.notin h0 b hy⟩
    · exact h.nodup b
theorem del_P (S : St) (x : Int) : (S.del x).P x = 0 := by simp [St.del]
theorem put_P (S : St) (x : Int) (a : Nat) : (S.put x a).P x = a := by simp [St.put]
theorem Good.add {S : St} (h : Good S) (x p : Int) : Good (S.add x p) := by
  unfold St.add
  split
  · next c => exact h.put c.1 c.2.2 (by have := c.2.1.1; omega) (by have := c.2.1.2; omega)
  · exact h
theorem Good.chg {S : St} (h : Good S) (x p : Int) : Good (S.chg x p) := by
  unfold St.chg
  split
  · next c => exact (h.del x).put (h.dom x c.2) (del_P S x) (by have := c.1.1; omega) (by have := c.1.2; omega)
  · exact h
theorem rot_chg {S : St} (h : Good S) {p : Int} (hp : inR p) {y : Int} {r : List Int} (hr : S.R p.toNat = y :: r) : S.rot p = S.chg y p := by
  have := (h.mem p.toNat y).1 (by simp [hr])
  unfold St.rot St.chg
  rw [if_pos hp, hr, if_pos ⟨hp, by omega⟩]
theorem rot_nil {S : St} {p : Int} (hr : S.R p.toNat = []) : S.rot p = S := by unfold St.rot; rw [hr]; split <;> rfl
theorem Good.rot {S : St} (h : Good S) (p : Int) : Good (S.rot p) := by
  by_cases c : inR p
  · rcases hr : S.R p.toNat with _ | ⟨y, r⟩
    · rw [rot_nil hr]; exact h
    · rw [rot_chg h c hr]; exact h.chg y p
  · unfold St.rot; rw [if_neg c]; exact h

/-- all, from priority s on -/
def allF (R : Nat → List Int) : Nat → Nat → List Int
  | 0, _ => []
  | n + 1, s => R s ++ allF R n (s + 1)
def St.all (S : St) : List Int := allF S.R 256 1
def St.beyond (S : St) (a : Nat) : List Int := allF S.R (256 - a) (a + 1)
def St.set (S : St) : Nat → Bool := fun a => !(S.R a).isEmpty
def St.first (S : St) : Int := S.all.headD 0

theorem allF_snoc (R : Nat → List Int) : ∀ (n s : Nat), allF R (n + 1) s = allF R n s ++ R (s + n)
  | 0, s => by simp [allF]
  | n + 1, s => by
    have := allF_snoc R n (s + 1)
    rw [allF, this, show s + 1 + n = s + (n + 1) by omega]; simp [allF]
theorem allF_nil (R : Nat → List Int) : ∀ (n s : Nat), (∀ i, i < n → R (s + i) = []) → allF R n s = []
  | 0, _, _ => rfl
  | n + 1, s, h => by
    have h0 : R s = [] := h 0 (by omega)
    rw [allF, h0, allF_nil R n (s + 1) fun i hi => by rw [show s + 1 + i = s + (i + 1) by omega]; exact h (i + 1) (by omega)]; rfl
theorem allF_add (R : Nat → List Int) : ∀ (m n s : Nat), allF R (m + n) s = allF R m s ++ allF R n (s + m)
  | 0, n, s => by simp [allF]
  | m + 1, n, s => by
    rw [show m + 1 + n = (m + n) + 1 by omega, allF, allF_add R m n (s + 1), show s + 1 + m = s + (m + 1) by omega]; simp [allF]
theorem Good.all16 {S : St} (h : Good S) : allF S.R 16 1 = S.all := by
  unfold St.all
  rw [show 256 = 16 + 240 by rfl, allF_add, allF_nil S.R 240 (1 + 16) fun i hi => h.out (by omega), List.append_nil]
theorem allF_nx (S : St) : ∀ (n s : Nat), 0 < s → allF S.R n s = if nx S.set n s = 0 then [] else S.R (nx S.set n s) ++ allF S.R (s + n - (nx S.set n s + 1)) (nx S.set n s + 1)
  | 0, _, _ => by simp [allF, nx]
  | n + 1, s, h => by
    by_cases c : S.set s = true
    · have e : nx S.set (n + 1) s = s := by simp [nx, c]
      rw [e, if_neg (by omega), show s + (n + 1) - (s + 1) = n by omega]; rfl
    · have e : nx S.set (n + 1) s = nx S.set n (s + 1) := by simp [nx, c]
      have e2 : S.R s = [] := by unfold St.set at c; simpa using c
      rw [e, show s + (n + 1) = s + 1 + n by omega, ← allF_nx S n (s + 1) (by omega), allF, e2]; rfl
theorem beyond_nil (S : St) (a : Nat) (h : nxt S.set a = 0) : S.beyond a = [] := by
  have := allF_nx S (256 - a) (a + 1) (by omega)
  unfold nxt at h; unfold St.beyond; rw [this, if_pos h]
theorem beyond_cons (S : St) (a : Nat) (h : nxt S.set a ≠ 0) : S.beyond a = S.R (nxt S.set a) ++ S.beyond (nxt S.set a) := by
  have e := allF_nx S (256 - a) (a + 1) (by omega)
  have := nxt_some S.set a
  unfold nxt at h this ⊢; unfold St.beyond
  rw [e, if_neg h]
  congr 2
  omega
theorem beyond0 (S : St) : S.beyond 0 = S.all := rfl
theorem Good.nxt16 {S : St} (h : Good S) (a : Nat) : nxt S.set a ≤ 16 := by
  rcases nxt_some S.set a with h0 | ⟨_, _, h0⟩
  · omega
  · apply Nat.le_of_not_lt; intro c
    change (!(S.R (nxt S.set a)).isEmpty) = true at h0; rw [h.out (.inr c)] at h0; simp at h0
theorem nxt_row (S : St) (a : Nat) (h : nxt S.set a ≠ 0) : S.R (nxt S.set a) ≠ [] := by
  rcases nxt_some S.set a with h0 | ⟨_, _, h0⟩
  · exact absurd h0 h
  · change (!(S.R (nxt S.set a)).isEmpty) = true at h0; intro c; rw [c] at h0; simp at h0
/-- the first -/
theorem first_none (S : St) (h : nxt S.set 0 = 0) : S.all = [] := beyond_nil S 0 h
theorem first_some (S : St) (h : nxt S.set 0 ≠ 0) : ∃ y r, S.R (nxt S.set 0) = y :: r ∧ S.first = y ∧ S.all ≠ [] := by
  rcases hr : S.R (nxt S.set 0) with _ | ⟨y, r⟩
  · exact absurd hr (nxt_row S 0 h)
  · have := beyond_cons S 0 h
    rw [beyond0, hr] at this
    exact ⟨y, r, rfl, by unfold St.first; rw [this]; rfl, by rw [this]; simp⟩
theorem allF_len {S : St} (h : Good S) : ∀ (n s : Nat), (allF S.R n s).length ≤ 16 * n
  | 0, _ => Nat.le_refl _
  | n + 1, s => by have := allF_len h n (s + 1); have := h.len s; simp [allF]; omega
theorem Good.allLen {S : St} (h : Good S) : S.all.length ≤ 4096 := allF_len h 256 1
theorem allF_mem (R : Nat → List Int) : ∀ (n s : Nat) (x : Int), x ∈ allF R n s → ∃ a, s ≤ a ∧ a < s + n ∧ x ∈ R a
  | 0, _, _, h => by simp [allF] at h
  | n + 1, s, x, h => by
    rcases List.mem_append.1 h with h | h
    · exact ⟨s, by omega, by omega, h⟩
    · obtain ⟨a, h1, h2, h3⟩ := allF_mem R n (s + 1) x h; exact ⟨a, by omega, by omega, h3⟩
theorem Good.allNodup {S : St} (h : Good S) : ∀ (n s : Nat), (allF S.R n s).Nodup
  | 0, _ => List.nodup_nil
  | n + 1, s => by
    rw [allF, List.nodup_append]
    refine ⟨h.nodup s, h.allNodup n (s + 1), fun x hx y hy => ?_⟩
    rintro rfl
    obtain ⟨a, h1, _, h3⟩ := allF_mem _ _ _ _ hy
    have := (h.mem s x).1 hx
    have := (h.mem a x).1 h3
    omega
theorem Good.all_len {S : St} (h : Good S) : S.all.length ≤ 16 := len16 (h.allNodup _ _) fun x hx => by
  obtain ⟨a, _, _, h3⟩ := allF_mem _ _ _ _ hx; exact h.dom' h3
theorem allF_filter (S : St) (x : Int) : ∀ (n s : Nat), allF (S.del x).R n s = (allF S.R n s).filter (· != x)
  | 0, _ => rfl
  | n + 1, s => by rw [allF, allF, allF_filter S x n (s + 1), List.filter_append]; rfl
theorem all_del (S : St) (x : Int) : (S.del x).all = S.all.filter (· != x) := allF_filter S x _ _
theorem Good.all_tail {S : St} (h : Good S) {y : Int} {r : List Int} (hr : S.all = y :: r) : (S.del y).all = r := by
  have hn := h.allNodup 256 1
  change S.all.Nodup at hn
  rw [hr] at hn
  rw [all_del, hr, List.filter_cons_of_neg (by simp), filter_id (List.nodup_cons.1 hn).1]
end Go.Proofs.YtfilggkdhcjpbaaDoor
