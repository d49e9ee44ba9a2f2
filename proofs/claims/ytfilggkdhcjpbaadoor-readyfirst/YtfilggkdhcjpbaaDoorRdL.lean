/- Rows of bytes that came in; a Queue filled one by one; rotated; taken one by one. -/
import Derived.Test.YtfilggkdhcjpbaaDoorLaid
namespace Go.Proofs.YtfilggkdhcjpbaaDoor
open Go.RowKit Go.ChangeShapes Go.WideShapes Go.ChangeAt

/-- bytes that are read: q 0, q 1, .. -/
def Byt (w : World) (A : Option Addr) (n : Nat) (q : Nat → Nat) : Prop :=
  0 < n → ∃ b o : Nat, A = some ⟨b, o, none⟩ ∧ b < w.heap.size ∧ ∀ j, j < n → w.cell? ⟨b, o + j, none⟩ = some (.int .u8 (q j : Int)) ∧ q j ≤ 255
theorem Byt.below {w w' : World} {A : Option Addr} {n : Nat} {q : Nat → Nat} (h : Byt w A n q) (k : Below w.heap.size w w') : Byt w' A n q := by
  intro h0
  obtain ⟨b, o, h1, h2, h3⟩ := h h0
  exact ⟨b, o, h1, Nat.lt_of_lt_of_le h2 k.size, fun j hj => by rw [k.cell (p := ⟨b, o + j, none⟩) h2]; exact h3 j hj⟩
def IsRow (k : IntKind) (w : World) (a : Option Addr) (len cap : Nat) (zs : List Int) : Prop :=
  (a = none ∧ len = 0 ∧ cap = 0 ∧ zs = []) ∨
  ∃ x, a = some x ∧ len ≤ cap ∧ cap ≤ maxLen ∧ zs.length = cap ∧ (∀ i, i < zs.length → w.cell? (x.add i) = some (.int k (zs.getD i 0))) ∧ ∀ n ∈ zs, (Lit.int k n).wf = true
theorem byt_of {w : World} {a : Option Addr} {len cap : Nat} {zs : List Int} (h : IsRow .u8 w a len cap zs) : len ≤ 9223372036854775807 ∧ ∃ q, Byt w a len q := by
  rcases h with ⟨_, rfl, _⟩ | ⟨x, rfl, hlc, hm, hz, hc, hwf⟩
  · exact ⟨by omega, fun _ => 0, fun h => absurd h (by omega)⟩
  · refine ⟨by unfold maxLen at hm; omega, fun j => (zs.getD j 0).toNat, fun h0 => ?_⟩
    obtain ⟨b, o, s⟩ := x
    have hc0 := hc 0 (by omega)
    have hs : s = none := by
      cases s with
      | none => rfl
      | some q => simp [Addr.add, World.cell?] at hc0; split at hc0 <;> simp at hc0
    subst hs
    have hb : b < w.heap.size := by have := lt_of_cell hc0; simpa [Addr.add] using this
    refine ⟨b, o, rfl, hb, fun j hj => ?_⟩
    have hj' : j < zs.length := by omega
    have := hc j hj'
    rw [addr_add] at this
    have hw := hwf (zs.getD j 0) (by rw [List.getD_eq_getElem?_getD, List.getElem?_eq_getElem hj']; exact List.getElem_mem _)
    have hb8 : 0 ≤ zs.getD j 0 ∧ zs.getD j 0 ≤ 255 := by have := bounds_u8 hw; omega
    refine ⟨?_, by simp only []; omega⟩
    rw [this]
    congr 2
    show _ = (((zs.getD j 0).toNat : Nat) : Int)
    omega

/-- filled: task t + 1 with the priority 1 + q t % m -/
def fil (q : Nat → Nat) (m : Nat) : Nat → St
  | 0 => St.new
  | t + 1 => (fil q m t).put ((t : Int) + 1) (1 + q t % m)
theorem fil_P (q : Nat → Nat) (m : Nat) : ∀ (t : Nat) (x : Int), (fil q m t).P x = if 1 ≤ x ∧ x ≤ (t : Int) then 1 + q (x.toNat - 1) % m else 0
  | 0, x => by rw [if_neg (by omega)]; rfl
  | t + 1, x => by
    have ih := fil_P q m t x
    show (if x = (t : Int) + 1 then 1 + q t % m else (fil q m t).P x) = _
    by_cases c : x = (t : Int) + 1
    · rw [if_pos c, if_pos (by omega), show x.toNat - 1 = t by omega]
    · rw [if_neg c, ih]
      by_cases c2 : 1 ≤ x ∧ x ≤ (t : Int)
      · rw [if_pos c2, if_pos (by omega)]
      · rw [if_neg c2, if_neg (by omega)]
theorem fil_free (q : Nat → Nat) (m t : Nat) : (fil q m t).P ((t : Int) + 1) = 0 := by rw [fil_P, if_neg (by omega)]
theorem fil_good (q : Nat → Nat) (m : Nat) (h0 : 0 < m) (hm : m ≤ 16) : ∀ t, t ≤ 16 → Good (fil q m t)
  | 0, _ => Good.new
  | t + 1, ht => by
    have := Nat.mod_lt (q t) h0
    exact (fil_good q m h0 hm t (by omega)).put ⟨by omega, by omega⟩ (fil_free q m t) (by omega) (by omega)
theorem fil_add (q : Nat → Nat) (m : Nat) (h0 : 0 < m) (hm : m ≤ 16) (t : Nat) (ht : t < 16) (p : Int) (hp : p = 1 + ((q t % m : Nat) : Int)) :
    (fil q m t).add ((t : Int) + 1) p = fil q m (t + 1) ∧ (fil q m t).addC ((t : Int) + 1) p = 0 := by
  have := Nat.mod_lt (q t) h0
  have h1 : inR ((t : Int) + 1) := ⟨by omega, by omega⟩
  have h2 : inR p := ⟨by omega, by omega⟩
  have h3 := fil_free q m t
  refine ⟨?_, by unfold St.addC; rw [if_pos ⟨h1, h2⟩, if_pos h3]⟩
  unfold St.add
  rw [if_pos ⟨h1, h2, h3⟩, show p.toNat = 1 + q t % m by omega]; rfl
theorem mem_allF {R : Nat → List Int} {a : Nat} {x : Int} (h : x ∈ R a) : ∀ (n s : Nat), s ≤ a → a < s + n → x ∈ allF R n s
  | 0, s, h1, h2 => by omega
  | n + 1, s, h1, h2 => by
    rw [allF, List.mem_append]
    by_cases c : s = a
    · subst c; exact .inl h
    · exact .inr (mem_allF h n (s + 1) (by omega) (by omega))
theorem Good.mem_all {S : St} (h : Good S) {x : Int} : x ∈ S.all ↔ S.P x ≠ 0 := by
  constructor
  · intro hx
    obtain ⟨a, h1, _, h3⟩ := allF_mem _ _ _ _ hx
    have := (h.mem a x).1 h3; omega
  · intro hx
    have := h.le x
    exact mem_allF ((h.mem (S.P x) x).2 ⟨hx, rfl⟩) 256 1 (by omega) (by omega)
theorem Good.put_del {S : St} (h : Good S) {x : Int} {a : Nat} (h0 : S.P x = 0) : (S.put x a).del x = S := by
  refine St.ext' (fun b => ?_) (fun y => ?_)
  · show (if b = a then S.R b ++ [x] else S.R b).filter (· != x) = S.R b
    split
    · rw [List.filter_append, filter_id (h.notin h0 b)]; simp
    · exact filter_id (h.notin h0 b)
  · show (if y = x then 0 else if y = x then a else S.P y) = S.P y
    split <;> simp_all
theorem Good.put_len {S : St} (h : Good S) {x : Int} {a : Nat} (hx : inR x) (h0 : S.P x = 0) (h1 : 1 ≤ a) (h2 : a ≤ 16) : (S.put x a).all.length = S.all.length + 1 := by
  have hg := h.put hx h0 h1 h2
  have hm : x ∈ (S.put x a).all := hg.mem_all.2 (by rw [put_P]; omega)
  obtain ⟨k, hk⟩ := List.mem_iff_getElem?.1 hm
  have hkl := (List.getElem?_eq_some_iff.1 hk).1
  have hs : (S.put x a).all.filter (· != x) = (S.put x a).all.eraseIdx k := filter_split (hg.allNodup 256 1) hk
  have hd : ((S.put x a).del x).all = S.all := by rw [h.put_del h0]
  have hl := congrArg List.length (hs.symm.trans ((all_del _ _).symm.trans hd))
  rw [List.length_eraseIdx_of_lt hkl] at hl
  omega
theorem fil_len (q : Nat → Nat) (m : Nat) (h0 : 0 < m) (hm : m ≤ 16) : ∀ t, t ≤ 16 → (fil q m t).all.length = t
  | 0, _ => show St.new.all.length = 0 by decide +kernel
  | t + 1, ht => by
    have := Nat.mod_lt (q t) h0
    have ih := fil_len q m h0 hm t (by omega)
    show ((fil q m t).put _ _).all.length = _
    rw [(fil_good q m h0 hm t (by omega)).put_len ⟨by omega, by omega⟩ (fil_free q m t) (by omega) (by omega), ih]

/-- rows rise -/
def Rise (S : St) : Prop := ∀ a, (S.R a).Pairwise (· < ·)
theorem fil_rise (q : Nat → Nat) (m : Nat) (h0 : 0 < m) (hm : m ≤ 16) : ∀ t, t ≤ 16 → Rise (fil q m t)
  | 0, _ => fun _ => List.Pairwise.nil
  | t + 1, ht => fun a => by
    have ih := fil_rise q m h0 hm t (by omega) a
    have hg := fil_good q m h0 hm t (by omega)
    show (if a = 1 + q t % m then (fil q m t).R a ++ [(t : Int) + 1] else (fil q m t).R a).Pairwise (· < ·)
    split
    · rw [List.pairwise_append]
      refine ⟨ih, by simp, fun x hx y hy => ?_⟩
      simp at hy; subst hy
      have := (hg.mem a x).1 hx
      have hP := fil_P q m t x
      split at hP <;> omega
    · exact ih
theorem rise_all {S : St} (h : Good S) (hr : Rise S) : ∀ (n s : Nat), (allF S.R n s).Pairwise (fun x y => S.P x < S.P y ∨ (S.P x = S.P y ∧ x < y))
  | 0, _ => List.Pairwise.nil
  | n + 1, s => by
    rw [allF, List.pairwise_append]
    refine ⟨?_, rise_all h hr n (s + 1), fun x hx y hy => ?_⟩
    · exact (hr s).imp_of_mem fun {x y} hx hy hxy => .inr ⟨by have := (h.mem s x).1 hx; have := (h.mem s y).1 hy; omega, hxy⟩
    · obtain ⟨a, h1, _, h3⟩ := allF_mem _ _ _ _ hy
      have := (h.mem s x).1 hx
      have := (h.mem a y).1 h3
      exact .inl (by omega)

/-- rotated k times -/
def St.turn (S : St) (a k : Nat) : St := ⟨fun b => if b = a then (S.R a).drop k ++ (S.R a).take k else S.R b, S.P⟩
theorem turn_0 (S : St) (a : Nat) : S.turn a 0 = S := St.ext' (fun b => by show (if b = a then (S.R a).drop 0 ++ (S.R a).take 0 else S.R b) = _; split <;> simp_all) (fun _ => rfl)
theorem turn_all (S : St) (a : Nat) : S.turn a (S.R a).length = S := St.ext' (fun b => by show (if b = a then (S.R a).drop _ ++ (S.R a).take _ else S.R b) = _; split <;> simp_all) (fun _ => rfl)
theorem turn_row (S : St) (a k : Nat) : (S.turn a k).R a = (S.R a).drop k ++ (S.R a).take k := by simp [St.turn]
theorem turn_next {S : St} (h : Good S) {a k : Nat} (ha : 1 ≤ a) (ha2 : a ≤ 16) (hk : k < (S.R a).length) : (S.turn a k).rot (a : Int) = S.turn a (k + 1) := by
  have hd : (S.R a).drop k = (S.R a)[k] :: (S.R a).drop (k + 1) := List.drop_eq_getElem_cons hk
  have hrow : (S.turn a k).R a = (S.R a)[k] :: ((S.R a).drop (k + 1) ++ (S.R a).take k) := by rw [turn_row, hd]; rfl
  generalize hy : (S.R a)[k] = y at *
  have hyk : (S.R a)[k]? = some y := by rw [List.getElem?_eq_getElem hk, hy]
  have hP : S.P y = a := ((h.mem a y).1 (List.mem_of_getElem? hyk)).2
  have hnd := h.nodup a
  have e0 : S.R a = (S.R a).take k ++ y :: (S.R a).drop (k + 1) := by rw [← hd, List.take_append_drop]
  have h1 : y ∉ (S.R a).take k ∧ y ∉ (S.R a).drop (k + 1) := by
    rw [e0] at hnd
    have h1 := List.nodup_append.1 hnd
    exact ⟨fun h => h1.2.2 y h y (by simp) rfl, (List.nodup_cons.1 h1.2.1).1⟩
  unfold St.rot
  rw [if_pos ⟨by omega, by omega⟩, Int.toNat_natCast, hrow]
  refine St.ext' (fun b => ?_) (fun x => ?_)
  · show (if b = a then ((S.turn a k).R b).filter (· != y) ++ [y] else ((S.turn a k).R b).filter (· != y)) = (if b = a then (S.R a).drop (k + 1) ++ (S.R a).take (k + 1) else S.R b)
    by_cases c : b = a
    · subst c
      rw [if_pos rfl, if_pos rfl, hrow, List.filter_cons_of_neg (by simp), List.filter_append, filter_id h1.1, filter_id h1.2, List.take_add_one, hyk]
      simp
    · rw [if_neg c, if_neg c]
      show (if b = a then _ else S.R b).filter (· != y) = S.R b
      rw [if_neg c, filter_id fun h2 => c (by have := ((h.mem b y).1 h2).2; omega)]
  · show (if x = y then a else if x = y then 0 else S.P x) = S.P x
    split
    · next e => rw [e, hP]
    · rfl
theorem turn_good {S : St} (h : Good S) {a : Nat} (ha : 1 ≤ a) (ha2 : a ≤ 16) : ∀ k, k ≤ (S.R a).length → Good (S.turn a k)
  | 0, _ => by rw [turn_0]; exact h
  | k + 1, hk => by rw [← turn_next h ha ha2 (by omega)]; exact (turn_good h ha ha2 k (by omega)).rot _
end Go.Proofs.YtfilggkdhcjpbaaDoor
