/- Wait queues as plain lists of pairs (who, priority): places, putting in, taking out, and what stays in order. No Go here. -/
namespace Go.Proofs.Ytneimdjgbblaoaa

abbrev It := Int × Int

/-- where one stands; the length: nowhere -/
def pos (L : List It) (id : Int) : Nat := L.findIdx (fun x => x.1 == id)
/-- where one of that priority goes -/
def plc (b : Bool) (L : List It) (pri : Int) : Nat := if b then L.findIdx (fun x => decide (pri < x.2)) else L.length
/-- put in at a place -/
def ins (L : List It) (k : Nat) (x : It) : List It := L.take k ++ x :: L.drop k

structure Good (b : Bool) (L : List It) : Prop where
  ids : (L.map Prod.fst).Nodup
  rng : ∀ x, x ∈ L → 1 ≤ x.1 ∧ x.1 ≤ 16 ∧ 1 ≤ x.2 ∧ x.2 ≤ 16
  ord : b = true → L.Pairwise (fun x y => x.2 ≤ y.2)

theorem good_nil (b : Bool) : Good b [] := ⟨by simp, by simp, by simp⟩

theorem pos_le (L : List It) (id : Int) : pos L id ≤ L.length := List.findIdx_le_length
theorem pos_lt {L : List It} {id : Int} : pos L id < L.length ↔ ∃ x, x ∈ L ∧ x.1 = id := by
  unfold pos; rw [List.findIdx_lt_length]; simp
theorem pos_at {L : List It} {id : Int} (h : pos L id < L.length) : ∃ q, L[pos L id]? = some (id, q) := by
  have h2 := List.findIdx_getElem (p := fun x : It => x.1 == id) (xs := L) (w := h)
  refine ⟨(L[pos L id]).2, ?_⟩
  rw [List.getElem?_eq_getElem h]
  simp at h2
  congr 1
  exact Prod.ext h2 rfl
theorem pos_before {L : List It} {id : Int} {j : Nat} {y : It} (h : j < pos L id) (hy : L[j]? = some y) : y.1 ≠ id := by
  have h2 := List.not_of_lt_findIdx (p := fun x : It => x.1 == id) (xs := L) h
  obtain ⟨hj, e⟩ := List.getElem?_eq_some_iff.1 hy
  subst e
  simpa using h2
theorem pos_eq {L : List It} {id : Int} {i : Nat} {x : It} (hx : L[i]? = some x) (he : x.1 = id) (hb : ∀ (j : Nat) (y : It), j < i → L[j]? = some y → y.1 ≠ id) : pos L id = i := by
  obtain ⟨hi, e⟩ := List.getElem?_eq_some_iff.1 hx
  have hp : pos L id < L.length := pos_lt.2 ⟨x, List.mem_of_getElem? hx, he⟩
  obtain ⟨q, hq⟩ := pos_at hp
  rcases Nat.lt_trichotomy (pos L id) i with g | g | g
  · exact absurd rfl (hb _ _ g hq)
  · exact g
  · exact absurd he (pos_before g hx)
theorem pos_none {L : List It} {id : Int} (h : ∀ (j : Nat) (y : It), L[j]? = some y → y.1 ≠ id) : pos L id = L.length := by
  have := pos_le L id
  by_cases c : pos L id < L.length
  · obtain ⟨q, hq⟩ := pos_at c; exact absurd rfl (h _ _ hq)
  · omega

theorem plc_le (b : Bool) (L : List It) (pri : Int) : plc b L pri ≤ L.length := by
  unfold plc; split
  · exact List.findIdx_le_length
  · exact Nat.le_refl _
theorem plc_eq {L : List It} {pri : Int} {i : Nat} {x : It} (hx : L[i]? = some x) (he : pri < x.2) (hb : ∀ (j : Nat) (y : It), j < i → L[j]? = some y → y.2 ≤ pri) : plc true L pri = i := by
  obtain ⟨hi, e⟩ := List.getElem?_eq_some_iff.1 hx
  unfold plc; rw [if_pos rfl]
  rw [List.findIdx_eq hi]
  refine ⟨by rw [e]; simpa using he, fun j hj => ?_⟩
  simpa using hb j _ hj (List.getElem?_eq_getElem (by omega))
theorem plc_none {L : List It} {pri : Int} (h : ∀ (j : Nat) (y : It), L[j]? = some y → y.2 ≤ pri) : plc true L pri = L.length := by
  unfold plc; rw [if_pos rfl]
  rw [List.findIdx_eq_length]
  intro x hx
  obtain ⟨j, hj, e⟩ := List.getElem_of_mem hx
  simpa [e] using h j _ (List.getElem?_eq_getElem hj)
theorem plc_before {L : List It} {pri : Int} {j : Nat} {y : It} (h : j < plc true L pri) (hy : L[j]? = some y) : y.2 ≤ pri := by
  unfold plc at h; rw [if_pos rfl] at h
  have h2 := List.not_of_lt_findIdx h
  obtain ⟨hj, e⟩ := List.getElem?_eq_some_iff.1 hy
  subst e
  simpa using h2
theorem plc_at {L : List It} {pri : Int} {y : It} (hy : L[plc true L pri]? = some y) : pri < y.2 := by
  obtain ⟨hj, e⟩ := List.getElem?_eq_some_iff.1 hy
  have h2 := List.findIdx_getElem (p := fun x : It => decide (pri < x.2)) (xs := L) (w := by simpa [plc] using hj)
  subst e
  simpa [plc] using h2

theorem take_mem_before {b : Bool} {L : List It} {pri : Int} {x : It} (hb : b = true) (h : x ∈ L.take (plc b L pri)) : x.2 ≤ pri := by
  subst hb
  obtain ⟨j, hj, e⟩ := List.getElem_of_mem h
  rw [List.length_take] at hj
  rw [List.getElem_take] at e
  exact plc_before (L := L) (j := j) (by omega) (by rw [List.getElem?_eq_getElem (by omega), e])
theorem drop_mem_behind {b : Bool} {L : List It} {pri : Int} {x : It} (hs : L.Pairwise (fun x y => x.2 ≤ y.2)) (hb : b = true) (h : x ∈ L.drop (plc b L pri)) : pri < x.2 := by
  subst hb
  obtain ⟨j, hj, e⟩ := List.getElem_of_mem h
  rw [List.length_drop] at hj
  rw [List.getElem_drop] at e
  have h0 : plc true L pri < L.length := by omega
  have h1 := plc_at (List.getElem?_eq_getElem h0)
  by_cases c : j = 0
  · subst c; simp only [Nat.add_zero] at e; rw [← e]; exact h1
  · have h2 := (List.pairwise_iff_getElem.1 hs) (plc true L pri) (plc true L pri + j) h0 (by omega) (by omega)
    rw [e] at h2; omega

theorem ins_len {L : List It} {k : Nat} (h : k ≤ L.length) (x : It) : (ins L k x).length = L.length + 1 := by
  unfold ins; simp; omega
theorem mem_ins {L : List It} {k : Nat} {x y : It} : y ∈ ins L k x ↔ y = x ∨ y ∈ L := by
  unfold ins
  rw [List.mem_append, List.mem_cons]
  have := List.take_append_drop k L
  constructor
  · rintro (h | h | h)
    · exact .inr (List.mem_of_mem_take h)
    · exact .inl h
    · exact .inr (List.mem_of_mem_drop h)
  · rintro (h | h)
    · exact .inr (.inl h)
    · rw [← this, List.mem_append] at h
      rcases h with h | h
      · exact .inl h
      · exact .inr (.inr h)

theorem nodup_ins {L : List It} {k : Nat} {x : It} (h : (L.map Prod.fst).Nodup) (hx : ∀ y, y ∈ L → y.1 ≠ x.1) : ((ins L k x).map Prod.fst).Nodup := by
  have e : L.map Prod.fst = (L.take k).map Prod.fst ++ (L.drop k).map Prod.fst := by rw [← List.map_append, List.take_append_drop]
  rw [e] at h
  have h' := List.nodup_append.1 h
  unfold ins
  rw [List.map_append, List.map_cons]
  refine List.nodup_append.2 ⟨h'.1, List.nodup_cons.2 ⟨?_, h'.2.1⟩, ?_⟩
  · intro hm
    obtain ⟨y, hy, ey⟩ := List.mem_map.1 hm
    exact hx y (List.mem_of_mem_drop hy) ey
  · intro a ha c hc
    rcases List.mem_cons.1 hc with hc | hc
    · subst hc
      obtain ⟨y, hy, ey⟩ := List.mem_map.1 ha
      rw [← ey]; exact hx y (List.mem_of_mem_take hy)
    · exact h'.2.2 a ha c hc

theorem Good.ins {b : Bool} {L : List It} (h : Good b L) {id pri : Int} (h1 : 1 ≤ id ∧ id ≤ 16) (h2 : 1 ≤ pri ∧ pri ≤ 16) (hn : ∀ y, y ∈ L → y.1 ≠ id) : Good b (ins L (plc b L pri) (id, pri)) := by
  refine ⟨nodup_ins h.ids hn, fun x hx => ?_, fun hb => ?_⟩
  · rcases mem_ins.1 hx with rfl | hx
    · exact ⟨h1.1, h1.2, h2.1, h2.2⟩
    · exact h.rng x hx
  · have hs := h.ord hb
    have hs' := hs
    rw [← List.take_append_drop (plc b L pri) L] at hs'
    have hs2 := List.pairwise_append.1 hs'
    unfold Ytneimdjgbblaoaa.ins
    refine List.pairwise_append.2 ⟨hs2.1, List.pairwise_cons.2 ⟨fun y hy => ?_, hs2.2.1⟩, fun x hx y hy => ?_⟩
    · have := drop_mem_behind hs hb hy; simp only; omega
    · rcases List.mem_cons.1 hy with rfl | hy
      · exact take_mem_before hb hx
      · exact hs2.2.2 x hx y hy

theorem Good.sub {b : Bool} {L M : List It} (h : Good b L) (hs : List.Sublist M L) : Good b M :=
  ⟨(hs.map _).nodup h.ids, fun x hx => h.rng x (hs.mem hx), fun hb => (h.ord hb).sublist hs⟩
theorem Good.erase {b : Bool} {L : List It} (h : Good b L) (k : Nat) : Good b (L.eraseIdx k) := h.sub (List.eraseIdx_sublist L k)
theorem Good.tail {b : Bool} {L : List It} (h : Good b L) (k : Nat) : Good b (L.drop k) := h.sub (List.drop_sublist k L)

theorem set_map {L : List It} {k : Nat} {id q pri : Int} (h : L[k]? = some (id, q)) : (L.set k (id, pri)).map Prod.fst = L.map Prod.fst := by
  apply List.ext_getElem?
  intro j
  rw [List.getElem?_map, List.getElem?_map, List.getElem?_set]
  by_cases e : k = j
  · subst e
    have := (List.getElem?_eq_some_iff.1 h).1
    rw [if_pos rfl, if_pos this, h]; rfl
  · simp [e]
theorem Good.set {b : Bool} {L : List It} (h : Good b L) (hb : b = false) {k : Nat} {id q pri : Int} (hk : L[k]? = some (id, q)) (h2 : 1 ≤ pri ∧ pri ≤ 16) : Good b (L.set k (id, pri)) := by
  refine ⟨by rw [set_map hk]; exact h.ids, fun x hx => ?_, fun hc => by rw [hb] at hc; cases hc⟩
  rcases List.mem_or_eq_of_mem_set hx with hx | rfl
  · exact h.rng x hx
  · have := h.rng _ (List.mem_of_getElem? hk); exact ⟨this.1, this.2.1, h2.1, h2.2⟩

/-- a duplicate-free list of numbers from 1 to n has at most n -/
theorem nodup_len : ∀ (n : Nat) (l : List Int), l.Nodup → (∀ x, x ∈ l → 1 ≤ x ∧ x ≤ n) → l.length ≤ n
  | 0, l, _, h => by
    cases l with
    | nil => simp
    | cons a _ => have := h a (by simp); omega
  | n + 1, l, hn, h => by
    have hm := nodup_len n (l.erase ((n : Int) + 1)) (hn.erase _) (fun x hx => by
      have h1 := h x (List.mem_of_mem_erase hx)
      have h2 : x ≠ (n : Int) + 1 := by
        intro e; rw [e] at hx
        exact (List.Nodup.not_mem_erase hn) hx
      omega)
    have hl := List.length_erase (a := (n : Int) + 1) (l := l)
    split at hl <;> omega
theorem Good.len {b : Bool} {L : List It} (h : Good b L) : L.length ≤ 16 := by
  have := nodup_len 16 (L.map Prod.fst) h.ids (fun x hx => by
    obtain ⟨y, hy, e⟩ := List.mem_map.1 hx
    have := h.rng y hy; omega)
  simpa using this
theorem Good.room {b : Bool} {L : List It} (h : Good b L) {id : Int} (h1 : 1 ≤ id ∧ id ≤ 16) (hn : ∀ y, y ∈ L → y.1 ≠ id) : L.length < 16 := by
  have := nodup_len 16 (id :: L.map Prod.fst) (List.nodup_cons.2 ⟨fun hm => by
    obtain ⟨y, hy, e⟩ := List.mem_map.1 hm
    exact hn y hy e, h.ids⟩) (fun x hx => by
    rcases List.mem_cons.1 hx with rfl | hx
    · exact ⟨h1.1, h1.2⟩
    · obtain ⟨y, hy, e⟩ := List.mem_map.1 hx
      have := h.rng y hy; omega)
  simp at this; omega
/-- who was taken out is not there -/
theorem Good.out {b : Bool} {L : List It} (h : Good b L) {k : Nat} {id q : Int} (hk : L[k]? = some (id, q)) : ∀ y, y ∈ L.eraseIdx k → y.1 ≠ id := by
  intro y hy e
  obtain ⟨j, hj1, hj2⟩ := List.mem_eraseIdx_iff_getElem?.1 hy
  have hi := h.ids
  obtain ⟨hk1, hk2⟩ := List.getElem?_eq_some_iff.1 hk
  obtain ⟨hl1, hl2⟩ := List.getElem?_eq_some_iff.1 hj2
  have hp := List.pairwise_iff_getElem.1 hi
  rcases Nat.lt_trichotomy j k with g | g | g
  · exact hp j k (by simpa using hl1) (by simpa using hk1) g (by simp [hl2, hk2, e])
  · exact hj1 g
  · exact hp k j (by simpa using hk1) (by simpa using hl1) g (by simp [hl2, hk2, e])

/-- what Add makes of the row -/
def addL (b : Bool) (L : List It) (id pri : Int) : List It :=
  if (1 ≤ id ∧ id ≤ 16) ∧ (1 ≤ pri ∧ pri ≤ 16) ∧ ¬ pos L id < L.length then ins L (plc b L pri) (id, pri) else L
def addC (L : List It) (id pri : Int) : Int :=
  if (1 ≤ id ∧ id ≤ 16) ∧ (1 ≤ pri ∧ pri ≤ 16) then if pos L id < L.length then -41 else 0 else -17
def chgOk (L : List It) (id pri : Int) : Bool := decide (pos L id < L.length ∧ 1 ≤ pri ∧ pri ≤ 16)
def chgL (b : Bool) (L : List It) (id pri : Int) : List It :=
  if pos L id < L.length ∧ 1 ≤ pri ∧ pri ≤ 16 then
    if b then ins (L.eraseIdx (pos L id)) (plc b (L.eraseIdx (pos L id)) pri) (id, pri) else L.set (pos L id) (id, pri)
  else L

theorem not_pos {L : List It} {id : Int} (h : ¬ pos L id < L.length) : ∀ y, y ∈ L → y.1 ≠ id := fun y hy e => h (pos_lt.2 ⟨y, hy, e⟩)
theorem Good.addL {b : Bool} {L : List It} (h : Good b L) (id pri : Int) : Good b (addL b L id pri) := by
  unfold Ytneimdjgbblaoaa.addL
  split
  · rename_i c; exact h.ins c.1 c.2.1 (not_pos c.2.2)
  · exact h
theorem Good.chgL {b : Bool} {L : List It} (h : Good b L) (id pri : Int) : Good b (chgL b L id pri) := by
  unfold Ytneimdjgbblaoaa.chgL
  split
  · rename_i c
    obtain ⟨q, hq⟩ := pos_at c.1
    have hr := h.rng _ (List.mem_of_getElem? hq)
    split
    · exact (h.erase _).ins ⟨hr.1, hr.2.1⟩ c.2 (h.out hq)
    · rename_i c2; exact h.set (by simpa using c2) hq c.2
  · exact h
theorem chgL_len {b : Bool} {L : List It} (id pri : Int) : (chgL b L id pri).length = L.length := by
  unfold chgL
  split
  · rename_i c
    split
    · rw [ins_len (plc_le _ _ _), List.length_eraseIdx_of_lt c.1]; omega
    · simp
  · rfl
end Go.Proofs.Ytneimdjgbblaoaa
