/- Entries by time and then by handle, heaps as lists, the sorted row of entries; no Go. -/
import Derived.Test.YtpnhpgdidineaaaRows
namespace Go.Proofs.Ytpnhpgdidineaaa

/-- an entry: its time, its handle, its arg -/
abbrev En := Int × Int × Int

def lt (x y : En) : Prop := x.1 < y.1 ∨ (x.1 = y.1 ∧ x.2.1 < y.2.1)
instance (x y : En) : Decidable (lt x y) := by unfold lt; infer_instance
def le (x y : En) : Prop := ¬ lt y x

theorem le_of_lt {x y : En} (h : lt x y) : le x y := by unfold le lt at *; omega
theorem le_trans {x y z : En} (h : le x y) (k : le y z) : le x z := by unfold le lt at *; omega
theorem lt_trans {x y z : En} (h : lt x y) (k : lt y z) : lt x z := by unfold lt at *; omega
theorem le_refl (x : En) : le x x := by unfold le lt; omega
theorem lt_le {x y z : En} (h : lt x y) (k : le y z) : le x z := le_trans (le_of_lt h) k
theorem le_time {x y : En} (h : le x y) : x.1 ≤ y.1 := by unfold le lt at h; omega
theorem lt_time {x y : En} (h : lt x y) : x.1 ≤ y.1 := by unfold lt at h; omega

/-- what 'before' tells -/
def bef (x y : En) : Bool := decide (lt x y)

/-- the entry at a place -/
def ix (H : List En) (i : Nat) : En := (H[i]?).getD (0, 0, 0)
theorem ix_get {H : List En} {i : Nat} {x : En} (h : H[i]? = some x) : ix H i = x := by unfold ix; rw [h]; rfl
theorem get_ix {H : List En} {i : Nat} (h : i < H.length) : H[i]? = some (ix H i) := by unfold ix; rw [List.getElem?_eq_getElem h]; rfl
theorem ix_eq {H : List En} {i : Nat} (h : i < H.length) : H[i] = ix H i := by unfold ix; rw [List.getElem?_eq_getElem h]; rfl
theorem ix_mem {H : List En} {i : Nat} (h : i < H.length) : ix H i ∈ H := by rw [← ix_eq h]; exact List.getElem_mem h
theorem mem_ix {H : List En} {x : En} (h : x ∈ H) : ∃ i, i < H.length ∧ ix H i = x := by
  obtain ⟨i, hi, e⟩ := List.getElem_of_mem h
  exact ⟨i, hi, by rw [← ix_eq hi]; exact e⟩

/-- two entries exchanged -/
def swp (H : List En) (i j : Nat) : List En := (H.set i (ix H j)).set j (ix H i)
theorem swp_len (H : List En) (i j : Nat) : (swp H i j).length = H.length := by simp [swp]
theorem swp_ix {H : List En} {i j : Nat} (hi : i < H.length) (hj : j < H.length) (k : Nat) : ix (swp H i j) k = if k = j then ix H i else if k = i then ix H j else ix H k := by
  unfold swp
  conv => lhs; unfold ix
  rw [List.getElem?_set, List.getElem?_set]
  by_cases c1 : j = k
  · subst c1; simp [hj]; rfl
  · rw [if_neg c1, if_neg (Ne.symm c1)]
    by_cases c2 : i = k
    · subst c2; simp [hi]; rfl
    · rw [if_neg c2, if_neg (Ne.symm c2)]; rfl
theorem swp_perm {H : List En} {i j : Nat} (hi : i < H.length) (hj : j < H.length) : (swp H i j).Perm H := by
  have := @List.set_set_perm En H i j hi hj
  rw [ix_eq hi, ix_eq hj] at this
  exact this

/-- a heap -/
def Hp (H : List En) : Prop := ∀ i, 0 < i → i < H.length → le (ix H ((i - 1) / 2)) (ix H i)
/-- a heap but for the entry at a, which may belong above -/
def RiseInv (H : List En) (a : Nat) : Prop :=
  (∀ i, 0 < i → i < H.length → i ≠ a → le (ix H ((i - 1) / 2)) (ix H i)) ∧
  (∀ c, 0 < c → c < H.length → (c - 1) / 2 = a → 0 < a → le (ix H ((a - 1) / 2)) (ix H c))
/-- one that went down from a to k -/
def SinkInv (H : List En) (a k : Nat) : Prop :=
  (∀ i, 0 < i → i < H.length → i ≠ a → (i - 1) / 2 ≠ k → le (ix H ((i - 1) / 2)) (ix H i)) ∧
  (∀ c, 0 < c → c < H.length → (c - 1) / 2 = k → 0 < k → le (ix H ((k - 1) / 2)) (ix H c)) ∧
  (k = a ∨ (0 < a → le (ix H ((a - 1) / 2)) (ix H a)))
/-- the first of an entry and the two below it stands at r -/
def FB (H : List En) (k r : Nat) : Prop :=
  (∀ c, 0 < c → c < H.length → (c - 1) / 2 = k → le (ix H r) (ix H c)) ∧ (r = k ∨ (r < H.length ∧ (r = 2 * k + 1 ∨ r = 2 * k + 2) ∧ lt (ix H r) (ix H k)))

theorem rise_step {H : List En} {a p : Nat} (ha : 0 < a) (hn : a < H.length) (hp : (a - 1) / 2 = p) (h : RiseInv H a) (hl : lt (ix H a) (ix H p)) : RiseInv (swp H a p) p := by
  obtain ⟨h1, h2⟩ := h
  have hpn : p < H.length := by omega
  have e := swp_ix hn hpn
  have hpa : p < a := by omega
  refine ⟨fun i hi hin hip => ?_, fun c hc hcn hcp hp0 => ?_⟩
  · rw [swp_len] at hin
    rw [e, e]
    by_cases c1 : i = a
    · subst c1
      rw [hp, if_pos rfl, if_neg (by omega), if_pos rfl]; exact le_of_lt hl
    · rw [if_neg (show i ≠ p from hip), if_neg c1]
      by_cases c2 : (i - 1) / 2 = a
      · rw [if_neg (by omega), if_pos c2]
        have := h2 i hi hin c2 ha
        rw [hp] at this; exact this
      · by_cases c3 : (i - 1) / 2 = p
        · rw [if_pos c3]
          have := h1 i hi hin c1
          rw [c3] at this; exact lt_le hl this
        · rw [if_neg c3, if_neg c2]; exact h1 i hi hin c1
  · rw [swp_len] at hcn
    rw [e, e, if_neg (by omega), if_neg (by omega), if_neg (by omega)]
    have hpp := h1 p hp0 hpn (by omega)
    by_cases c1 : c = a
    · rw [if_pos c1]; exact hpp
    · rw [if_neg c1]
      have := h1 c hc hcn c1
      rw [hcp] at this; exact le_trans hpp this
theorem rise_end {H : List En} {a : Nat} (h : RiseInv H a) (ha : 0 < a → a < H.length → le (ix H ((a - 1) / 2)) (ix H a)) : Hp H := by
  intro i hi hin
  by_cases c : i = a
  · subst c; exact ha hi hin
  · exact h.1 i hi hin c

theorem sink_step {H : List En} {a k f : Nat} (hak : a ≤ k) (hk : k < H.length) (h : SinkInv H a k) (hf : FB H k f) (hne : f ≠ k) : SinkInv (swp H k f) a f := by
  obtain ⟨h1, h2, h3⟩ := h
  obtain ⟨f1, f2⟩ := hf
  rcases f2 with f2 | ⟨hfn, hfk, hl⟩
  · exact absurd f2 hne
  have e := swp_ix hk hfn
  have hpf : (f - 1) / 2 = k := by omega
  refine ⟨fun i hi hin hia hif => ?_, fun c hc hcn hcf hf0 => ?_, ?_⟩
  · rw [swp_len] at hin
    rw [e, e, if_neg hif]
    by_cases c1 : i = f
    · subst c1; rw [if_pos hpf, if_pos rfl]; exact le_of_lt hl
    · rw [if_neg c1]
      by_cases c2 : (i - 1) / 2 = k
      · rw [if_pos c2, if_neg (by omega)]; exact f1 i hi hin c2
      · rw [if_neg c2]
        by_cases c3 : i = k
        · subst c3; rw [if_pos rfl]; exact h2 f (by omega) hfn hpf hi
        · rw [if_neg c3]; exact h1 i hi hin hia c2
  · rw [swp_len] at hcn
    rw [e, e, if_neg (by omega), if_pos hpf, if_neg (by omega), if_neg (by omega)]
    have := h1 c hc hcn (by omega) (by omega)
    rw [hcf] at this; exact this
  · refine .inr fun ha0 => ?_
    rw [e, e, if_neg (by omega), if_neg (by omega), if_neg (by omega)]
    rcases h3 with h3 | h3
    · subst h3; rw [if_pos rfl]; exact h2 f (by omega) hfn hpf ha0
    · by_cases c : a = k
      · subst c; rw [if_pos rfl]; exact h2 f (by omega) hfn hpf ha0
      · rw [if_neg c]; exact h3 ha0
theorem sink_end {H : List En} {a k : Nat} (h : SinkInv H a k) (hf : FB H k k) : RiseInv H a := by
  obtain ⟨h1, h2, h3⟩ := h
  have h1' : ∀ i, 0 < i → i < H.length → i ≠ a → le (ix H ((i - 1) / 2)) (ix H i) := fun i hi hin hia => by
    by_cases c : (i - 1) / 2 = k
    · rw [c]; exact hf.1 i hi hin c
    · exact h1 i hi hin hia c
  refine ⟨h1', fun c hc hcn hca ha => ?_⟩
  rcases h3 with h3 | h3
  · subst h3; exact h2 c hc hcn hca ha
  · have := h1' c hc hcn (by omega)
    rw [hca] at this
    exact le_trans (h3 ha) this

/-- an entry is put behind -/
theorem rise_add {H : List En} (h : Hp H) (x : En) : RiseInv (H ++ [x]) H.length := by
  have e : ∀ i, i < H.length → ix (H ++ [x]) i = ix H i := fun i hi => by unfold ix; rw [List.getElem?_append_left hi]
  refine ⟨fun i hi hin hia => ?_, fun c hc hcn hca ha => ?_⟩
  · have : i < H.length := by simp at hin; omega
    rw [e i this, e _ (by omega)]; exact h i hi this
  · simp at hcn; omega
/-- what is left when the last one fills the gap at a -/
def gap (H : List En) (a : Nat) : List En := (H.set a (ix H (H.length - 1))).take (H.length - 1)
theorem gap_len (H : List En) (a : Nat) : (gap H a).length = H.length - 1 := by simp [gap]
theorem gap_ix {H : List En} {a i : Nat} (hi : i < H.length - 1) : ix (gap H a) i = if i = a then ix H (H.length - 1) else ix H i := by
  unfold gap
  conv => lhs; unfold ix
  rw [List.getElem?_take, if_pos hi, List.getElem?_set]
  by_cases c : a = i
  · subst c; rw [if_pos rfl, if_pos (by omega), if_pos rfl]; rfl
  · rw [if_neg c, if_neg (Ne.symm c)]; rfl
theorem gap_perm {H : List En} {a : Nat} (ha : a < H.length) : (ix H a :: gap H a).Perm H := by
  have h1 : (H.set a (ix H (H.length - 1))).length = H.length := by simp
  have hl : H.length - 1 < H.length := by omega
  have key := swp_perm ha hl
  have h2 : swp H a (H.length - 1) = gap H a ++ [ix H a] := by
    apply List.ext_getElem?
    intro i
    by_cases c : i < H.length - 1
    · rw [List.getElem?_append_left (by rw [gap_len]; exact c), get_ix (by rw [swp_len]; omega), get_ix (by rw [gap_len]; exact c), swp_ix ha hl, gap_ix c, if_neg (by omega)]
    · by_cases c2 : i = H.length - 1
      · subst c2
        rw [List.getElem?_append_right (by rw [gap_len]; omega), gap_len, Nat.sub_self, get_ix (by rw [swp_len]; omega), swp_ix ha hl, if_pos rfl]; rfl
      · rw [List.getElem?_eq_none (by rw [swp_len]; omega), List.getElem?_eq_none (by rw [List.length_append, gap_len]; simp; omega)]
  rw [h2] at key
  exact (List.perm_append_comm (l₁ := [ix H a]) (l₂ := gap H a)).trans key
theorem sink_gap {H : List En} (h : Hp H) {a : Nat} (ha : a < H.length) : SinkInv (gap H a) a a := by
  refine ⟨fun i hi hin hia hpa => ?_, fun c hc hcn hca ha0 => ?_, .inl rfl⟩
  · rw [gap_len] at hin
    rw [gap_ix hin, gap_ix (by omega), if_neg hia, if_neg hpa]; exact h i hi (by omega)
  · rw [gap_len] at hcn
    rw [gap_ix hcn, gap_ix (by omega), if_neg (by omega), if_neg (by omega)]
    have h1 := h a ha0 ha
    have h2 := h c hc (by omega)
    rw [hca] at h2
    exact le_trans h1 h2
/-- the first of all stands at 0 -/
theorem hp_first {H : List En} (h : Hp H) : ∀ i, i < H.length → le (ix H 0) (ix H i) := by
  intro i
  induction i using Nat.strongRecOn with
  | ind i ih =>
    intro hi
    by_cases c : i = 0
    · subst c; exact le_refl _
    · exact le_trans (ih ((i - 1) / 2) (by omega) (by omega)) (h i (by omega) hi)

/-- the row of entries, sorted; handles apart and up to the last one -/
structure Good (S : List En) (last : Int) : Prop where
  srt : S.Pairwise lt
  apart : S.Pairwise fun x y => x.2.1 ≠ y.2.1
  bnd : ∀ x, x ∈ S → 1 ≤ x.2.1 ∧ x.2.1 ≤ last
  len : S.length ≤ 256
  pos : 0 ≤ last

theorem apart_inj : ∀ {S : List En}, (S.Pairwise fun x y => x.2.1 ≠ y.2.1) → ∀ x y, x ∈ S → y ∈ S → x.2.1 = y.2.1 → x = y
  | [], _, x, y, hx, _, _ => by simp at hx
  | z :: S, h, x, y, hx, hy, e => by
    rw [List.pairwise_cons] at h
    rcases List.mem_cons.1 hx with e1 | hx1
    · rcases List.mem_cons.1 hy with e2 | hy1
      · rw [e1, e2]
      · rw [e1] at e; exact absurd e (h.1 y hy1)
    · rcases List.mem_cons.1 hy with e2 | hy1
      · rw [e2] at e; exact absurd e.symm (h.1 x hx1)
      · exact apart_inj h.2 x y hx1 hy1 e

/-- an entry is laid into the row -/
def ins (x : En) : List En → List En
  | [] => [x]
  | y :: S => if lt x y then x :: y :: S else y :: ins x S
theorem ins_perm (x : En) : ∀ S, (ins x S).Perm (x :: S)
  | [] => List.Perm.refl _
  | y :: S => by
    unfold ins
    by_cases c : lt x y
    · rw [if_pos c]
    · rw [if_neg c]; exact ((ins_perm x S).cons y).trans (List.Perm.swap x y S)
theorem ins_len (x : En) (S : List En) : (ins x S).length = S.length + 1 := by have := (ins_perm x S).length_eq; simpa using this
theorem ins_mem (x : En) (S : List En) (y : En) : y ∈ ins x S ↔ y = x ∨ y ∈ S := by rw [(ins_perm x S).mem_iff]; simp
theorem ins_srt (x : En) : ∀ S, S.Pairwise lt → (∀ y, y ∈ S → y.2.1 ≠ x.2.1) → (ins x S).Pairwise lt
  | [], _, _ => by simp [ins]
  | y :: S, h, hx => by
    unfold ins
    rw [List.pairwise_cons] at h
    by_cases c : lt x y
    · rw [if_pos c, List.pairwise_cons, List.pairwise_cons]
      refine ⟨fun z hz => ?_, h⟩
      rcases List.mem_cons.1 hz with rfl | hz
      · exact c
      · exact lt_trans c (h.1 z hz)
    · rw [if_neg c, List.pairwise_cons]
      refine ⟨fun z hz => ?_, ins_srt x S h.2 fun z hz => hx z (List.mem_cons_of_mem _ hz)⟩
      rcases (ins_mem x S z).1 hz with rfl | hz
      · have := hx y List.mem_cons_self
        unfold lt at *; omega
      · exact h.1 z hz
theorem good_ins {S : List En} {last : Int} (h : Good S last) (hl : S.length < 256) (a g : Int) : Good (ins (a, last + 1, g) S) (last + 1) := by
  have hne : ∀ y, y ∈ S → y.2.1 ≠ last + 1 := fun y hy => by have := h.bnd y hy; omega
  refine ⟨ins_srt _ S h.srt hne, ?_, fun x hx => ?_, by rw [ins_len]; omega, by have := h.pos; omega⟩
  · refine (List.Perm.pairwise_iff (fun h => Ne.symm h) (ins_perm (a, last + 1, g) S)).2 ?_
    rw [List.pairwise_cons]
    exact ⟨fun y hy => Ne.symm (hne y hy), h.apart⟩
  · rcases (ins_mem _ S x).1 hx with rfl | hx
    · have := h.pos; exact ⟨by show (1 : Int) ≤ last + 1; omega, Int.le_refl _⟩
    · have := h.bnd x hx; omega
theorem good_sub {S S' : List En} {last : Int} (h : Good S last) (hs : S'.Sublist S) : Good S' last :=
  ⟨h.srt.sublist hs, h.apart.sublist hs, fun x hx => h.bnd x (hs.subset hx), Nat.le_trans hs.length_le h.len, h.pos⟩
theorem good_nil : Good [] 0 := ⟨List.Pairwise.nil, List.Pairwise.nil, fun x hx => by simp at hx, by simp, Int.le_refl _⟩

/-- an entry is taken out -/
def del (S : List En) (h : Int) : List En := S.filter fun x => !decide (x.2.1 = h)
theorem mem_del {S : List En} {h : Int} {x : En} : x ∈ del S h ↔ x ∈ S ∧ x.2.1 ≠ h := by simp [del]
theorem good_del {S : List En} {last : Int} (h : Good S last) (k : Int) : Good (del S k) last := good_sub h List.filter_sublist
theorem del_none {S : List En} {h : Int} (hn : ∀ x, x ∈ S → x.2.1 ≠ h) : del S h = S := by
  unfold del; rw [List.filter_eq_self]; intro x hx; simpa using hn x hx
theorem del_perm : ∀ {S : List En}, (S.Pairwise fun x y => x.2.1 ≠ y.2.1) → ∀ x, x ∈ S → (x :: del S x.2.1).Perm S
  | [], _, x, hx => by simp at hx
  | z :: S, h, x, hx => by
    rw [List.pairwise_cons] at h
    rcases List.mem_cons.1 hx with rfl | hx
    · have e : del (x :: S) x.2.1 = S := by
        have := del_none (S := S) (h := x.2.1) fun y hy => Ne.symm (h.1 y hy)
        unfold del at *
        rw [List.filter_cons, if_neg (by simp)]; exact this
      rw [e]
    · have e : del (z :: S) x.2.1 = z :: del S x.2.1 := by
        unfold del
        rw [List.filter_cons, if_pos (by simpa using h.1 x hx)]
      rw [e]
      exact (List.Perm.swap z x _).trans ((del_perm h.2 x hx).cons z)
theorem del_len {S : List En} (h : S.Pairwise fun x y => x.2.1 ≠ y.2.1) {x : En} (hx : x ∈ S) : (del S x.2.1).length + 1 = S.length := by
  have := (del_perm h x hx).length_eq; simpa using this
/-- of a row that is the same but for its order, one is taken out -/
theorem perm_del {S H H' : List En} (h : S.Pairwise fun x y => x.2.1 ≠ y.2.1) (hp : H.Perm S) {x : En} (hx : (x :: H').Perm H) : H'.Perm (del S x.2.1) := by
  have hm : x ∈ S := (hx.trans hp).mem_iff.1 List.mem_cons_self
  exact ((hx.trans hp).trans (del_perm h x hm).symm).cons_inv
/-- the first of a heap is the first of the row -/
theorem hp_head {s : En} {S H : List En} {last : Int} (hg : Good (s :: S) last) (hp : H.Perm (s :: S)) (h : Hp H) : ix H 0 = s := by
  have hlen : 0 < H.length := by rw [hp.length_eq]; simp
  have h0 : ix H 0 ∈ s :: S := hp.mem_iff.1 (ix_mem hlen)
  have hs : s ∈ H := hp.mem_iff.2 List.mem_cons_self
  obtain ⟨i, hi, hie⟩ := mem_ix hs
  have h1 := hp_first h i hi
  rw [hie] at h1
  rcases List.mem_cons.1 h0 with e | e
  · exact e
  · have := (List.pairwise_cons.1 hg.srt).1 _ e
    exact absurd this h1

/-- what is left of an entry -/
def fnd (S : List En) (h : Int) : Option En := S.find? fun x => decide (x.2.1 = h)
theorem fnd_some {S : List En} (hs : S.Pairwise fun x y => x.2.1 ≠ y.2.1) {x : En} (hx : x ∈ S) : fnd S x.2.1 = some x := by
  unfold fnd
  cases hf : S.find? fun y => decide (y.2.1 = x.2.1) with
  | none => have := List.find?_eq_none.1 hf x hx; simp at this
  | some y =>
    have h1 := List.mem_of_find?_eq_some hf
    have h2 := List.find?_some hf
    simp at h2
    rw [apart_inj hs y x h1 hx h2]
theorem fnd_none {S : List En} {h : Int} (hn : ∀ x, x ∈ S → x.2.1 ≠ h) : fnd S h = none := by
  unfold fnd; rw [List.find?_eq_none]; intro x hx; simpa using hn x hx
theorem fnd_cases (S : List En) (h : Int) : (∃ x, x ∈ S ∧ x.2.1 = h ∧ fnd S h = some x) ∨ ((∀ x, x ∈ S → x.2.1 ≠ h) ∧ fnd S h = none) := by
  cases hf : fnd S h with
  | none =>
    refine .inr ⟨fun x hx e => ?_, rfl⟩
    have := List.find?_eq_none.1 hf x hx; simp at this; exact this e
  | some x =>
    refine .inl ⟨x, List.mem_of_find?_eq_some hf, ?_, rfl⟩
    have := List.find?_some hf
    simpa using this

/-- what is due, and what is not yet -/
def due (S : List En) (now : Int) : List En := S.takeWhile fun x => decide (x.1 ≤ now)
def rst (S : List En) (now : Int) : List En := S.dropWhile fun x => decide (x.1 ≤ now)
theorem due_rst (S : List En) (now : Int) : due S now ++ rst S now = S := List.takeWhile_append_dropWhile
theorem due_cons {s : En} {S : List En} {now : Int} (h : s.1 ≤ now) : due (s :: S) now = s :: due S now ∧ rst (s :: S) now = rst S now := by
  unfold due rst; rw [List.takeWhile_cons, List.dropWhile_cons, if_pos (by simpa using h), if_pos (by simpa using h)]; exact ⟨rfl, rfl⟩
theorem due_stop {s : En} {S : List En} {now : Int} (h : ¬ s.1 ≤ now) : due (s :: S) now = [] ∧ rst (s :: S) now = s :: S := by
  unfold due rst; rw [List.takeWhile_cons, List.dropWhile_cons, if_neg (by simpa using h), if_neg (by simpa using h)]; exact ⟨rfl, rfl⟩
theorem good_rst {S : List En} {last : Int} (h : Good S last) (now : Int) : Good (rst S now) last := good_sub h (List.dropWhile_sublist _)
theorem mem_due {S : List En} (hs : S.Pairwise lt) (now : Int) (x : En) : x ∈ due S now ↔ x ∈ S ∧ x.1 ≤ now := by
  induction S with
  | nil => simp [due]
  | cons s S ih =>
    rw [List.pairwise_cons] at hs
    by_cases c : s.1 ≤ now
    · rw [(due_cons c).1, List.mem_cons, ih hs.2, List.mem_cons]
      constructor
      · rintro (rfl | ⟨h1, h2⟩)
        · exact ⟨.inl rfl, c⟩
        · exact ⟨.inr h1, h2⟩
      · rintro ⟨rfl | h1, h2⟩
        · exact .inl rfl
        · exact .inr ⟨h1, h2⟩
    · rw [(due_stop c).1]
      constructor
      · intro h; simp at h
      · rintro ⟨h1, h2⟩
        rcases List.mem_cons.1 h1 with rfl | h1
        · exact absurd h2 c
        · have := lt_time (hs.1 x h1); omega
theorem mem_rst {S : List En} (hs : S.Pairwise lt) (now : Int) (x : En) : x ∈ rst S now ↔ x ∈ S ∧ now < x.1 := by
  induction S with
  | nil => simp [rst]
  | cons s S ih =>
    rw [List.pairwise_cons] at hs
    by_cases c : s.1 ≤ now
    · rw [(due_cons c).2, ih hs.2, List.mem_cons]
      constructor
      · rintro ⟨h1, h2⟩; exact ⟨.inr h1, h2⟩
      · rintro ⟨rfl | h1, h2⟩
        · omega
        · exact ⟨h1, h2⟩
    · rw [(due_stop c).2]
      constructor
      · intro h
        refine ⟨h, ?_⟩
        rcases List.mem_cons.1 h with rfl | h1
        · omega
        · have := lt_time (hs.1 x h1); omega
      · exact fun h => h.1
theorem due_len (S : List En) (now : Int) : (due S now).length + (rst S now).length = S.length := by rw [← List.length_append, due_rst]
theorem due_srt {S : List En} (hs : S.Pairwise lt) (now : Int) : (due S now).Pairwise lt := hs.sublist (List.takeWhile_sublist _)
end Go.Proofs.Ytpnhpgdidineaaa
