/- What an eventflag is by itself: what each method makes of it. No program. -/
import Derived.Test.YthgcmjiebdnnfaaFgA
namespace Go.Proofs.Ythgcmjiebdnnfaa
open Go.RowKit
set_option maxRecDepth 100000

/-- do the bits x meet what is waited for? -/
def met (x : Int) (v : Wi) : Bool := decide (bits .and .u32 x v.1 ≠ 0 ∧ (v.2 = 1 ∨ bits .and .u32 x v.1 = v.1))
/-- may that be waited for? -/
def perm (v : Wi) : Bool := decide (v.1 ≠ 0 ∧ (v.2 = 0 ∨ v.2 = 1))

structure St where
  b : Bool
  m : Bool
  c : Bool
  x : Int
  L : List It
  W : Int → Wi
structure Fine (S : St) : Prop where
  q : Good S.b S.L
  per : ∀ y, y ∈ S.L → perm (S.W y.1) = true

def setx (S : St) (x : Int) : St := ⟨S.b, S.m, S.c, x, S.L, S.W⟩
def setl (S : St) (L : List It) : St := ⟨S.b, S.m, S.c, S.x, L, S.W⟩
/-- somebody gets the bits -/
def got (S : St) : St := setx S (if S.c then 0 else S.x)
/-- is another one refused? -/
def full (S : St) : Bool := !S.m && decide (0 < S.L.length)
def poll (S : St) (v : Wi) : St × Int × Bool × Int :=
  if perm v then if full S then (S, 0, false, -28) else if met S.x v then (got S, S.x, true, 0) else (S, 0, false, 0) else (S, 0, false, -17)
def addW (S : St) (id pri : Int) (v : Wi) : St := ⟨S.b, S.m, S.c, S.x, addL S.b S.L id pri, fun i => if addC S.L id pri = 0 ∧ i = id then v else S.W i⟩
def wait (S : St) (id pri : Int) (v : Wi) : St × Int × Bool × Int :=
  if (poll S v).2.2.1 = true ∨ (poll S v).2.2.2 ≠ 0 then poll S v else (addW S id pri v, 0, false, addC S.L id pri)
def low (S : St) (y : Int) : St := setx S (bits .and .u32 S.x y)
def drop (S : St) (id : Int) : St := setl S (S.L.eraseIdx (pos S.L id))
def chg (S : St) (id pri : Int) : St := setl S (chgL S.b S.L id pri)
def ors (x : Int) (ys : List Int) : Int := ys.foldl (bits .or .u32) x
/-- is one's want met? -/
def hit (S : St) (y : It) : Bool := met S.x (S.W y.1)
def wake (S : St) : St × List (Int × Int) :=
  if S.c then
    if S.L.findIdx (hit S) < S.L.length then (⟨S.b, S.m, S.c, 0, S.L.eraseIdx (S.L.findIdx (hit S)), S.W⟩, [((S.L.map Prod.fst).getD (S.L.findIdx (hit S)) 0, S.x)]) else (S, [])
  else (setl S (S.L.filter fun y => !hit S y), (S.L.filter (hit S)).map fun y => (y.1, S.x))
def raise (S : St) (ys : List Int) : St × List (Int × Int) := wake (setx S (ors S.x ys))

theorem fine_new (b m c : Bool) (x : Int) (W : Int → Wi) : Fine ⟨b, m, c, x, [], W⟩ := ⟨good_nil b, by simp⟩
theorem Fine.setx {S : St} (h : Fine S) (x : Int) : Fine (setx S x) := ⟨h.q, h.per⟩
theorem Fine.sub {S : St} (h : Fine S) {M : List It} (hs : List.Sublist M S.L) : Fine (setl S M) := ⟨h.q.sub hs, fun y hy => h.per y (hs.mem hy)⟩
theorem Fine.drop {S : St} (h : Fine S) (id : Int) : Fine (drop S id) := h.sub (List.eraseIdx_sublist _ _)
theorem Fine.poll {S S' : St} {v : Wi} {r : Int × Bool × Int} (h : Fine S) (e : poll S v = (S', r)) : Fine S' := by
  unfold Ythgcmjiebdnnfaa.poll at e
  split at e
  · split at e
    · cases e; exact h
    · split at e <;> cases e
      · exact h.setx _
      · exact h
  · cases e; exact h
theorem addL_mem {b : Bool} {L : List It} {id pri : Int} {y : It} (h : y ∈ addL b L id pri) : y ∈ L ∨ (y = (id, pri) ∧ addC L id pri = 0) := by
  unfold addL at h
  split at h
  · rename_i c
    rcases mem_ins.1 h with h | h
    · exact .inr ⟨h, by unfold addC; rw [if_pos ⟨c.1, c.2.1⟩, if_neg c.2.2]⟩
    · exact .inl h
  · exact .inl h
theorem addC_new {L : List It} {id pri : Int} (h : addC L id pri = 0) : (1 ≤ id ∧ id ≤ 16) ∧ (1 ≤ pri ∧ pri ≤ 16) ∧ ¬ pos L id < L.length := by
  unfold addC at h
  split at h
  · rename_i c
    split at h
    · omega
    · rename_i d; exact ⟨c.1, c.2, d⟩
  · omega
theorem addC_ne {b : Bool} {L : List It} {id pri : Int} (h : addC L id pri ≠ 0) : addL b L id pri = L := by
  unfold addL
  split
  · rename_i c; exact absurd (by unfold addC; rw [if_pos ⟨c.1, c.2.1⟩, if_neg c.2.2]) h
  · rfl
theorem Fine.addW {S : St} (h : Fine S) (id pri : Int) {v : Wi} (hv : perm v = true) : Fine (addW S id pri v) := by
  refine ⟨h.q.addL id pri, fun y hy => ?_⟩
  show perm (if addC S.L id pri = 0 ∧ y.1 = id then v else S.W y.1) = true
  rcases addL_mem hy with hy | ⟨rfl, hc⟩
  · split
    · exact hv
    · exact h.per y hy
  · rw [if_pos ⟨hc, rfl⟩]; exact hv
theorem wait_cases (S : St) (id pri : Int) (v : Wi) : (wait S id pri v = poll S v ∧ ((poll S v).2.2.1 = true ∨ (poll S v).2.2.2 ≠ 0)) ∨
    (perm v = true ∧ poll S v = (S, 0, false, 0) ∧ wait S id pri v = (Ythgcmjiebdnnfaa.addW S id pri v, 0, false, addC S.L id pri)) := by
  unfold wait
  by_cases c : (poll S v).2.2.1 = true ∨ (poll S v).2.2.2 ≠ 0
  · rw [if_pos c]; exact .inl ⟨rfl, c⟩
  · rw [if_neg c]
    refine .inr ?_
    revert c
    unfold poll
    split
    · rename_i hp
      split
      · intro c; exact absurd (.inr (by show (-28 : Int) ≠ 0; decide)) c
      · split
        · intro c; exact absurd (.inl rfl) c
        · intro c; exact ⟨hp, rfl, rfl⟩
    · intro c; exact absurd (.inr (by show (-17 : Int) ≠ 0; decide)) c
theorem Fine.wait {S S' : St} {id pri : Int} {v : Wi} {r : Int × Bool × Int} (h : Fine S) (e : wait S id pri v = (S', r)) : Fine S' := by
  rcases wait_cases S id pri v with ⟨e1, _⟩ | ⟨hp, _, e1⟩
  · rw [e1] at e; exact h.poll e
  · rw [e1] at e; cases e; exact h.addW id pri hp
theorem chgL_mem {b : Bool} {L : List It} {id pri : Int} {y : It} (h : y ∈ chgL b L id pri) : ∃ z, z ∈ L ∧ z.1 = y.1 := by
  unfold chgL at h
  split at h
  · rename_i c
    obtain ⟨q, hq⟩ := pos_at c.1
    split at h
    · rcases mem_ins.1 h with rfl | h
      · exact ⟨_, List.mem_of_getElem? hq, rfl⟩
      · exact ⟨y, List.mem_of_mem_eraseIdx h, rfl⟩
    · rcases List.mem_or_eq_of_mem_set h with h | rfl
      · exact ⟨y, h, rfl⟩
      · exact ⟨_, List.mem_of_getElem? hq, rfl⟩
  · exact ⟨y, h, rfl⟩
theorem Fine.chg {S : St} (h : Fine S) (id pri : Int) : Fine (chg S id pri) :=
  ⟨h.q.chgL id pri, fun y hy => by
    obtain ⟨z, hz, e⟩ := chgL_mem hy
    show perm (S.W y.1) = true
    rw [← e]; exact h.per z hz⟩
theorem Fine.wake {S S' : St} {o : List (Int × Int)} (h : Fine S) (e : wake S = (S', o)) : Fine S' := by
  unfold Ythgcmjiebdnnfaa.wake at e
  split at e
  · split at e <;> cases e
    · exact ⟨h.q.sub (List.eraseIdx_sublist _ _), fun y hy => h.per y (List.mem_of_mem_eraseIdx hy)⟩
    · exact h
  · cases e; exact h.sub List.filter_sublist
theorem Fine.raise {S S' : St} {ys : List Int} {o : List (Int × Int)} (h : Fine S) (e : raise S ys = (S', o)) : Fine S' := (h.setx _).wake e

/-! ## Going over those that wait -/

/-- behind t of them, while nothing was cleared -/
def keep (S : St) (t : Nat) : List It := ((S.L.take t).filter fun y => !hit S y) ++ S.L.drop t
def outs (S : St) (t : Nat) : List (Int × Int) := ((S.L.take t).filter (hit S)).map fun y => (y.1, S.x)
theorem keep_zero (S : St) : keep S 0 = S.L := by simp [keep]
theorem outs_zero (S : St) : outs S 0 = [] := by simp [outs]
theorem take_succ' {L : List It} {t : Nat} {y : It} (h : L[t]? = some y) : L.take (t + 1) = L.take t ++ [y] := by rw [List.take_add_one, h]; rfl
theorem drop_at {L : List It} {t : Nat} {y : It} (h : L[t]? = some y) : L.drop t = y :: L.drop (t + 1) := by
  obtain ⟨hl, e⟩ := List.getElem?_eq_some_iff.1 h
  rw [List.drop_eq_getElem_cons hl, e]
theorem keep_no {S : St} {t : Nat} {y : It} (h : S.L[t]? = some y) (hn : hit S y = false) : keep S (t + 1) = keep S t := by
  unfold keep; rw [take_succ' h, List.filter_append, drop_at h]; simp [hn]
theorem outs_no {S : St} {t : Nat} {y : It} (h : S.L[t]? = some y) (hn : hit S y = false) : outs S (t + 1) = outs S t := by
  unfold outs; rw [take_succ' h, List.filter_append]; simp [hn]
theorem outs_yes {S : St} {t : Nat} {y : It} (h : S.L[t]? = some y) (hn : hit S y = true) : outs S (t + 1) = outs S t ++ [(y.1, S.x)] := by
  unfold outs; rw [take_succ' h, List.filter_append]; simp [hn]
theorem keep_sub (S : St) (t : Nat) : List.Sublist (keep S t) S.L := by
  have := (List.filter_sublist (l := S.L.take t) (p := fun y => !hit S y)).append (List.Sublist.refl (S.L.drop t))
  rwa [List.take_append_drop] at this
theorem nodup_pos {b : Bool} {L : List It} (h : Good b L) {j : Nat} {y : It} (hy : L[j]? = some y) : pos L y.1 = j := by
  refine pos_eq hy rfl fun i z hi hz e => ?_
  have hd := h.ids
  have a1 : (L.map Prod.fst)[i]? = some y.1 := by rw [List.getElem?_map, hz]; simp [e]
  have a2 : (L.map Prod.fst)[j]? = some y.1 := by rw [List.getElem?_map, hy]; rfl
  obtain ⟨l1, e1⟩ := List.getElem?_eq_some_iff.1 a1
  obtain ⟨l2, e2⟩ := List.getElem?_eq_some_iff.1 a2
  exact List.pairwise_iff_getElem.1 hd i j l1 l2 hi (e1.trans e2.symm)
theorem keep_at {S : St} {t : Nat} {y : It} (h : S.L[t]? = some y) : (keep S t)[((S.L.take t).filter fun y => !hit S y).length]? = some y := by
  unfold keep; rw [List.getElem?_append_right (Nat.le_refl _), Nat.sub_self, drop_at h]; rfl
theorem keep_yes {S : St} {t : Nat} {y : It} (hg : Good S.b S.L) (h : S.L[t]? = some y) (hn : hit S y = true) :
    (keep S t).eraseIdx (pos (keep S t) y.1) = keep S (t + 1) ∧ pos (keep S t) y.1 < (keep S t).length := by
  have e := nodup_pos (hg.sub (keep_sub S t)) (keep_at h)
  rw [e]
  refine ⟨?_, (List.getElem?_eq_some_iff.1 (keep_at h)).1⟩
  unfold keep
  rw [List.eraseIdx_append_of_length_le (Nat.le_refl _), Nat.sub_self, drop_at h, take_succ' h, List.filter_append]
  simp [hn]
theorem keep_end (S : St) : keep S S.L.length = S.L.filter fun y => !hit S y := by simp [keep]
theorem outs_end (S : St) : outs S S.L.length = (S.L.filter (hit S)).map fun y => (y.1, S.x) := by simp [outs]
/-- none of the first t is met -/
def none' (S : St) (t : Nat) : Prop := ∀ y, y ∈ S.L.take t → hit S y = false
theorem none_zero (S : St) : none' S 0 := by intro y hy; simp at hy
theorem none_no {S : St} {t : Nat} {y : It} (hz : none' S t) (h : S.L[t]? = some y) (hn : hit S y = false) : none' S (t + 1) := by
  intro z hz2
  rw [take_succ' h] at hz2
  rcases List.mem_append.1 hz2 with h1 | h1
  · exact hz z h1
  · rw [List.mem_singleton] at h1; subst h1; exact hn
theorem none_keep {S : St} {t : Nat} (h : none' S t) : keep S t = S.L := by
  unfold keep
  rw [List.filter_eq_self.2 (fun y hy => by rw [h y hy]; rfl), List.take_append_drop]
theorem none_outs {S : St} {t : Nat} (h : none' S t) : outs S t = [] := by
  unfold outs
  rw [List.filter_eq_nil_iff.2 (fun y hy => by rw [h y hy]; simp)]; rfl
theorem none_idx {S : St} {t : Nat} {y : It} (hz : none' S t) (h : S.L[t]? = some y) (hn : hit S y = true) : S.L.findIdx (hit S) = t := by
  obtain ⟨hl, e⟩ := List.getElem?_eq_some_iff.1 h
  rw [List.findIdx_eq hl]
  refine ⟨by rw [e]; exact hn, fun j hj => ?_⟩
  have := hz (S.L[j]'(by omega)) (List.mem_take_iff_getElem.2 ⟨j, by omega, rfl⟩)
  rw [this]
theorem none_end {S : St} (h : none' S S.L.length) : ¬ S.L.findIdx (hit S) < S.L.length := by
  intro c
  have := List.findIdx_getElem (p := hit S) (w := c)
  have h2 := h (S.L[S.L.findIdx (hit S)]) (by rw [List.take_length]; exact List.getElem_mem _)
  rw [this] at h2; cases h2
/-- at the end: all were looked at, or one cleared -/
theorem wake_end {S S' : St} {o : List (Int × Int)} (e : wake S = (S', o)) (hc : S.c = true → none' S S.L.length) : S' = setl S (keep S S.L.length) ∧ o = outs S S.L.length := by
  unfold wake at e
  split at e
  · rename_i c
    have hz := hc c
    rw [if_neg (none_end hz)] at e
    cases e
    exact ⟨by rw [none_keep hz]; rfl, (none_outs hz).symm⟩
  · cases e
    exact ⟨by rw [keep_end], by rw [outs_end]⟩
theorem wake_cut {S S' : St} {o : List (Int × Int)} {t : Nat} {y : It} (e : wake S = (S', o)) (hg : Good S.b S.L) (hc : S.c = true) (hz : none' S t) (h : S.L[t]? = some y) (hn : hit S y = true) :
    S' = ⟨S.b, S.m, S.c, 0, keep S (t + 1), S.W⟩ ∧ o = outs S (t + 1) := by
  have hi := none_idx hz h hn
  have hl := (List.getElem?_eq_some_iff.1 h).1
  have hk := (keep_yes hg h hn).1
  rw [none_keep hz, nodup_pos hg h] at hk
  unfold wake at e
  rw [if_pos hc, hi, if_pos hl, hk] at e
  cases e
  refine ⟨rfl, ?_⟩
  rw [outs_yes h hn, none_outs hz, List.getD_eq_getElem?_getD, List.getElem?_map, h]; rfl
end Go.Proofs.Ythgcmjiebdnnfaa
