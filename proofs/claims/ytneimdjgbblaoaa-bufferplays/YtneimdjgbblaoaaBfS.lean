/- A message buffer by itself: who waits to send (and what), who waits to receive, the messages in the ring; each method as a plain function. No Go here. -/
import Derived.Test.YtneimdjgbblaoaaAbs
import Derived.Test.YtneimdjgbblaoaaRgRefA
namespace Go.Proofs.Ytneimdjgbblaoaa
open Go.RowKit

structure St where
  b : Bool
  m : Nat
  N : Nat
  S : List It
  R : List It
  W : Nat → List Int
  G : List (List Int)

/-- bytes, each in its bounds -/
def By (x : List Int) : Prop := ∀ j, j < x.length → 0 ≤ R.nth x j ∧ R.nth x j ≤ 255

structure Fine (t : St) : Prop where
  s : Good t.b t.S
  r : Good false t.R
  one : t.S = [] ∨ t.R = []
  m : t.m ≤ 1024
  n : t.N ≤ 65536
  g : R.tot t.G ≤ t.N
  gm : ∀ x, x ∈ t.G → x.length ≤ 1024
  w : ∀ y, y ∈ t.S → (t.W y.1.toNat).length ≤ 1024 ∧ By (t.W y.1.toNat)

def setW (f : Nat → List Int) (k : Nat) (x : List Int) : Nat → List Int := fun i => if i = k then x else f i

def trySend (t : St) (x : List Int) : St × Bool × Int × Int :=
  if x.length = 0 ∨ t.m < x.length then (t, false, 0, -17) else
  match t.R with
  | r :: R => ({ t with R := R }, true, r.1, 0)
  | [] => if t.S = [] ∧ R.fits t.N (R.tot t.G) (x.length : Int) = true then ({ t with G := t.G ++ [x] }, true, 0, 0) else (t, false, 0, 0)
def waitS (t : St) (id pri : Int) (x : List Int) : St × Int :=
  ({ t with S := addL t.b t.S id pri, W := if addC t.S id pri = 0 then setW t.W id.toNat x else t.W }, addC t.S id pri)
def send (t : St) (id pri : Int) (x : List Int) : St × Bool × Int × Int :=
  match trySend t x with
  | (t1, true, r, e) => (t1, true, r, e)
  | (t1, false, r, e) => if e = 0 then (match waitS t1 id pri x with | (t2, f) => (t2, false, 0, f)) else (t1, false, r, e)
def fillL (N : Nat) (W : Nat → List Int) : List It → List (List Int) → List It × List (List Int) × List Int
  | [], G => ([], G, [])
  | y :: S, G => if R.fits N (R.tot G) ((W y.1.toNat).length : Int) = true then ((fillL N W S (G ++ [W y.1.toNat])).1, (fillL N W S (G ++ [W y.1.toNat])).2.1, y.1 :: (fillL N W S (G ++ [W y.1.toNat])).2.2) else (y :: S, G, [])
def fill (t : St) : St × List Int := ({ t with S := (fillL t.N t.W t.S t.G).1, G := (fillL t.N t.W t.S t.G).2.1 }, (fillL t.N t.W t.S t.G).2.2)
/-- what was received (nothing: none), and who was released -/
def tryRecv (t : St) : St × Option (List Int) × List Int :=
  match t.G with
  | x :: G => ((fill { t with G := G }).1, some x, (fill { t with G := G }).2)
  | [] => match t.S with
    | y :: S => ({ t with S := S }, some (t.W y.1.toNat), [y.1])
    | [] => (t, none, [])
def waitR (t : St) (id pri : Int) : St × Int := ({ t with R := addL false t.R id pri }, addC t.R id pri)
def recv (t : St) (id pri : Int) : St × Option (List Int) × List Int × Int :=
  match tryRecv t with
  | (t1, some x, o) => (t1, some x, o, 0)
  | (t1, none, _) => match waitR t1 id pri with | (t2, e) => (t2, none, [], e)
def drop (t : St) (id : Int) : St × List Int :=
  if pos t.S id < t.S.length then fill { t with S := t.S.eraseIdx (pos t.S id) }
  else ({ t with R := t.R.eraseIdx (pos t.R id) }, [])
def change (t : St) (id pri : Int) : St × List Int × Bool :=
  if chgOk t.S id pri = true then ((fill { t with S := chgL t.b t.S id pri }).1, (fill { t with S := chgL t.b t.S id pri }).2, true)
  else ({ t with R := chgL false t.R id pri }, [], chgOk t.R id pri)

theorem good_tail {b : Bool} {x : It} {L : List It} (h : Good b (x :: L)) : Good b L := h.sub (List.sublist_cons_self x L)

theorem fillL_nil (N : Nat) (W : Nat → List Int) (G : List (List Int)) : fillL N W [] G = ([], G, []) := rfl
theorem fillL_yes {N : Nat} {W : Nat → List Int} {y : It} {S : List It} {G : List (List Int)} (h : R.fits N (R.tot G) ((W y.1.toNat).length : Int) = true) :
    fillL N W (y :: S) G = ((fillL N W S (G ++ [W y.1.toNat])).1, (fillL N W S (G ++ [W y.1.toNat])).2.1, y.1 :: (fillL N W S (G ++ [W y.1.toNat])).2.2) := by rw [fillL, if_pos h]
theorem fillL_no {N : Nat} {W : Nat → List Int} {y : It} {S : List It} {G : List (List Int)} (h : ¬ R.fits N (R.tot G) ((W y.1.toNat).length : Int) = true) : fillL N W (y :: S) G = (y :: S, G, []) := by rw [fillL, if_neg h]
theorem fill_none {t : St} (h : t.S = []) : fill t = (t, []) := by unfold fill; rw [h, fillL_nil]; cases t; cases h; rfl

theorem fillL_sub (N : Nat) (W : Nat → List Int) : ∀ (S : List It) (G : List (List Int)), List.Sublist (fillL N W S G).1 S
  | [], _ => List.Sublist.refl _
  | y :: S, G => by
    by_cases h : R.fits N (R.tot G) ((W y.1.toNat).length : Int) = true
    · rw [fillL_yes h]; exact (fillL_sub N W S _).cons _
    · rw [fillL_no h]; exact List.Sublist.refl _
theorem fits_lim {N n : Nat} {L : List (List Int)} (h : R.fits N (R.tot L) (n : Int) = true) : n ≤ 1024 ∧ R.tot L + R.occ n ≤ N := (R.fits_nat N (R.tot L) n).1 h
theorem fillL_fit (N : Nat) (W : Nat → List Int) : ∀ (S : List It) (G : List (List Int)), R.tot G ≤ N → (∀ x, x ∈ G → x.length ≤ 1024) → R.tot (fillL N W S G).2.1 ≤ N ∧ ∀ x, x ∈ (fillL N W S G).2.1 → x.length ≤ 1024
  | [], _, h, k => ⟨h, k⟩
  | y :: S, G, h, k => by
    by_cases c : R.fits N (R.tot G) ((W y.1.toNat).length : Int) = true
    · rw [fillL_yes c]
      have := fits_lim c
      refine fillL_fit N W S _ (by rw [R.tot_append]; exact this.2) (fun x hx => ?_)
      rcases List.mem_append.1 hx with hx | hx
      · exact k x hx
      · simp at hx; subst hx; exact this.1
    · rw [fillL_no c]; exact ⟨h, k⟩
theorem Fine.fill {t : St} (h : Fine t) : Fine (fill t).1 := by
  have hs := fillL_sub t.N t.W t.S t.G
  have hg := fillL_fit t.N t.W t.S t.G h.g h.gm
  exact ⟨h.s.sub hs, h.r, h.one.imp (fun e => by show (fillL t.N t.W t.S t.G).1 = []; rw [e]; rfl) (fun e => e), h.m, h.n, hg.1, hg.2, fun y hy => h.w y (hs.subset hy)⟩

theorem trySend_bad {t : St} {x : List Int} (h : x.length = 0 ∨ t.m < x.length) : trySend t x = (t, false, 0, -17) := by unfold trySend; rw [if_pos h]
theorem trySend_hand {t : St} {x : List Int} {r : It} {R : List It} (h : ¬ (x.length = 0 ∨ t.m < x.length)) (hr : t.R = r :: R) : trySend t x = ({ t with R := R }, true, r.1, 0) := by unfold trySend; rw [if_neg h, hr]
theorem trySend_room {t : St} {x : List Int} (h : ¬ (x.length = 0 ∨ t.m < x.length)) (hr : t.R = []) (hs : t.S = []) (hf : R.fits t.N (R.tot t.G) (x.length : Int) = true) : trySend t x = ({ t with G := t.G ++ [x] }, true, 0, 0) := by
  unfold trySend; rw [if_neg h, hr]; simp only [hs, hf, and_self, if_true]
theorem trySend_no {t : St} {x : List Int} (h : ¬ (x.length = 0 ∨ t.m < x.length)) (hr : t.R = []) (hf : ¬ (t.S = [] ∧ R.fits t.N (R.tot t.G) (x.length : Int) = true)) : trySend t x = (t, false, 0, 0) := by
  unfold trySend; rw [if_neg h, hr]; simp only [if_neg hf]
/-- the four ways that it goes -/
theorem trySend_ways (t : St) (x : List Int) : ((x.length = 0 ∨ t.m < x.length) ∧ trySend t x = (t, false, 0, -17)) ∨ (¬ (x.length = 0 ∨ t.m < x.length) ∧ ((∃ r R, t.R = r :: R ∧ trySend t x = ({ t with R := R }, true, r.1, 0)) ∨ (t.R = [] ∧ t.S = [] ∧ R.fits t.N (R.tot t.G) (x.length : Int) = true ∧ trySend t x = ({ t with G := t.G ++ [x] }, true, 0, 0)) ∨ (t.R = [] ∧ ¬ (t.S = [] ∧ R.fits t.N (R.tot t.G) (x.length : Int) = true) ∧ trySend t x = (t, false, 0, 0)))) := by
  by_cases h : x.length = 0 ∨ t.m < x.length
  · exact .inl ⟨h, trySend_bad h⟩
  · refine .inr ⟨h, ?_⟩
    cases hr : t.R with
    | cons r R => exact .inl ⟨r, R, rfl, trySend_hand h hr⟩
    | nil =>
      by_cases hf : t.S = [] ∧ R.fits t.N (R.tot t.G) (x.length : Int) = true
      · exact .inr (.inl ⟨rfl, hf.1, hf.2, (trySend_room h hr hf.1 hf.2).trans (by rw [hr])⟩)
      · exact .inr (.inr ⟨rfl, hf, trySend_no h hr hf⟩)

theorem Fine.put {t : St} (h : Fine t) {x : List Int} (hf : R.fits t.N (R.tot t.G) (x.length : Int) = true) : Fine { t with G := t.G ++ [x] } := by
  have := fits_lim hf
  refine ⟨h.s, h.r, h.one, h.m, h.n, by show R.tot (t.G ++ [x]) ≤ t.N; rw [R.tot_append]; exact this.2, fun y hy => ?_, h.w⟩
  rcases List.mem_append.1 hy with hy | hy
  · exact h.gm y hy
  · simp at hy; subst hy; exact this.1
theorem Fine.take {t : St} {r : It} {R : List It} (h : Fine t) (hr : t.R = r :: R) : Fine { t with R := R } :=
  ⟨h.s, by have := h.r; rw [hr] at this; exact good_tail this, .inl (by rcases h.one with e | e; exact e; rw [hr] at e; cases e), h.m, h.n, h.g, h.gm, h.w⟩
theorem Fine.trySend {t : St} {x : List Int} (h : Fine t) : Fine (trySend t x).1 := by
  rcases trySend_ways t x with ⟨_, e⟩ | ⟨_, ⟨r, R, hr, e⟩ | ⟨_, _, hf, e⟩ | ⟨_, _, e⟩⟩ <;> rw [e]
  · exact h
  · exact h.take hr
  · exact h.put hf
  · exact h
theorem mem_addL {b : Bool} {L : List It} {id pri : Int} {y : It} (h : y ∈ addL b L id pri) : y ∈ L ∨ y = (id, pri) := by
  unfold addL at h
  split at h
  · rcases mem_ins.1 h with h | h
    · exact .inr h
    · exact .inl h
  · exact .inl h
theorem addC_range {L : List It} {id pri : Int} (h : addC L id pri = 0) : 1 ≤ id ∧ id ≤ 16 := by
  unfold addC at h
  split at h
  · rename_i c; exact c.1
  · omega
theorem addC_bad {b : Bool} {L : List It} {id pri : Int} (h : addC L id pri ≠ 0) : addL b L id pri = L := by
  unfold addC at h; unfold addL
  split at h
  · rename_i c
    split at h
    · rw [if_neg (by rename_i c2; intro c3; exact absurd c3.2.2 (by omega))]
    · exact absurd rfl h
  · rename_i c; rw [if_neg (fun c3 => c ⟨c3.1, c3.2.1⟩)]
theorem Fine.waitS {t : St} {id pri : Int} {x : List Int} (h : Fine t) (hr : t.R = []) (hx : x.length ≤ 1024 ∧ By x) : Fine (waitS t id pri x).1 := by
  refine ⟨h.s.addL id pri, h.r, .inr hr, h.m, h.n, h.g, h.gm, fun y hy => ?_⟩
  show ((if addC t.S id pri = 0 then setW t.W id.toNat x else t.W) y.1.toNat).length ≤ 1024 ∧ By ((if addC t.S id pri = 0 then setW t.W id.toNat x else t.W) y.1.toNat)
  by_cases c : addC t.S id pri = 0
  · rw [if_pos c]
    unfold setW
    split
    · exact hx
    · rename_i hne
      rcases mem_addL hy with hy | hy
      · exact h.w y hy
      · subst hy; exact absurd rfl hne
  · rw [if_neg c]
    have hy : y ∈ addL t.b t.S id pri := hy
    rw [addC_bad c] at hy
    exact h.w y hy
theorem send_ways (t : St) (id pri : Int) (x : List Int) : (∃ t1 r e, ∃ k : Bool, trySend t x = (t1, k, r, e) ∧ (k = true ∨ e ≠ 0) ∧ send t id pri x = (t1, k, r, e)) ∨ (trySend t x = (t, false, 0, 0) ∧ ¬ (x.length = 0 ∨ t.m < x.length) ∧ t.R = [] ∧ send t id pri x = ((waitS t id pri x).1, false, 0, (waitS t id pri x).2)) := by
  rcases trySend_ways t x with ⟨h, e⟩ | ⟨h, ⟨r, R, hr, e⟩ | ⟨_, _, hf, e⟩ | ⟨hr, _, e⟩⟩
  · exact .inl ⟨_, _, _, _, e, .inr (by omega), by unfold send; rw [e]; rfl⟩
  · exact .inl ⟨_, _, _, _, e, .inl rfl, by unfold send; rw [e]⟩
  · exact .inl ⟨_, _, _, _, e, .inl rfl, by unfold send; rw [e]⟩
  · exact .inr ⟨e, h, hr, by unfold send; rw [e]; rfl⟩
theorem Fine.send {t : St} {id pri : Int} {x : List Int} (h : Fine t) (hx : By x) : Fine (send t id pri x).1 := by
  rcases send_ways t id pri x with ⟨t1, r, e, k, h1, _, h3⟩ | ⟨_, h1, h2, h3⟩ <;> rw [h3]
  · have := h.trySend (x := x); rw [h1] at this; exact this
  · exact h.waitS h2 ⟨by have := h.m; omega, hx⟩
theorem tot_tail (x : List Int) (G : List (List Int)) : R.tot G ≤ R.tot (x :: G) := by simp only [R.tot]; omega
theorem Fine.get {t : St} {x : List Int} {G : List (List Int)} (h : Fine t) (hg : t.G = x :: G) : Fine { t with G := G } :=
  ⟨h.s, h.r, h.one, h.m, h.n, Nat.le_trans (tot_tail x G) (by rw [← hg]; exact h.g), fun y hy => h.gm y (by rw [hg]; exact List.mem_cons_of_mem _ hy), h.w⟩
theorem Fine.lose {t : St} {S : List It} (h : Fine t) (hs : List.Sublist S t.S) : Fine { t with S := S } :=
  ⟨h.s.sub hs, h.r, h.one.imp (fun e => by rw [e] at hs; exact List.sublist_nil.1 hs) (fun e => e), h.m, h.n, h.g, h.gm, fun y hy => h.w y (hs.subset hy)⟩
theorem Fine.loseR {t : St} {R : List It} (h : Fine t) (hs : List.Sublist R t.R) : Fine { t with R := R } :=
  ⟨h.s, h.r.sub hs, h.one.imp (fun e => e) (fun e => by rw [e] at hs; exact List.sublist_nil.1 hs), h.m, h.n, h.g, h.gm, h.w⟩
theorem Fine.tryRecv {t : St} (h : Fine t) : Fine (tryRecv t).1 := by
  unfold Ytneimdjgbblaoaa.tryRecv
  split
  · rename_i x G hg; exact (h.get hg).fill
  · split
    · rename_i y S hs; exact h.lose (by rw [hs]; exact List.sublist_cons_self _ _)
    · exact h
theorem tryRecv_none {t t1 : St} {o : List Int} (h : tryRecv t = (t1, none, o)) : t1 = t ∧ o = [] ∧ t.G = [] ∧ t.S = [] := by
  unfold tryRecv at h
  split at h
  · injection h with _ h; injection h with h; cases h
  · rename_i hg
    split at h
    · injection h with _ h; injection h with h; cases h
    · rename_i hs
      injection h with h1 h2; injection h2 with _ h2
      exact ⟨h1.symm, h2.symm, hg, hs⟩
theorem Fine.waitR {t : St} {id pri : Int} (h : Fine t) (hs : t.S = []) : Fine (waitR t id pri).1 := ⟨h.s, h.r.addL id pri, .inl hs, h.m, h.n, h.g, h.gm, h.w⟩
theorem Fine.recv {t : St} {id pri : Int} (h : Fine t) : Fine (recv t id pri).1 := by
  have h1 := h.tryRecv
  unfold Ytneimdjgbblaoaa.recv
  split
  · rename_i e; rw [e] at h1; exact h1
  · rename_i t1 o e
    obtain ⟨rfl, _, _, hs⟩ := tryRecv_none e
    exact h.waitR hs
theorem Fine.drop {t : St} {id : Int} (h : Fine t) : Fine (drop t id).1 := by
  unfold Ytneimdjgbblaoaa.drop
  split
  · exact (h.lose (List.eraseIdx_sublist _ _)).fill
  · exact h.loseR (List.eraseIdx_sublist _ _)
theorem mem_chgL {b : Bool} {L : List It} {id pri : Int} {y : It} (h : y ∈ chgL b L id pri) : ∃ z, z ∈ L ∧ z.1 = y.1 := by
  unfold chgL at h
  split at h
  · rename_i c
    obtain ⟨z, hz, he⟩ := pos_lt.1 c.1
    split at h
    · rcases mem_ins.1 h with h | h
      · exact ⟨z, hz, by rw [h]; exact he⟩
      · exact ⟨y, (List.eraseIdx_sublist _ _).subset h, rfl⟩
    · rcases List.mem_or_eq_of_mem_set h with h | h
      · exact ⟨y, h, rfl⟩
      · exact ⟨z, hz, by rw [h]; exact he⟩
  · exact ⟨y, h, rfl⟩
theorem chgL_nil (b : Bool) (id pri : Int) : chgL b [] id pri = [] := by
  unfold chgL pos
  split
  · rename_i c; simp at c
  · rfl
theorem Fine.chgS {t : St} {id pri : Int} (h : Fine t) : Fine { t with S := chgL t.b t.S id pri } :=
  ⟨h.s.chgL id pri, h.r, h.one.imp (fun e => by show chgL t.b t.S id pri = []; rw [e]; exact chgL_nil _ _ _) (fun e => e), h.m, h.n, h.g, h.gm, fun y hy => by
    obtain ⟨z, hz, he⟩ := mem_chgL hy
    have := h.w z hz
    rw [he] at this; exact this⟩
theorem Fine.change {t : St} {id pri : Int} (h : Fine t) : Fine (change t id pri).1 := by
  unfold Ytneimdjgbblaoaa.change
  split
  · exact h.chgS.fill
  · exact ⟨h.s, h.r.chgL id pri, h.one.imp (fun e => e) (fun e => by show chgL false t.R id pri = []; rw [e]; exact chgL_nil _ _ _), h.m, h.n, h.g, h.gm, h.w⟩
end Go.Proofs.Ytneimdjgbblaoaa
