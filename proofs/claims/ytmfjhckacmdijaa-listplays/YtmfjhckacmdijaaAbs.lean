/- Rows of nodes, and the links that make them: pure mathematics. Link i is f (3i) (the next one), f (3i+1) (the one ahead), f (3i+2) (its head). -/
namespace Go.Proofs.Ytmfjhckacmdijaa

/-- the neighbours in a row that begins behind a -/
def ini : Nat → List Nat → List (Nat × Nat)
  | _, [] => []
  | a, x :: l => (a, x) :: ini x l
/-- the last of a row that begins behind a -/
def lst : Nat → List Nat → Nat
  | a, [] => a
  | _, x :: l => lst x l

theorem ini_app (a : Nat) (l1 : List Nat) (y : Nat) (l2 : List Nat) : ini a (l1 ++ y :: l2) = ini a l1 ++ (lst a l1, y) :: ini y l2 := by
  induction l1 generalizing a with
  | nil => rfl
  | cons x l ih => simp [ini, lst, ih]
theorem lst_app (a : Nat) (l1 : List Nat) (y : Nat) (l2 : List Nat) : lst a (l1 ++ y :: l2) = lst y l2 := by
  induction l1 generalizing a with
  | nil => rfl
  | cons x l ih => simp [lst, ih]
theorem lst_mem (a : Nat) (l : List Nat) : lst a l ∈ a :: l := by
  induction l generalizing a with
  | nil => simp [lst]
  | cons x l ih => have := ih x; simp only [lst]; exact List.mem_cons_of_mem _ this
theorem ini_mem {a : Nat} {l : List Nat} {u v : Nat} (h : (u, v) ∈ ini a l) : u ∈ a :: l ∧ v ∈ l := by
  induction l generalizing a with
  | nil => simp [ini] at h
  | cons x l ih =>
    simp only [ini, List.mem_cons, Prod.mk.injEq] at h
    rcases h with ⟨rfl, rfl⟩ | h
    · simp
    · have := ih h; exact ⟨List.mem_cons_of_mem _ this.1, List.mem_cons_of_mem _ this.2⟩
theorem ini_ne {a : Nat} {l : List Nat} {u v : Nat} (hn : (a :: l).Nodup) (h : (u, v) ∈ ini a l) : u ≠ lst a l := by
  induction l generalizing a with
  | nil => simp [ini] at h
  | cons x l ih =>
    simp only [ini, List.mem_cons, Prod.mk.injEq] at h
    have hn2 := (List.nodup_cons.1 hn)
    rcases h with ⟨rfl, rfl⟩ | h
    · intro e; simp only [lst] at e; have := lst_mem v l; rw [← e] at this; exact hn2.1 this
    · exact ih hn2.2 h

/-- u's next one is v, and the one ahead of v is u -/
def Pr (f : Nat → Int) (q : Nat × Nat) : Prop := f (q.1 * 3) = q.2 ∧ f (q.2 * 3 + 1) = q.1
/-- a row, closed to a ring by e -/
def Ring (f : Nat → Int) (e : Nat) (L : List Nat) : Prop := (∀ q ∈ ini e L, Pr f q) ∧ Pr f (lst e L, e)

structure Rel (N H : Nat) (f : Nat → Int) (R : Nat → List Nat) : Prop where
  ring : ∀ h, h < H → Ring f (N + h) (R h)
  mem : ∀ h, h < H → ∀ x, x ∈ R h → x < N ∧ f (x * 3 + 2) = (h : Int)
  ends : ∀ h, h < H → f ((N + h) * 3 + 2) = (h : Int)
  out : ∀ x, x < N → f (x * 3 + 2) = -1 ∨ ∃ h, h < H ∧ x ∈ R h
  nodup : ∀ h, h < H → (R h).Nodup

def Inn (H : Nat) (R : Nat → List Nat) (x : Nat) : Prop := ∃ h, h < H ∧ x ∈ R h

theorem Rel.inn {N H : Nat} {f : Nat → Int} {R : Nat → List Nat} (r : Rel N H f R) {x : Nat} (hx : x < N) : f (x * 3 + 2) ≠ -1 ↔ Inn H R x := by
  constructor
  · intro h; rcases r.out x hx with e | e
    · exact absurd e h
    · exact e
  · rintro ⟨h, hh, hm⟩; have := (r.mem h hh x hm).2; omega
theorem Rel.nodupE {N H : Nat} {f : Nat → Int} {R : Nat → List Nat} (r : Rel N H f R) {h : Nat} (hh : h < H) : ((N + h) :: R h).Nodup := by
  refine List.nodup_cons.2 ⟨fun hm => ?_, r.nodup h hh⟩
  have := (r.mem h hh _ hm).1; omega
theorem Rel.hd {N H : Nat} {f : Nat → Int} {R : Nat → List Nat} (r : Rel N H f R) {h : Nat} (hh : h < H) {x : Nat} (hx : x ∈ (N + h) :: R h) : f (x * 3 + 2) = (h : Int) := by
  rcases List.mem_cons.1 hx with rfl | hx
  · exact r.ends h hh
  · exact (r.mem h hh x hx).2
theorem Rel.lt {N H : Nat} {f : Nat → Int} {R : Nat → List Nat} (r : Rel N H f R) {h : Nat} (hh : h < H) {x : Nat} (hx : x ∈ (N + h) :: R h) : x < N + H := by
  rcases List.mem_cons.1 hx with rfl | hx
  · omega
  · have := (r.mem h hh x hx).1; omega
/-- a node is in one row alone -/
theorem Rel.one {N H : Nat} {f : Nat → Int} {R : Nat → List Nat} (r : Rel N H f R) {h k : Nat} (hh : h < H) (hk : k < H) {x : Nat} (hx : x ∈ R h) (hy : x ∈ R k) : h = k := by
  have a := (r.mem h hh x hx).2; have b := (r.mem k hk x hy).2; omega

def up (f : Nat → Int) (i : Nat) (v : Int) : Nat → Int := fun j => if j = i then v else f j
/-- what insert writes -/
def ins (f : Nat → Int) (x at_ pv : Nat) (h : Int) : Nat → Int :=
  up (up (up (up (up f (x * 3) at_) (x * 3 + 1) pv) (x * 3 + 2) h) (pv * 3) x) (at_ * 3 + 1) x

def setR (R : Nat → List Nat) (h : Nat) (l : List Nat) : Nat → List Nat := fun k => if k = h then l else R k
theorem setR_same (R : Nat → List Nat) (h : Nat) (l : List Nat) : setR R h l h = l := by simp [setR]
theorem setR_ne (R : Nat → List Nat) (h : Nat) (l : List Nat) (k : Nat) (hk : k ≠ h) : setR R h l k = R k := by simp [setR, hk]

theorem ins_n {f : Nat → Int} {x a p : Nat} {h : Int} (hxp : x ≠ p) (u : Nat) : ins f x a p h (u * 3) = if u = x then (a : Int) else if u = p then (x : Int) else f (u * 3) := by
  unfold ins up
  by_cases h1 : u = x
  · subst h1; rw [if_neg (by omega), if_neg (by omega), if_neg (by omega), if_neg (by omega), if_pos rfl, if_pos rfl]
  · by_cases h2 : u = p
    · subst h2; rw [if_neg (by omega), if_pos rfl, if_neg h1, if_pos rfl]
    · rw [if_neg (by omega), if_neg (by omega), if_neg (by omega), if_neg (by omega), if_neg (by omega), if_neg h1, if_neg h2]
theorem ins_p {f : Nat → Int} {x a p : Nat} {h : Int} (hxa : x ≠ a) (u : Nat) : ins f x a p h (u * 3 + 1) = if u = x then (p : Int) else if u = a then (x : Int) else f (u * 3 + 1) := by
  unfold ins up
  by_cases h1 : u = x
  · subst h1; rw [if_neg (by omega), if_neg (by omega), if_neg (by omega), if_pos rfl, if_pos rfl]
  · by_cases h2 : u = a
    · subst h2; rw [if_pos rfl, if_neg h1, if_pos rfl]
    · rw [if_neg (by omega), if_neg (by omega), if_neg (by omega), if_neg (by omega), if_neg (by omega), if_neg h1, if_neg h2]
theorem ins_h {f : Nat → Int} {x a p : Nat} {h : Int} (u : Nat) : ins f x a p h (u * 3 + 2) = if u = x then h else f (u * 3 + 2) := by
  unfold ins up
  by_cases h1 : u = x
  · subst h1; rw [if_neg (by omega), if_neg (by omega), if_pos rfl, if_pos rfl]
  · rw [if_neg (by omega), if_neg (by omega), if_neg (by omega), if_neg (by omega), if_neg (by omega), if_neg h1]

theorem Pr.ins {f : Nat → Int} {x a p : Nat} {h : Int} (hxp : x ≠ p) (hxa : x ≠ a) {u v : Nat} (hp : Pr f (u, v)) (h1 : u ≠ x) (h2 : u ≠ p) (h3 : v ≠ x) (h4 : v ≠ a) : Pr (ins f x a p h) (u, v) := by
  unfold Pr at *
  simp only at *
  rw [ins_n hxp, ins_p hxa, if_neg h1, if_neg h2, if_neg h3, if_neg h4]
  exact hp

/-- the one ahead of the first of L2, closed by e -/
theorem Rel.prev {N H : Nat} {f : Nat → Int} {R : Nat → List Nat} (r : Rel N H f R) {h : Nat} (hh : h < H) {L1 L2 : List Nat} (hR : R h = L1 ++ L2) :
    f ((L2.headD (N + h)) * 3 + 1) = (lst (N + h) L1 : Nat) := by
  have g := r.ring h hh
  cases L2 with
  | nil => rw [List.append_nil] at hR; rw [hR] at g; exact g.2.2
  | cons y l =>
    rw [hR] at g
    have := g.1 (lst (N + h) L1, y) (by rw [ini_app]; simp)
    exact this.2
/-- the first of L2, closed by e, behind the last of L1 -/
theorem Rel.next {N H : Nat} {f : Nat → Int} {R : Nat → List Nat} (r : Rel N H f R) {h : Nat} (hh : h < H) {L1 L2 : List Nat} (hR : R h = L1 ++ L2) :
    f ((lst (N + h) L1) * 3) = (L2.headD (N + h) : Nat) := by
  have g := r.ring h hh
  cases L2 with
  | nil => rw [List.append_nil] at hR; rw [hR] at g; exact g.2.1
  | cons y l =>
    rw [hR] at g
    have := g.1 (lst (N + h) L1, y) (by rw [ini_app]; simp)
    exact this.1

theorem Rel.insert {N H : Nat} {f : Nat → Int} {R : Nat → List Nat} (r : Rel N H f R) {h : Nat} (hh : h < H) {L1 L2 : List Nat} (hR : R h = L1 ++ L2) {x : Nat} (hx : x < N) (hxi : ¬ Inn H R x) :
    Rel N H (ins f x (L2.headD (N + h)) (lst (N + h) L1) h) (setR R h (L1 ++ x :: L2)) := by
  have hnd := r.nodupE hh
  have hxo : ∀ k, k < H → ∀ u, u ∈ (N + k) :: R k → u ≠ x := by
    rintro k hk u hu rfl
    rcases List.mem_cons.1 hu with e | e
    · omega
    · exact hxi ⟨k, hk, e⟩
  have hpm : lst (N + h) L1 ∈ (N + h) :: R h := by
    have := lst_mem (N + h) L1; rw [hR]
    rcases List.mem_cons.1 this with e | e
    · rw [e]; simp
    · exact List.mem_cons_of_mem _ (List.mem_append_left _ e)
  have ham : L2.headD (N + h) ∈ (N + h) :: R h := by
    rw [hR]; cases L2 with
    | nil => simp
    | cons y l => simp
  have hxp : x ≠ lst (N + h) L1 := fun e => hxo h hh _ hpm e.symm
  have hxa : x ≠ L2.headD (N + h) := fun e => hxo h hh _ ham e.symm
  have hpv := r.prev hh hR
  refine ⟨fun k hk => ?_, fun k hk y hy => ?_, fun k hk => ?_, fun y hy => ?_, fun k hk => ?_⟩
  · by_cases e : k = h
    · subst e; rw [setR_same]
      have g := r.ring k hh
      have i1 : ∀ q ∈ ini (N + k) L1, Pr (ins f x (L2.headD (N + k)) (lst (N + k) L1) k) q := by
        rintro ⟨u, v⟩ hq
        have hm := ini_mem hq
        have hu : u ∈ (N + k) :: R k := by
          rw [hR]; rcases List.mem_cons.1 hm.1 with e | e
          · rw [e]; simp
          · exact List.mem_cons_of_mem _ (List.mem_append_left _ e)
        have hv : v ∈ (N + k) :: R k := by rw [hR]; exact List.mem_cons_of_mem _ (List.mem_append_left _ hm.2)
        have hn1 : ((N + k) :: L1).Nodup := by
          rw [hR, ← List.cons_append] at hnd; exact (List.nodup_append.1 hnd).1
        have hg : Pr f (u, v) := by
          cases L2 with
          | nil => rw [List.append_nil] at hR; rw [hR] at g; exact g.1 _ hq
          | cons y l => rw [hR] at g; exact g.1 _ (by rw [ini_app]; exact List.mem_append_left _ hq)
        refine hg.ins hxp hxa (hxo k hh _ hu) (ini_ne hn1 hq) (hxo k hh _ hv) ?_
        cases L2 with
        | nil => simp only [List.headD_nil]; intro e; subst e; exact (List.nodup_cons.1 hn1).1 hm.2
        | cons y l =>
          simp only [List.headD_cons]; rintro rfl
          rw [hR] at hnd
          have := (List.nodup_append.1 (List.nodup_cons.1 hnd).2).2.2 v hm.2 v (by simp)
          exact this rfl
      have i2 : Pr (ins f x (L2.headD (N + k)) (lst (N + k) L1) k) (lst (N + k) L1, x) := by
        unfold Pr; simp only; rw [ins_n hxp, ins_p hxa, if_neg (Ne.symm hxp), if_pos rfl, if_pos rfl]; exact ⟨rfl, rfl⟩
      have i3 : Pr (ins f x (L2.headD (N + k)) (lst (N + k) L1) k) (x, L2.headD (N + k)) := by
        unfold Pr; simp only; rw [ins_n hxp, ins_p hxa, if_pos rfl, if_neg (Ne.symm hxa), if_pos rfl]; exact ⟨rfl, rfl⟩
      cases L2 with
      | nil =>
        refine ⟨?_, ?_⟩
        · rw [ini_app]; intro q hq; simp only [ini, List.mem_append, List.mem_cons, List.not_mem_nil, or_false] at hq
          rcases hq with hq | rfl
          · exact i1 q hq
          · exact i2
        · rw [lst_app]; exact i3
      | cons y l =>
        simp only [List.headD_cons] at *
        rw [hR] at g hnd
        have gi := g.1
        rw [ini_app] at gi
        have hnd2 := (List.nodup_append.1 (List.nodup_cons.1 hnd).2)
        have hyl : y ∉ l := (List.nodup_cons.1 hnd2.2.1).1
        have hdis : ∀ u, u ∈ y :: l → u ≠ lst (N + k) L1 := by
          rintro u hu rfl
          have hl := lst_mem (N + k) L1
          rcases List.mem_cons.1 hl with e | e
          · rw [e] at hu; exact (List.nodup_cons.1 hnd).1 (List.mem_append_right _ hu)
          · exact hnd2.2.2 _ e _ hu rfl
        have hin : ∀ u, u ∈ y :: l → u ∈ (N + k) :: R k := fun u hu => by rw [hR]; exact List.mem_cons_of_mem _ (List.mem_append_right _ hu)
        refine ⟨?_, ?_⟩
        · rw [ini_app]; intro q hq; simp only [ini, List.mem_append, List.mem_cons] at hq
          rcases hq with hq | rfl | rfl | hq
          · exact i1 q hq
          · exact i2
          · exact i3
          · obtain ⟨u, v⟩ := q
            have hm := ini_mem hq
            have hg : Pr f (u, v) := gi _ (List.mem_append_right _ (List.mem_cons_of_mem _ hq))
            exact hg.ins hxp hxa (hxo k hh _ (hin u hm.1)) (hdis u hm.1) (hxo k hh _ (hin v (List.mem_cons_of_mem _ hm.2))) (fun e => hyl (e ▸ hm.2))
        · rw [lst_app]; simp only [lst]
          have hg := g.2
          rw [lst_app] at hg
          have hm := lst_mem y l
          refine hg.ins hxp hxa (hxo k hh _ (hin _ hm)) (hdis _ hm) (by omega) ?_
          rintro e
          have : N + k ∉ L1 ++ y :: l := (List.nodup_cons.1 hnd).1
          rw [e] at this; exact this (by simp)
    · rw [setR_ne _ _ _ _ e]
      have g := r.ring k hk
      have hne : ∀ u v, u ∈ (N + k) :: R k → v ∈ (N + h) :: R h → u ≠ v := by
        rintro u v hu hv rfl
        have a := r.hd hk hu; have b := r.hd hh hv; omega
      refine ⟨?_, ?_⟩
      · rintro ⟨u, v⟩ hq
        have hm := ini_mem hq
        have hv := List.mem_cons_of_mem (N + k) hm.2
        exact (g.1 _ hq).ins hxp hxa (hxo k hk _ hm.1) (hne _ _ hm.1 hpm) (hxo k hk _ hv) (hne _ _ hv ham)
      · have hm := lst_mem (N + k) (R k)
        exact g.2.ins hxp hxa (hxo k hk _ hm) (hne _ _ hm hpm) (hxo k hk _ (by simp)) (hne _ _ (by simp) ham)
  · rw [ins_h]
    by_cases e : k = h
    · subst e; rw [setR_same] at hy
      by_cases e2 : y = x
      · subst e2; exact ⟨hx, by rw [if_pos rfl]⟩
      · rw [if_neg e2]
        refine r.mem k hk y ?_
        rw [hR]; simp only [List.mem_append, List.mem_cons] at hy ⊢; rcases hy with h | h | h
        · exact .inl h
        · exact absurd h e2
        · exact .inr h
    · rw [setR_ne _ _ _ _ e] at hy
      rw [if_neg (hxo k hk y (List.mem_cons_of_mem _ hy))]
      exact r.mem k hk y hy
  · rw [ins_h, if_neg (by omega)]; exact r.ends k hk
  · rw [ins_h]
    by_cases e2 : y = x
    · subst e2; exact .inr ⟨h, hh, by rw [setR_same]; simp⟩
    · rw [if_neg e2]
      rcases r.out y hy with e | ⟨k, hk, hm⟩
      · exact .inl e
      · refine .inr ⟨k, hk, ?_⟩
        by_cases e : k = h
        · subst e; rw [setR_same]; rw [hR] at hm; simp only [List.mem_append, List.mem_cons] at hm ⊢
          rcases hm with h | h
          · exact .inl h
          · exact .inr (.inr h)
        · rw [setR_ne _ _ _ _ e]; exact hm
  · by_cases e : k = h
    · subst e; rw [setR_same]
      have hn := r.nodup k hk
      rw [hR] at hn
      have hx1 : x ∉ L1 ++ L2 := fun hm => hxi ⟨k, hk, by rw [hR]; exact hm⟩
      have := (List.perm_middle (a := x) (l₁ := L1) (l₂ := L2)).nodup_iff.2 (List.nodup_cons.2 ⟨hx1, hn⟩)
      exact this
    · rw [setR_ne _ _ _ _ e]; exact r.nodup k hk

/-- what Remove writes -/
def rem (f : Nat → Int) (x p n : Nat) : Nat → Int :=
  up (up (up (up (up f (p * 3) n) (n * 3 + 1) p) (x * 3) 0) (x * 3 + 1) 0) (x * 3 + 2) (-1)
theorem rem_n {f : Nat → Int} {x p n u : Nat} (h : u ≠ x) : rem f x p n (u * 3) = if u = p then (n : Int) else f (u * 3) := by
  unfold rem up
  rw [if_neg (by omega), if_neg (by omega), if_neg (by omega), if_neg (by omega)]
  by_cases e : u = p
  · subst e; rw [if_pos rfl, if_pos rfl]
  · rw [if_neg (by omega), if_neg e]
theorem rem_p {f : Nat → Int} {x p n u : Nat} (h : u ≠ x) : rem f x p n (u * 3 + 1) = if u = n then (p : Int) else f (u * 3 + 1) := by
  unfold rem up
  rw [if_neg (by omega), if_neg (by omega), if_neg (by omega)]
  by_cases e : u = n
  · subst e; rw [if_pos rfl, if_pos rfl]
  · rw [if_neg (by omega), if_neg (by omega), if_neg e]
theorem rem_h {f : Nat → Int} {x p n u : Nat} : rem f x p n (u * 3 + 2) = if u = x then -1 else f (u * 3 + 2) := by
  unfold rem up
  by_cases e : u = x
  · subst e; rw [if_pos rfl, if_pos rfl]
  · rw [if_neg (by omega), if_neg (by omega), if_neg (by omega), if_neg (by omega), if_neg (by omega), if_neg e]
theorem Pr.rem {f : Nat → Int} {x p n : Nat} {u v : Nat} (hp : Pr f (u, v)) (h1 : u ≠ x) (h2 : u ≠ p) (h3 : v ≠ x) (h4 : v ≠ n) : Pr (rem f x p n) (u, v) := by
  unfold Pr at *
  simp only at *
  rw [rem_n h1, rem_p h3, if_neg h2, if_neg h4]
  exact hp

theorem headD_mem (e : Nat) (l : List Nat) : l.headD e ∈ e :: l := by cases l <;> simp

theorem Rel.remove {N H : Nat} {f : Nat → Int} {R : Nat → List Nat} (r : Rel N H f R) {h : Nat} (hh : h < H) {L1 L2 : List Nat} {x : Nat} (hR : R h = L1 ++ x :: L2) :
    Rel N H (rem f x (lst (N + h) L1) (L2.headD (N + h))) (setR R h (L1 ++ L2)) := by
  have hnd := r.nodupE hh
  have hxm : x ∈ R h := by rw [hR]; simp
  have hxN := (r.mem h hh x hxm).1
  have hpm : lst (N + h) L1 ∈ (N + h) :: R h := by
    have := lst_mem (N + h) L1; rw [hR]
    rcases List.mem_cons.1 this with e | e
    · rw [e]; simp
    · exact List.mem_cons_of_mem _ (List.mem_append_left _ e)
  have hnm : L2.headD (N + h) ∈ (N + h) :: R h := by
    rw [hR]; cases L2 with
    | nil => simp
    | cons y l => simp
  have hx1 : x ∉ L1 ∧ x ∉ L2 := by
    have hn := r.nodup h hh
    rw [hR] at hn
    have := List.nodup_append.1 hn
    exact ⟨fun hm => this.2.2 x hm x (by simp) rfl, (List.nodup_cons.1 this.2.1).1⟩
  have hxe : ∀ k, x ≠ N + k := fun k => by omega
  have hxp : lst (N + h) L1 ≠ x := by
    have := lst_mem (N + h) L1
    rcases List.mem_cons.1 this with e | e
    · rw [e]; exact Ne.symm (hxe h)
    · rintro e2; rw [e2] at e; exact hx1.1 e
  have hxn : L2.headD (N + h) ≠ x := by
    rcases List.mem_cons.1 (headD_mem (N + h) L2) with e | e
    · rw [e]; exact Ne.symm (hxe h)
    · rintro e2; rw [e2] at e; exact hx1.2 e
  refine ⟨fun k hk => ?_, fun k hk y hy => ?_, fun k hk => ?_, fun y hy => ?_, fun k hk => ?_⟩
  · by_cases e : k = h
    · subst e; rw [setR_same]
      have g := r.ring k hh
      rw [hR] at g hnd
      have gi := g.1
      rw [ini_app] at gi
      have gl := g.2
      rw [lst_app] at gl
      have hn1 : ((N + k) :: L1).Nodup := by rw [← List.cons_append] at hnd; exact (List.nodup_append.1 hnd).1
      have hnd2 := List.nodup_append.1 (List.nodup_cons.1 hnd).2
      have heN : N + k ∉ L1 ++ x :: L2 := (List.nodup_cons.1 hnd).1
      have i1 : ∀ q ∈ ini (N + k) L1, Pr (Ytmfjhckacmdijaa.rem f x (lst (N + k) L1) (L2.headD (N + k))) q := by
        rintro ⟨u, v⟩ hq
        have hm := ini_mem hq
        refine (gi _ (List.mem_append_left _ hq)).rem ?_ (ini_ne hn1 hq) (fun e => hx1.1 (e ▸ hm.2)) ?_
        · rcases List.mem_cons.1 hm.1 with e | e
          · rw [e]; exact Ne.symm (hxe k)
          · exact fun e2 => hx1.1 (e2 ▸ e)
        · rcases List.mem_cons.1 (headD_mem (N + k) L2) with e | e
          · rw [e]; rintro rfl; exact heN (List.mem_append_left _ hm.2)
          · rintro e2; exact hnd2.2.2 v hm.2 v (List.mem_cons_of_mem _ (e2 ▸ e)) rfl
      have i2 : Pr (Ytmfjhckacmdijaa.rem f x (lst (N + k) L1) (L2.headD (N + k))) (lst (N + k) L1, L2.headD (N + k)) := by
        unfold Pr; simp only; rw [rem_n hxp, rem_p hxn, if_pos rfl, if_pos rfl]; exact ⟨rfl, rfl⟩
      cases L2 with
      | nil => rw [List.append_nil]; exact ⟨i1, i2⟩
      | cons y l =>
        simp only [List.headD_cons] at *
        have hdis : ∀ u, u ∈ y :: l → u ≠ lst (N + k) L1 := by
          rintro u hu rfl
          rcases List.mem_cons.1 (lst_mem (N + k) L1) with e | e
          · rw [e] at hu; exact heN (List.mem_append_right _ (List.mem_cons_of_mem _ hu))
          · exact hnd2.2.2 _ e _ (List.mem_cons_of_mem _ hu) rfl
        have hyl : y ∉ l := (List.nodup_cons.1 (List.nodup_cons.1 hnd2.2.1).2).1
        have hxy : ∀ u, u ∈ y :: l → u ≠ x := fun u hu e => hx1.2 (e ▸ hu)
        refine ⟨?_, ?_⟩
        · rw [ini_app]; intro q hq; simp only [List.mem_append, List.mem_cons] at hq
          rcases hq with hq | rfl | hq
          · exact i1 q hq
          · exact i2
          · obtain ⟨u, v⟩ := q
            have hm := ini_mem hq
            exact (gi _ (List.mem_append_right _ (by simp only [ini]; exact List.mem_cons_of_mem _ (List.mem_cons_of_mem _ hq)))).rem (hxy u hm.1) (hdis u hm.1) (hxy v (List.mem_cons_of_mem _ hm.2)) (fun e => hyl (e ▸ hm.2))
        · rw [lst_app]
          simp only [lst] at gl
          have hm := lst_mem y l
          refine gl.rem (hxy _ hm) (hdis _ hm) (Ne.symm (hxe k)) ?_
          rintro e; exact heN (by rw [e]; simp)
    · rw [setR_ne _ _ _ _ e]
      have g := r.ring k hk
      have hne : ∀ u v, u ∈ (N + k) :: R k → v ∈ (N + h) :: R h → u ≠ v := by
        rintro u v hu hv rfl
        have a := r.hd hk hu; have b := r.hd hh hv; omega
      have hxx := List.mem_cons_of_mem (N + h) hxm
      refine ⟨?_, ?_⟩
      · rintro ⟨u, v⟩ hq
        have hm := ini_mem hq
        have hv := List.mem_cons_of_mem (N + k) hm.2
        exact (g.1 _ hq).rem (hne _ _ hm.1 hxx) (hne _ _ hm.1 hpm) (hne _ _ hv hxx) (hne _ _ hv hnm)
      · have hm := lst_mem (N + k) (R k)
        exact g.2.rem (hne _ _ hm hxx) (hne _ _ hm hpm) (hne _ _ (by simp) hxx) (hne _ _ (by simp) hnm)
  · rw [rem_h]
    have hyR : y ∈ R k ∧ y ≠ x := by
      by_cases e : k = h
      · subst e; rw [setR_same] at hy
        refine ⟨by rw [hR]; simp only [List.mem_append, List.mem_cons] at hy ⊢; rcases hy with h | h; exact .inl h; exact .inr (.inr h), ?_⟩
        rintro rfl; rcases List.mem_append.1 hy with h | h; exact hx1.1 h; exact hx1.2 h
      · rw [setR_ne _ _ _ _ e] at hy; exact ⟨hy, fun e2 => e (r.one hk hh hy (e2 ▸ hxm))⟩
    rw [if_neg hyR.2]; exact r.mem k hk y hyR.1
  · rw [rem_h, if_neg (Ne.symm (hxe k))]; exact r.ends k hk
  · rw [rem_h]
    by_cases e2 : y = x
    · exact .inl (if_pos e2)
    · rw [if_neg e2]
      rcases r.out y hy with e | ⟨k, hk, hm⟩
      · exact .inl e
      · refine .inr ⟨k, hk, ?_⟩
        by_cases e : k = h
        · subst e; rw [setR_same]; rw [hR] at hm; simp only [List.mem_append, List.mem_cons] at hm ⊢
          rcases hm with h | h | h
          · exact .inl h
          · exact absurd h e2
          · exact .inr h
        · rw [setR_ne _ _ _ _ e]; exact hm
  · by_cases e : k = h
    · subst e; rw [setR_same]
      have hn := r.nodup k hk
      rw [hR] at hn
      exact (List.nodup_cons.1 ((List.perm_middle (a := x) (l₁ := L1) (l₂ := L2)).nodup_iff.1 hn)).2
    · rw [setR_ne _ _ _ _ e]; exact r.nodup k hk

/-- the links that New lays -/
def new0 (N : Nat) (i : Nat) : Int := if i < N * 3 then (if i % 3 = 2 then -1 else 0) else (if i % 3 = 2 then ((i / 3 - N : Nat) : Int) else ((i / 3 : Nat) : Int))
theorem rel_new (N H : Nat) : Rel N H (new0 N) (fun _ => []) := by
  have hN : ∀ u, u * 3 % 3 = 0 ∧ u * 3 / 3 = u ∧ (u * 3 + 1) % 3 = 1 ∧ (u * 3 + 1) / 3 = u ∧ (u * 3 + 2) % 3 = 2 ∧ (u * 3 + 2) / 3 = u := fun u => by omega
  refine ⟨fun h hh => ⟨fun q hq => by simp [ini] at hq, ?_⟩, fun h hh x hx => by simp at hx, fun h hh => ?_, fun x hx => ?_, fun h hh => by simp⟩
  · show new0 N ((N + h) * 3) = ((N + h : Nat) : Int) ∧ new0 N ((N + h) * 3 + 1) = ((N + h : Nat) : Int)
    unfold new0
    obtain ⟨a, b, c, d, _, _⟩ := hN (N + h)
    rw [if_neg (by omega), if_neg (by omega), if_neg (by omega), if_neg (by omega), b, d]; exact ⟨rfl, rfl⟩
  · unfold new0
    obtain ⟨_, _, _, _, e, g⟩ := hN (N + h)
    rw [if_neg (by omega), if_pos e, g]; congr 1; omega
  · left; unfold new0
    obtain ⟨_, _, _, _, e, g⟩ := hN x
    rw [if_pos (by omega), if_pos e]
end Go.Proofs.Ytmfjhckacmdijaa
