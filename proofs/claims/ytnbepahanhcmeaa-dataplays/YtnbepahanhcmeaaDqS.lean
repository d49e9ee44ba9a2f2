/- A data queue by itself: who waits to send (and what), who waits to receive, the numbers; each method as a plain function. No Go here. -/
import Derived.Test.YtnbepahanhcmeaaAbs
namespace Go.Proofs.Ytnbepahanhcmeaa

structure St where
  b : Bool
  m : Nat
  S : List It
  R : List It
  W : Nat → Int
  D : List Int

/-- no two wait twice, each in its bounds and in order; the numbers have room -/
structure Fine (t : St) : Prop where
  s : Good t.b t.S
  r : Good false t.R
  d : t.D.length ≤ t.m
  m : t.m ≤ 64

def setW (f : Nat → Int) (k : Nat) (x : Int) : Nat → Int := fun i => if i = k then x else f i

def trySend (t : St) (x : Int) : St × Bool × Int :=
  match t.R with
  | r :: R => ({ t with R := R }, true, r.1)
  | [] => if t.D.length < t.m then ({ t with D := t.D ++ [x] }, true, 0) else (t, false, 0)
def waitS (t : St) (id pri x : Int) : St × Int :=
  ({ t with S := addL t.b t.S id pri, W := if addC t.S id pri = 0 then setW t.W id.toNat x else t.W }, addC t.S id pri)
def send (t : St) (id pri x : Int) : St × Bool × Int × Int :=
  match trySend t x with
  | (t1, true, r) => (t1, true, r, 0)
  | (t1, false, _) => match waitS t1 id pri x with | (t2, e) => (t2, false, 0, e)
def force (t : St) (x : Int) : St × Int × Int :=
  if t.m = 0 then (t, 0, -28) else
  match trySend t x with
  | (t1, true, r) => (t1, r, 0)
  | (t1, false, r) => ({ t1 with D := t1.D.tail ++ [x] }, r, 0)
def tryRecv (t : St) : St × Int × Bool × Int :=
  match t.S, t.D with
  | [], [] => (t, 0, false, 0)
  | [], d :: D => ({ t with D := D }, d, true, 0)
  | y :: S, [] => ({ t with S := S }, t.W y.1.toNat, true, y.1)
  | y :: S, d :: D => ({ t with S := S, D := D ++ [t.W y.1.toNat] }, d, true, y.1)
def waitR (t : St) (id pri : Int) : St × Int := ({ t with R := addL false t.R id pri }, addC t.R id pri)
def recv (t : St) (id pri : Int) : St × Int × Bool × Int × Int :=
  match tryRecv t with
  | (t1, d, true, k) => (t1, d, true, k, 0)
  | (t1, _, false, _) => match waitR t1 id pri with | (t2, e) => (t2, 0, false, 0, e)
def drop (t : St) (id : Int) : St × Bool :=
  if pos t.S id < t.S.length then ({ t with S := t.S.eraseIdx (pos t.S id) }, true)
  else ({ t with R := t.R.eraseIdx (pos t.R id) }, decide (pos t.R id < t.R.length))
def change (t : St) (id pri : Int) : St × Bool :=
  if chgOk t.S id pri = true then ({ t with S := chgL t.b t.S id pri }, true)
  else ({ t with R := chgL false t.R id pri }, chgOk t.R id pri)

theorem trySend_yes {t : St} {x : Int} {r : It} {R : List It} (h : t.R = r :: R) : trySend t x = ({ t with R := R }, true, r.1) := by unfold trySend; rw [h]
theorem trySend_room {t : St} {x : Int} (h : t.R = []) (h2 : t.D.length < t.m) : trySend t x = ({ t with D := t.D ++ [x] }, true, 0) := by unfold trySend; rw [h]; simp [h2]
theorem trySend_no {t : St} {x : Int} (h : t.R = []) (h2 : ¬ t.D.length < t.m) : trySend t x = (t, false, 0) := by unfold trySend; rw [h]; simp [h2]
theorem trySend_false {t t1 : St} {x r : Int} (h : trySend t x = (t1, false, r)) : t1 = t ∧ r = 0 ∧ t.R = [] ∧ ¬ t.D.length < t.m := by
  unfold trySend at h
  split at h
  · injection h with _ h; injection h with h; cases h
  · rename_i h0
    split at h
    · injection h with _ h; injection h with h; cases h
    · rename_i h1
      injection h with h2 h3; injection h3 with _ h3
      exact ⟨h2.symm, h3.symm, h0, h1⟩

theorem good_tail {b : Bool} {x : It} {L : List It} (h : Good b (x :: L)) : Good b L := h.sub (List.sublist_cons_self x L)

theorem Fine.trySend {t t1 : St} {x r : Int} {k : Bool} (h : Fine t) (e : trySend t x = (t1, k, r)) : Fine t1 := by
  unfold Ytnbepahanhcmeaa.trySend at e
  split at e
  · rename_i y R h0
    injection e with e _; subst e
    have hr := h.r; rw [h0] at hr
    exact ⟨h.s, good_tail hr, h.d, h.m⟩
  · split at e
    · rename_i h1
      injection e with e _; subst e
      exact ⟨h.s, h.r, by simp; omega, h.m⟩
    · injection e with e _; subst e; exact h
theorem Fine.waitS {t : St} (h : Fine t) (id pri x : Int) : Fine (waitS t id pri x).1 := ⟨h.s.addL id pri, h.r, h.d, h.m⟩
theorem Fine.send {t t1 : St} {id pri x r e : Int} {k : Bool} (h : Fine t) (hs : send t id pri x = (t1, k, r, e)) : Fine t1 := by
  unfold Ytnbepahanhcmeaa.send at hs
  split at hs
  · rename_i h0; injection hs with hs _; subst hs; exact h.trySend h0
  · rename_i h0
    have := (h.trySend h0).waitS id pri x
    injection hs with hs _; subst hs; exact this
theorem Fine.force {t t1 : St} {x r e : Int} (h : Fine t) (hs : force t x = (t1, r, e)) : Fine t1 := by
  unfold Ytnbepahanhcmeaa.force at hs
  split at hs
  · injection hs with hs _; subst hs; exact h
  · rename_i hm
    split at hs
    · rename_i h0; injection hs with hs _; subst hs; exact h.trySend h0
    · rename_i h0
      obtain ⟨e1, _, _, e2⟩ := trySend_false h0
      have := h.trySend h0
      have hd := this.d
      injection hs with hs _; subst hs
      refine ⟨this.s, this.r, ?_, this.m⟩
      simp only [List.length_append, List.length_tail, List.length_singleton]
      subst e1
      omega
theorem Fine.tryRecv {t t1 : St} {d k : Int} {ok : Bool} (h : Fine t) (hs : tryRecv t = (t1, d, ok, k)) : Fine t1 := by
  unfold Ytnbepahanhcmeaa.tryRecv at hs
  have hd := h.d
  split at hs
  · injection hs with hs _; subst hs; exact h
  · rename_i h1 h2
    injection hs with hs _; subst hs
    rw [h2] at hd; simp at hd
    exact ⟨h.s, h.r, by simp only; omega, h.m⟩
  · rename_i y S h1 h2
    have h3 := h.s; rw [h1] at h3
    injection hs with hs _; subst hs; exact ⟨good_tail h3, h.r, h.d, h.m⟩
  · rename_i y S d0 D h1 h2
    have h3 := h.s; rw [h1] at h3
    rw [h2] at hd; simp at hd
    injection hs with hs _; subst hs; exact ⟨good_tail h3, h.r, by simp; omega, h.m⟩
theorem tryRecv_false {t t1 : St} {d k : Int} (h : tryRecv t = (t1, d, false, k)) : t1 = t ∧ d = 0 ∧ k = 0 ∧ t.S = [] ∧ t.D = [] := by
  unfold tryRecv at h
  split at h <;> simp only [Prod.mk.injEq, Bool.true_eq_false, false_and, and_false] at h
  rename_i h1 h2
  exact ⟨h.1.symm, h.2.1.symm, h.2.2.2.symm, h1, h2⟩
theorem Fine.waitR {t : St} (h : Fine t) (id pri : Int) : Fine (waitR t id pri).1 := ⟨h.s, h.r.addL id pri, h.d, h.m⟩
theorem Fine.recv {t t1 : St} {id pri d k e : Int} {ok : Bool} (h : Fine t) (hs : recv t id pri = (t1, d, ok, k, e)) : Fine t1 := by
  unfold Ytnbepahanhcmeaa.recv at hs
  split at hs
  · rename_i h0; injection hs with hs _; subst hs; exact h.tryRecv h0
  · rename_i h0
    have := (h.tryRecv h0).waitR id pri
    injection hs with hs _; subst hs; exact this
theorem Fine.drop {t : St} (h : Fine t) (id : Int) : Fine (drop t id).1 := by
  unfold Ytnbepahanhcmeaa.drop
  split
  · exact ⟨h.s.erase _, h.r, h.d, h.m⟩
  · exact ⟨h.s, h.r.erase _, h.d, h.m⟩
theorem Fine.change {t : St} (h : Fine t) (id pri : Int) : Fine (change t id pri).1 := by
  unfold Ytnbepahanhcmeaa.change
  split
  · exact ⟨h.s.chgL id pri, h.r, h.d, h.m⟩
  · exact ⟨h.s, h.r.chgL id pri, h.d, h.m⟩
end Go.Proofs.Ytnbepahanhcmeaa
