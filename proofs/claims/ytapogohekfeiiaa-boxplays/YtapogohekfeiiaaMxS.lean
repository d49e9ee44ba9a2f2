/- A mailbox by itself: who waits, the messages; each method as a plain function; the ring of links and the last message of each priority, as the messages make them. No Go here. -/
import Derived.Test.YtapogohekfeiiaaAbs
namespace Go.Proofs.Ytapogohekfeiiaa

structure St where
  b : Bool
  L : List It
  mp : Bool
  m : Int
  M : List It

def ids (M : List It) : List Int := M.map Prod.fst
/-- the priority that counts -/
def ef (mp : Bool) (x : It) : Int := if mp = true then x.2 else 1

def In64 (x : Int) : Prop := -9223372036854775808 ≤ x ∧ x ≤ 9223372036854775807
/-- no message twice, none is 0; with priorities: each in its bounds and in order -/
structure Gm (mp : Bool) (m : Int) (M : List It) : Prop where
  nd : (0 :: ids M).Nodup
  wf : ∀ x, x ∈ M → In64 x.1
  rng : mp = true → ∀ x, x ∈ M → 1 ≤ x.2 ∧ x.2 ≤ m
  ord : mp = true → M.Pairwise (fun x y => x.2 ≤ y.2)
structure Fine (S : St) : Prop where
  q : Good S.b S.L
  g : Gm S.mp S.m S.M
  m1 : 1 ≤ S.m
  m2 : S.m ≤ 255

def send (S : St) (msg pri : Int) : St × Int × Int :=
  if msg = 0 ∨ (S.mp = true ∧ (pri < 1 ∨ S.m < pri)) then (S, 0, -17)
  else if msg ∈ ids S.M then (S, 0, -41)
  else match S.L with
    | x :: L => ({ S with L := L }, x.1, 0)
    | [] => ({ S with M := ins S.M (plc S.mp S.M pri) (msg, pri) }, 0, 0)
def poll (S : St) : St × Int × Bool :=
  match S.M with
  | [] => (S, 0, false)
  | x :: M => ({ S with M := M }, x.1, true)
def recv (S : St) (task pri : Int) : St × Int × Bool × Int :=
  match S.M with
  | [] => ({ S with L := addL S.b S.L task pri }, 0, false, addC S.L task pri)
  | x :: M => ({ S with M := M }, x.1, true, 0)
def rem (S : St) (id : Int) : St := { S with L := S.L.eraseIdx (pos S.L id) }
def chg (S : St) (id pri : Int) : St := { S with L := chgL S.b S.L id pri }

theorem ids_ins (M : List It) (k : Nat) (x : It) : ids (ins M k x) = ids (M.take k) ++ x.1 :: ids (M.drop k) := by unfold ids ins; simp
theorem ids_cut (M : List It) (k : Nat) : ids M = ids (M.take k) ++ ids (M.drop k) := by unfold ids; rw [← List.map_append, List.take_append_drop]
theorem mem_ids {M : List It} {x : Int} : x ∈ ids M ↔ ∃ y, y ∈ M ∧ y.1 = x := by unfold ids; simp
theorem mem_ids_ins {M : List It} {k : Nat} {x : It} {y : Int} : y ∈ ids (ins M k x) ↔ y = x.1 ∨ y ∈ ids M := by
  rw [ids_ins, ids_cut M k]; simp only [List.mem_append, List.mem_cons]
  constructor
  · rintro (h | h | h)
    · exact .inr (.inl h)
    · exact .inl h
    · exact .inr (.inr h)
  · rintro (h | h | h)
    · exact .inr (.inl h)
    · exact .inl h
    · exact .inr (.inr h)

theorem Gm.none (mp : Bool) (m : Int) : Gm mp m [] := ⟨by simp [ids], fun _ h => by simp at h, fun _ _ h => by simp at h, fun _ => List.Pairwise.nil⟩
theorem Gm.tail {mp : Bool} {m : Int} {x : It} {M : List It} (h : Gm mp m (x :: M)) : Gm mp m M := by
  refine ⟨?_, fun y hy => h.wf y (by simp [hy]), fun e y hy => h.rng e y (by simp [hy]), fun e => (List.pairwise_cons.1 (h.ord e)).2⟩
  have := h.nd
  unfold ids at this ⊢
  simp only [List.map_cons, List.nodup_cons, List.mem_cons, not_or] at this ⊢
  exact ⟨this.1.2, this.2.2⟩
theorem Gm.put {mp : Bool} {m : Int} {M : List It} (h : Gm mp m M) {msg pri : Int} (h0 : msg ≠ 0) (h1 : mp = true → 1 ≤ pri ∧ pri ≤ m) (h2 : msg ∉ ids M) (h3 : In64 msg) : Gm mp m (ins M (plc mp M pri) (msg, pri)) := by
  refine ⟨?_, fun y hy => ?_, fun e y hy => ?_, fun e => ?_⟩
  · have hn := h.nd
    rw [List.nodup_cons] at hn ⊢
    refine ⟨fun hm => ?_, nodup_ins hn.2 fun y hy e => h2 (mem_ids.2 ⟨y, hy, e⟩)⟩
    rcases mem_ids_ins.1 hm with hm | hm
    · exact h0 hm.symm
    · exact hn.1 hm
  · rcases mem_ins.1 hy with rfl | hy
    · exact h3
    · exact h.wf y hy
  · rcases mem_ins.1 hy with rfl | hy
    · exact h1 e
    · exact h.rng e y hy
  · have hs := h.ord e
    have hs' := hs
    rw [← List.take_append_drop (plc mp M pri) M] at hs'
    have hs2 := List.pairwise_append.1 hs'
    unfold ins
    refine List.pairwise_append.2 ⟨hs2.1, List.pairwise_cons.2 ⟨fun y hy => ?_, hs2.2.1⟩, fun x hx y hy => ?_⟩
    · have := drop_mem_behind hs e hy; simp only; omega
    · rcases List.mem_cons.1 hy with rfl | hy
      · exact take_mem_before e hx
      · exact hs2.2.2 x hx y hy

theorem Fine.send {S S' : St} {msg pri t k : Int} (h : Fine S) (hw : In64 msg) (e : send S msg pri = (S', t, k)) : Fine S' := by
  obtain ⟨b, L, mp, m, M⟩ := S
  unfold Ytapogohekfeiiaa.send at e
  simp only at e
  split at e
  · simp only [Prod.mk.injEq] at e; obtain ⟨rfl, _, _⟩ := e; exact h
  · rename_i c
    split at e
    · simp only [Prod.mk.injEq] at e; obtain ⟨rfl, _, _⟩ := e; exact h
    · rename_i c2
      cases L with
      | cons x L => simp only [Prod.mk.injEq] at e; obtain ⟨rfl, _, _⟩ := e; exact ⟨h.q.tail 1, h.g, h.m1, h.m2⟩
      | nil =>
        simp only [Prod.mk.injEq] at e; obtain ⟨rfl, _, _⟩ := e
        exact ⟨h.q, h.g.put (fun e => c (.inl e)) (fun e => by
          refine ⟨?_, ?_⟩
          · exact Int.not_lt.1 fun g => c (.inr ⟨e, .inl g⟩)
          · exact Int.not_lt.1 fun g => c (.inr ⟨e, .inr g⟩)) c2 hw, h.m1, h.m2⟩
theorem Fine.poll {S S' : St} {r : Int} {o : Bool} (h : Fine S) (e : poll S = (S', r, o)) : Fine S' := by
  obtain ⟨b, L, mp, m, M⟩ := S
  unfold Ytapogohekfeiiaa.poll at e
  cases M with
  | nil => simp only [Prod.mk.injEq] at e; obtain ⟨rfl, _, _⟩ := e; exact h
  | cons x M => simp only [Prod.mk.injEq] at e; obtain ⟨rfl, _, _⟩ := e; exact ⟨h.q, h.g.tail, h.m1, h.m2⟩
theorem Fine.recv {S S' : St} {id pri r k : Int} {o : Bool} (h : Fine S) (e : recv S id pri = (S', r, o, k)) : Fine S' := by
  obtain ⟨b, L, mp, m, M⟩ := S
  unfold Ytapogohekfeiiaa.recv at e
  cases M with
  | nil => simp only [Prod.mk.injEq] at e; obtain ⟨rfl, _, _⟩ := e; exact ⟨h.q.addL id pri, h.g, h.m1, h.m2⟩
  | cons x M => simp only [Prod.mk.injEq] at e; obtain ⟨rfl, _, _⟩ := e; exact ⟨h.q, h.g.tail, h.m1, h.m2⟩
theorem Fine.rem {S : St} (h : Fine S) (id : Int) : Fine (rem S id) := ⟨h.q.erase _, h.g, h.m1, h.m2⟩
theorem Fine.chg {S : St} (h : Fine S) (id pri : Int) : Fine (chg S id pri) := ⟨h.q.chgL id pri, h.g, h.m1, h.m2⟩
theorem fine_new (b mp : Bool) {m : Int} (h1 : 1 ≤ m) (h2 : m ≤ 255) : Fine ⟨b, [], mp, m, []⟩ := ⟨good_nil b, .none _ _, h1, h2⟩

/-- how many messages there are at most behind a call -/
theorem send_len {S S' : St} {msg pri t k : Int} (e : send S msg pri = (S', t, k)) : S'.M.length ≤ S.M.length + 1 := by
  obtain ⟨b, L, mp, m, M⟩ := S
  unfold send at e
  simp only at e
  split at e
  · simp only [Prod.mk.injEq] at e; obtain ⟨rfl, _, _⟩ := e; simp
  · split at e
    · simp only [Prod.mk.injEq] at e; obtain ⟨rfl, _, _⟩ := e; simp
    · cases L with
      | cons x L => simp only [Prod.mk.injEq] at e; obtain ⟨rfl, _, _⟩ := e; simp
      | nil => simp only [Prod.mk.injEq] at e; obtain ⟨rfl, _, _⟩ := e; simp only; rw [ins_len (plc_le _ _ _)]; omega

/-! ### the ring: what stands behind a message -/
def nxt : List Int → Int → Int
  | a :: b :: l, k => if k = a then b else nxt (b :: l) k
  | _, _ => 0

theorem nxt_cons {a k : Int} (h : k ≠ a) : ∀ l, nxt (a :: l) k = nxt l k
  | [] => rfl
  | b :: l => by rw [nxt, if_neg h]
theorem nxt_head (a : Int) : ∀ l, nxt (a :: l) a = l.headD 0
  | [] => rfl
  | b :: l => by rw [nxt, if_pos rfl]; rfl
theorem nxt_no {k : Int} : ∀ {l : List Int}, k ∉ l → nxt l k = 0
  | [], _ => rfl
  | a :: l, h => by
    simp only [List.mem_cons, not_or] at h
    rw [nxt_cons h.1, nxt_no h.2]
theorem nxt_at : ∀ {l : List Int} {i : Nat} {a : Int}, l.Nodup → l[i]? = some a → nxt l a = (l[i + 1]?).getD 0
  | [], i, a, _, h => by simp at h
  | b :: l, 0, a, _, h => by
    simp at h; subst h
    rw [nxt_head]
    cases l <;> simp
  | b :: l, i + 1, a, hn, h => by
    rw [List.nodup_cons] at hn
    rw [List.getElem?_cons_succ] at h
    rw [nxt_cons (by rintro rfl; exact hn.1 (List.mem_of_getElem? h)), List.getElem?_cons_succ]
    exact nxt_at hn.2 h
theorem nxt_ins {b x : Int} {C : List Int} (k : Int) : ∀ {A : List Int}, (A ++ b :: C).Nodup → x ∉ A ++ b :: C →
    nxt (A ++ b :: x :: C) k = if k = b then x else if k = x then nxt (A ++ b :: C) b else nxt (A ++ b :: C) k
  | [], hn, hx => by
    simp only [List.nil_append, List.mem_cons, not_or] at hx ⊢
    by_cases h1 : k = b
    · rw [if_pos h1, h1, nxt_head]; rfl
    · rw [if_neg h1, nxt_cons h1]
      by_cases h2 : k = x
      · rw [if_pos h2, h2, nxt_head, nxt_head]
      · rw [if_neg h2, nxt_cons h2, nxt_cons h1]
  | a :: A, hn, hx => by
    simp only [List.cons_append, List.mem_cons, not_or, List.nodup_cons] at hn hx ⊢
    have hab : b ≠ a := by rintro rfl; exact hn.1 (by simp)
    by_cases h1 : k = a
    · subst h1
      rw [if_neg (Ne.symm hab), if_neg (fun e => hx.1 e.symm), nxt_head, nxt_head]
      cases A <;> rfl
    · rw [nxt_cons h1, nxt_ins k hn.2 hx.2, nxt_cons hab, nxt_cons h1]
theorem nxt_del {a x : Int} {t : List Int} (hn : (a :: x :: t).Nodup) (k : Int) :
    nxt (a :: t) k = if k = x then 0 else if k = a then nxt (a :: x :: t) x else nxt (a :: x :: t) k := by
  simp only [List.nodup_cons, List.mem_cons, not_or] at hn
  by_cases h1 : k = x
  · subst h1
    rw [if_pos rfl, nxt_no (by simp only [List.mem_cons, not_or]; exact ⟨Ne.symm hn.1.1, hn.2.1⟩)]
  · rw [if_neg h1]
    by_cases h2 : k = a
    · subst h2; rw [if_pos rfl, nxt_head, nxt_cons (Ne.symm hn.1.1), nxt_head]
    · rw [if_neg h2, nxt_cons h2, nxt_cons h2, nxt_cons h1]

/-! ### the last message of a priority -/
def lst (mp : Bool) : List It → Int → Int
  | [], _ => 0
  | x :: M, i => if lst mp M i = 0 then (if ef mp x = i then x.1 else 0) else lst mp M i

theorem lst_append (mp : Bool) (B : List It) (i : Int) : ∀ A, lst mp (A ++ B) i = if lst mp B i = 0 then lst mp A i else lst mp B i
  | [] => by
    by_cases h : lst mp B i = 0
    · rw [if_pos h, List.nil_append, h]; rfl
    · rw [if_neg h]; rfl
  | x :: A => by
    rw [List.cons_append, lst, lst_append mp B i A, lst]
    by_cases h : lst mp B i = 0
    · simp only [h, if_true]
    · simp only [if_neg h]
theorem lst_none {mp : Bool} {i : Int} : ∀ {M : List It}, (∀ x, x ∈ M → ef mp x ≠ i) → lst mp M i = 0
  | [], _ => rfl
  | x :: M, h => by rw [lst, lst_none (fun y hy => h y (by simp [hy])), if_pos rfl, if_neg (h x (by simp))]
theorem lst_mem {mp : Bool} {i : Int} : ∀ {M : List It}, lst mp M i ≠ 0 → ∃ x, x ∈ M ∧ x.1 = lst mp M i ∧ ef mp x = i
  | [], h => absurd rfl h
  | x :: M, h => by
    by_cases c : lst mp M i = 0
    · rw [lst, if_pos c] at h ⊢
      by_cases d : ef mp x = i
      · rw [if_pos d]; exact ⟨x, by simp, rfl, d⟩
      · rw [if_neg d] at h; exact absurd rfl h
    · rw [lst, if_neg c]
      obtain ⟨y, h1, h2, h3⟩ := lst_mem c
      exact ⟨y, by simp [h1], h2, h3⟩
theorem lst_in {mp : Bool} {i : Int} {M : List It} : lst mp M i = 0 ∨ lst mp M i ∈ ids M := by
  by_cases c : lst mp M i = 0
  · exact .inl c
  · obtain ⟨y, h1, h2, _⟩ := lst_mem c; exact .inr (mem_ids.2 ⟨y, h1, h2⟩)
theorem lst_wf {mp : Bool} {m i : Int} {M : List It} (h : Gm mp m M) : In64 (lst mp M i) := by
  by_cases c : lst mp M i = 0
  · rw [c]; exact ⟨by omega, by omega⟩
  · obtain ⟨y, h1, h2, _⟩ := lst_mem c; rw [← h2]; exact h.wf y h1
theorem nxt_wf {mp : Bool} {m k : Int} {M : List It} (h : Gm mp m M) : In64 (nxt (0 :: ids M) k) := by
  by_cases c : k ∈ 0 :: ids M
  · obtain ⟨i, hi⟩ := List.getElem?_of_mem c
    rw [nxt_at h.nd hi, List.getElem?_cons_succ]
    cases e : (ids M)[i]? with
    | none => exact ⟨by simp, by simp⟩
    | some y =>
      obtain ⟨z, h1, h2⟩ := mem_ids.1 (List.mem_of_getElem? e)
      have := h.wf z h1
      rw [h2] at this; exact this
  · rw [nxt_no c]; exact ⟨by omega, by omega⟩
theorem lst_tail {mp : Bool} {x : It} {M : List It} (hn : (0 :: ids (x :: M)).Nodup) (i : Int) : lst mp M i = if lst mp (x :: M) i = x.1 then 0 else lst mp (x :: M) i := by
  simp only [ids, List.map_cons, List.nodup_cons, List.mem_cons, not_or] at hn
  by_cases c : lst mp M i = 0
  · rw [lst, if_pos c, c]
    by_cases d : ef mp x = i
    · rw [if_pos d, if_pos rfl]
    · rw [if_neg d, if_neg hn.1.1]
  · rw [lst, if_neg c, if_neg]
    intro e
    rcases lst_in (mp := mp) (i := i) (M := M) with h | h
    · exact c h
    · rw [e] at h; exact hn.2.1 h
theorem lst_where {mp : Bool} {x : It} {M : List It} (hn : (0 :: ids (x :: M)).Nodup) {i : Int} (h : lst mp (x :: M) i = x.1) : i = ef mp x := by
  simp only [ids, List.map_cons, List.nodup_cons, List.mem_cons, not_or] at hn
  rw [lst] at h
  split at h
  · split at h
    · rename_i d; exact d.symm
    · exact absurd h hn.1.1
  · rename_i c
    rcases lst_in (mp := mp) (i := i) (M := M) with h' | h'
    · exact absurd h' c
    · rw [h] at h'; exact absurd h' hn.2.1
/-- the first one goes, found among the last ones -/
theorem lst_found {mp : Bool} {x : It} {M : List It} (hn : (0 :: ids (x :: M)).Nodup) {r : Int} (h : lst mp (x :: M) r = x.1) (i : Int) : lst mp M i = if i = r then 0 else lst mp (x :: M) i := by
  rw [lst_tail hn i]
  by_cases c : i = r
  · subst c; rw [if_pos h, if_pos rfl]
  · rw [if_neg c, if_neg fun e => c ((lst_where hn e).trans (lst_where hn h).symm)]
/-- .. and not found among them -/
theorem lst_lost {mp : Bool} {x : It} {M : List It} (hn : (0 :: ids (x :: M)).Nodup) {i : Int} (h : lst mp (x :: M) i ≠ x.1) : lst mp M i = lst mp (x :: M) i := by
  rw [lst_tail hn i, if_neg h]

/-- who stands ahead of the place, who behind -/
theorem parts {mp : Bool} {m : Int} {M : List It} (h : Gm mp m M) {pri e : Int} (he : e = if mp = true then pri else 1) :
    (∀ x, x ∈ M.take (plc mp M pri) → 1 ≤ ef mp x ∧ ef mp x ≤ e) ∧ ∀ x, x ∈ M.drop (plc mp M pri) → e < ef mp x := by
  subst he
  cases mp with
  | true =>
    refine ⟨fun x hx => ?_, fun x hx => ?_⟩
    · have h1 := h.rng rfl x (List.mem_of_mem_take hx)
      have h2 := take_mem_before rfl hx
      exact ⟨h1.1, h2⟩
    · exact drop_mem_behind (h.ord rfl) rfl hx
  | false =>
    refine ⟨fun x _ => ⟨by simp [ef], by simp [ef]⟩, fun x hx => ?_⟩
    unfold plc at hx
    simp at hx
/-- the message behind which a new one goes: sought from its priority down among the last ones -/
theorem before_ok {mp : Bool} {m : Int} {M : List It} (h : Gm mp m M) {pri e p : Int} (he : e = if mp = true then pri else 1) (hp : p ≤ e) (h0 : p = 0 ∨ lst mp M p ≠ 0) (hz : ∀ j, p < j → j ≤ e → lst mp M j = 0) (x : Int) :
    ∃ A C : List Int, 0 :: ids M = A ++ lst mp M p :: C ∧ 0 :: ids (ins M (plc mp M pri) (x, pri)) = A ++ lst mp M p :: x :: C := by
  obtain ⟨h1, h2⟩ := parts h he
  have hc : ∀ j, j ≤ e → lst mp M j = lst mp (M.take (plc mp M pri)) j := fun j hj => by
    have e1 : lst mp M j = lst mp (M.take (plc mp M pri) ++ M.drop (plc mp M pri)) j := by rw [List.take_append_drop]
    rw [e1, lst_append, if_pos (lst_none fun y hy => by have := h2 y hy; omega)]
  have hnz : ∀ y, y ∈ M → y.1 ≠ 0 := fun y hy e0 => (List.nodup_cons.1 h.nd).1 (mem_ids.2 ⟨y, hy, e0⟩)
  rw [ids_ins, ids_cut M (plc mp M pri)]
  have ht : mp = true → (M.take (plc mp M pri)).Pairwise (fun x y => x.2 ≤ y.2) := fun e0 => (h.ord e0).sublist (List.take_sublist _ _)
  have hm : ∀ y, y ∈ M.take (plc mp M pri) → y ∈ M := fun y hy => List.mem_of_mem_take hy
  rw [hc p hp]
  generalize M.take (plc mp M pri) = T at *
  generalize M.drop (plc mp M pri) = D at *
  rcases List.eq_nil_or_concat T with rfl | ⟨T', y, rfl⟩
  · have : lst mp ([] : List It) p = 0 := rfl
    rw [this]
    exact ⟨[], ids D, rfl, rfl⟩
  · have e1 : ∀ j, lst mp (T' ++ [y]) j = if lst mp [y] j = 0 then lst mp T' j else lst mp [y] j := fun j => lst_append mp [y] j T'
    have hy : lst mp (T' ++ [y]) (ef mp y) = y.1 := by
      rw [e1]
      have : lst mp [y] (ef mp y) = y.1 := by simp [lst]
      rw [this, if_neg (hnz y (hm y (by simp)))]
    have hle : ∀ z, z ∈ T' ++ [y] → ef mp z ≤ ef mp y := fun z hz => by
      by_cases c : mp = true
      · have := ht c
        rw [List.concat_eq_append] at *
        rcases List.mem_append.1 hz with hz | hz
        · have := (List.pairwise_append.1 this).2.2 z hz y (by simp)
          simp only [ef, c, if_true]; exact this
        · simp at hz; rw [hz]; exact Int.le_refl _
      · simp [ef, c]
    have hpy : p = ef mp y := by
      have b1 := h1 y (by simp)
      rcases Int.lt_trichotomy p (ef mp y) with g | g | g
      · have := hz (ef mp y) g b1.2
        rw [hc _ b1.2, List.concat_eq_append, hy] at this
        exact absurd this (hnz y (hm y (by simp)))
      · exact g
      · exfalso
        rcases h0 with h0 | h0
        · omega
        · refine h0 ?_
          rw [hc p hp]
          exact lst_none fun z hz e2 => by have := hle z (by simpa using hz); omega
    rw [hpy, List.concat_eq_append, hy]
    refine ⟨0 :: ids T', ids D, ?_, ?_⟩
    · simp [ids]
    · simp [ids]
theorem lst_put {mp : Bool} {m : Int} {M : List It} (h : Gm mp m M) {pri e x : Int} (he : e = if mp = true then pri else 1) (hx : x ≠ 0) (i : Int) : lst mp (ins M (plc mp M pri) (x, pri)) i = if i = e then x else lst mp M i := by
  obtain ⟨h1, h2⟩ := parts h he
  have e1 : lst mp M i = lst mp (M.take (plc mp M pri) ++ M.drop (plc mp M pri)) i := by rw [List.take_append_drop]
  have ee : ef mp (x, pri) = e := by rw [he]; rfl
  unfold ins
  rw [e1, lst_append, lst_append, lst, ee]
  by_cases c : i = e
  · subst c
    have : lst mp (M.drop (plc mp M pri)) i = 0 := lst_none fun y hy => by have := h2 y hy; omega
    simp [this, hx]
  · rw [if_neg c, if_neg (Ne.symm c)]
    by_cases d : lst mp (M.drop (plc mp M pri)) i = 0
    · simp [d]
    · simp [d]
theorem lst_zero {mp : Bool} {m : Int} {M : List It} (h : Gm mp m M) : lst mp M 0 = 0 := lst_none fun x hx => by
  cases mp with
  | true => have := h.rng rfl x hx; simp only [ef, if_true]; omega
  | false => simp [ef]
end Go.Proofs.Ytapogohekfeiiaa
