/-
  detentlaw14.BoxPlays: the program's mailbox and the document's side by side, with the call's own struct; what each call makes of them.
-/
import Derived.Test.YtapogohekfeiiaaPlO
import Derived.Deep.RegionHeld3
namespace Go.Proofs.Ytapogohekfeiiaa.boxPlays
open Go.RowKit
set_option linter.unusedVariables false
set_option maxRecDepth 100000

/-- the call's struct, as the law holds it -/
def Cl (w : World) (a : Nat) (x0 x1 x2 x3 : Int) : Prop := w.heap[a]? = some (.cells #[.int .i64 x0, .int .i64 x1, .int .i64 x2, .int .i64 x3] 32 (0, 0))
theorem Cl.lt {w : World} {a : Nat} {x0 x1 x2 x3 : Int} (h : Cl w a x0 x1 x2 x3) : a < w.heap.size := lt_of_heap h

/-- what is of other types stays under the program's turns, and under the document's -/
theorem keepP {w w' : World} {s q n c : Nat} {S : St} (h : Bx w s q n c S) (k : On3 s q n w w') {g : Nat} {cs : Array Value} {e : TypeId} {fr : Nat × Nat} (hg : w.heap[g]? = some (.cells cs e fr)) (h1 : e ≠ 48) (h2 : e ≠ 55) : w'.heap[g]? = w.heap[g]? :=
  k.block g (lt_of_heap hg) (by rintro rfl; exact h.k.type h1 _ _ hg) (by rintro rfl; exact h.l.type h2 _ _ hg) (h.p.ne hg)
theorem keepD {w w' : World} {m r : Nat} {S : St} (h : Rb w m r S) (k : On2 m r w w') {g : Nat} {cs : Array Value} {e : TypeId} {fr : Nat × Nat} (hg : w.heap[g]? = some (.cells cs e fr)) (h1 : e ≠ 59) (h2 : e ≠ 77) : w'.heap[g]? = w.heap[g]? :=
  k.block g (lt_of_heap hg) (by rintro rfl; exact h.type h1 _ _ hg) (by rintro rfl; exact h.q.type h2 _ _ hg)
theorem rb_keep {w w' : World} {s q n c m r : Nat} {S T : St} (f : Rb w m r T) (h : Bx w s q n c S) (k : On3 s q n w w') : Rb w' m r T :=
  f.keepB fun g cs e hg he => by rcases he with rfl | rfl | rfl | rfl <;> exact keepP h k hg (by decide) (by decide)
theorem bx_keep {w w' : World} {s q n c m r : Nat} {S T : St} (h : Bx w s q n c S) (f : Rb w m r T) (k : On2 m r w w') : Bx w' s q n c S := by
  have hk := h.k
  have hl := h.l
  have hp := h.p
  obtain ⟨cs, h1, _⟩ := id hk
  obtain ⟨g, ⟨ds, h2, _⟩, _⟩ := id hl
  obtain ⟨hh, h3, _⟩ := id hp
  obtain ⟨es, cl, h4⟩ := h3.heap
  refine ⟨hk.keep (keepD f k h1 (by decide) (by decide)), hl.keep (keepD f k h2 (by decide) (by decide)), hp.keep (k.block n hp.lt ?_ ?_)⟩
  · rintro rfl
    obtain ⟨X, c, h5, _⟩ := f
    rw [h4] at h5; cases h5
  · rintro rfl
    obtain ⟨X, c, h5, _⟩ := f.q
    rw [h4] at h5; cases h5

/-- both, and the call's struct -/
structure Pl (w : World) (a : Nat) (x0 x1 x2 x3 : Int) (s q n c : Nat) (S : St) (m r : Nat) (T : St) (W : World) : Prop where
  at_ : At w s q n c S W
  rb : Rb W m r T
  cl : Cl W a x0 x1 x2 x3
  bm : w.heap.size ≤ m
  br : w.heap.size ≤ r

section
variable {w W W' : World} {a s q n c d m r : Nat} {x0 x1 x2 x3 : Int} {S S' T T' : St}

theorem Pl.below (h : Pl w a x0 x1 x2 x3 s q n c S m r T W) (k : Below W.heap.size W W') : Pl w a x0 x1 x2 x3 s q n c S m r T W' :=
  ⟨h.at_.below k, h.rb.below k, (k.block a h.cl.lt).trans h.cl, h.bm, h.br⟩
theorem Pl.drew (h : Pl w a x0 x1 x2 x3 s q n c S m r T W) : Pl w a x0 x1 x2 x3 s q n c S m r T W.drew := h.below (below_drewN W 1)
theorem Pl.mono (h : Pl w a x0 x1 x2 x3 s q n c S m r T W) (k : c ≤ d) : Pl w a x0 x1 x2 x3 s q n d S m r T W := ⟨h.at_.mono k, h.rb, h.cl, h.bm, h.br⟩
theorem Pl.turnP (h : Pl w a x0 x1 x2 x3 s q n c S m r T W) (x : Bx W' s q n d S') (f : Fine S') (k : On3 s q n W W') : Pl w a x0 x1 x2 x3 s q n d S' m r T W' :=
  ⟨h.at_.go x f k, rb_keep h.rb h.at_.x k, (keepP h.at_.x k h.cl (by decide) (by decide)).trans h.cl, h.bm, h.br⟩
theorem Pl.turnD (h : Pl w a x0 x1 x2 x3 s q n c S m r T W) (f : Rb W' m r T') (k : On2 m r W W') : Pl w a x0 x1 x2 x3 s q n c S m r T' W' :=
  ⟨⟨h.at_.gs, h.at_.gq, h.at_.gn, bx_keep h.at_.x h.rb k, h.at_.f, h.at_.b.trans (k.below h.at_.b.size h.bm h.br)⟩, f, (keepD h.rb k h.cl (by decide) (by decide)).trans h.cl, h.bm, h.br⟩
theorem Pl.k1 (h : Pl w a x0 x1 x2 x3 s q n c S m r T W) : W.cell? ⟨a, 1, none⟩ = some (.int .i64 x1) := by rw [cell_of_row _ _ _ _ _ _ h.cl]; rfl
theorem Pl.k2 (h : Pl w a x0 x1 x2 x3 s q n c S m r T W) : W.cell? ⟨a, 2, none⟩ = some (.int .i64 x2) := by rw [cell_of_row _ _ _ _ _ _ h.cl]; rfl
theorem Pl.k3 (h : Pl w a x0 x1 x2 x3 s q n c S m r T W) : W.cell? ⟨a, 3, none⟩ = some (.int .i64 x3) := by rw [cell_of_row _ _ _ _ _ _ h.cl]; rfl
theorem Pl.p0 (h : Pl w a x0 x1 x2 x3 s q n c S m r T W) : W.cell? ⟨s, 0, none⟩ = some (.pointer (some ⟨q, 0, none⟩)) := h.at_.c0
theorem Pl.d0 (h : Pl w a x0 x1 x2 x3 s q n c S m r T W) : W.cell? ⟨m, 0, none⟩ = some (.pointer (some ⟨r, 0, none⟩)) := by obtain ⟨_, _, h0, _⟩ := h.rb.open; exact h0

theorem send_p {msg pri t k : Int} (h : Pl w a x0 x1 x2 x3 s q n c S m r T W) (hw : In64 msg) (hc : c < 90000) (hs : send S msg pri = (S', t, k)) :
    Calls Try.prog 10 #[.pointer (some ⟨s, 0, none⟩), .int .i64 msg, .int .i64 pri] W fun en W' => en = .returned (.tuple #[.int .i64 t, .int .i64 k]) ∧ Pl w a x0 x1 x2 x3 s q n (c + 2) S' m r T W' := by
  refine (send_any s q n c S S' msg pri t k W h.at_.x h.at_.f hw hc hs).mono ?_
  rintro en w2 ⟨rfl, hx, hk⟩
  exact ⟨rfl, h.turnP hx (h.at_.f.send hw hs) hk⟩
theorem send_d {msg pri t k : Int} (h : Pl w a x0 x1 x2 x3 s q n c S m r T W) (hf : Fine T) (hn : T.M.length ≤ 1000) (hs : send T msg pri = (T', t, k)) :
    Calls Try.prog 11 #[.pointer (some ⟨m, 0, none⟩), .int .i64 msg, .int .i64 pri] W fun en W' => en = .returned (.tuple #[.int .i64 t, .int .i64 k]) ∧ Pl w a x0 x1 x2 x3 s q n c S m r T' W' := by
  refine (rsend_any m r T T' msg pri t k W h.rb hf hn hs).mono ?_
  rintro en w2 ⟨rfl, hr, hk⟩
  exact ⟨rfl, h.turnD hr hk⟩
theorem recv_p {id pri v k : Int} {o : Bool} (h : Pl w a x0 x1 x2 x3 s q n c S m r T W) (hc : c < 90000) (hs : recv S id pri = (S', v, o, k)) :
    Calls Try.prog 12 #[.pointer (some ⟨s, 0, none⟩), .int .i64 id, .int .i64 pri] W fun en W' => en = .returned (.tuple #[.int .i64 v, .bool o, .int .i64 k]) ∧ Pl w a x0 x1 x2 x3 s q n (c + 1) S' m r T W' := by
  refine (recv_any s q n c S S' id pri v k o W h.at_.x h.at_.f hc hs).mono ?_
  rintro en w2 ⟨rfl, hx, hk⟩
  exact ⟨rfl, h.turnP hx (h.at_.f.recv hs) hk⟩
theorem recv_d {id pri v k : Int} {o : Bool} (h : Pl w a x0 x1 x2 x3 s q n c S m r T W) (hf : Fine T) (hn : T.M.length ≤ 1000) (hs : recv T id pri = (T', v, o, k)) :
    Calls Try.prog 13 #[.pointer (some ⟨m, 0, none⟩), .int .i64 id, .int .i64 pri] W fun en W' => en = .returned (.tuple #[.int .i64 v, .bool o, .int .i64 k]) ∧ Pl w a x0 x1 x2 x3 s q n c S m r T' W' := by
  refine (rrecv_any m r T T' id pri v k o W h.rb hf hn hs).mono ?_
  rintro en w2 ⟨rfl, hr, hk⟩
  exact ⟨rfl, h.turnD hr hk⟩
theorem poll_p {v : Int} {o : Bool} (h : Pl w a x0 x1 x2 x3 s q n c S m r T W) (hc : c < 90000) (hs : poll S = (S', v, o)) :
    Calls Try.prog 14 #[.pointer (some ⟨s, 0, none⟩)] W fun en W' => en = .returned (.tuple #[.int .i64 v, .bool o]) ∧ Pl w a x0 x1 x2 x3 s q n (c + 1) S' m r T W' := by
  refine (poll_any s q n c S S' v o W h.at_.x h.at_.f hc hs).mono ?_
  rintro en w2 ⟨rfl, hx, hk⟩
  exact ⟨rfl, h.turnP hx (h.at_.f.poll hs) hk⟩
theorem poll_d {v : Int} {o : Bool} (h : Pl w a x0 x1 x2 x3 s q n c S m r T W) (hn : T.M.length ≤ 1000) (hs : poll T = (T', v, o)) :
    Calls Try.prog 15 #[.pointer (some ⟨m, 0, none⟩)] W fun en W' => en = .returned (.tuple #[.int .i64 v, .bool o]) ∧ Pl w a x0 x1 x2 x3 s q n c S m r T' W' := by
  refine (rpoll_any m r T T' v o W h.rb hn hs).mono ?_
  rintro en w2 ⟨rfl, hr, hk⟩
  exact ⟨rfl, h.turnD hr (.at_m hk)⟩
theorem rem_p {id : Int} {k : Bool} (h : Pl w a x0 x1 x2 x3 s q n c S m r T W) (hk : decide (pos S.L id < S.L.length) = k) :
    Calls Try.prog 16 #[.pointer (some ⟨q, 0, none⟩), .int .i64 id] W fun en W' => en = .returned (.bool k) ∧ Pl w a x0 x1 x2 x3 s q n c (rem S id) m r T W' := by
  subst hk
  refine (remove_any q 55 S.b S.L W h.at_.x.l h.at_.f.q.len id).mono ?_
  rintro en w2 ⟨rfl, hl, ho⟩
  exact ⟨rfl, h.turnP (h.at_.x.turn ho hl) (h.at_.f.rem id) (.at_q ho)⟩
theorem rem_d {id : Int} {k : Bool} (h : Pl w a x0 x1 x2 x3 s q n c S m r T W) (hf : Fine T) (hk : decide (pos T.L id < T.L.length) = k) :
    Calls Try.prog 17 #[.pointer (some ⟨r, 0, none⟩), .int .i64 id] W fun en W' => en = .returned (.bool k) ∧ Pl w a x0 x1 x2 x3 s q n c S m r (rem T id) W' := by
  subst hk
  refine (rremove_any r T.b T.L W h.rb.q hf.q.len id).mono ?_
  rintro en w2 ⟨rfl, hl, ho⟩
  exact ⟨rfl, h.turnD (h.rb.turn ho hl) (.at_r ho)⟩
theorem chg_p {id pri : Int} {k : Bool} (h : Pl w a x0 x1 x2 x3 s q n c S m r T W) (hk : chgOk S.L id pri = k) :
    Calls Try.prog 18 #[.pointer (some ⟨q, 0, none⟩), .int .i64 id, .int .i64 pri] W fun en W' => en = .returned (.bool k) ∧ Pl w a x0 x1 x2 x3 s q n c (chg S id pri) m r T W' := by
  subst hk
  refine (change_any q S.b S.L W h.at_.x.l h.at_.f.q id pri).mono ?_
  rintro en w2 ⟨rfl, hl, ho⟩
  exact ⟨rfl, h.turnP (h.at_.x.turn ho hl) (h.at_.f.chg id pri) (.at_q ho)⟩
theorem chg_d {id pri : Int} {k : Bool} (h : Pl w a x0 x1 x2 x3 s q n c S m r T W) (hf : Fine T) (hk : chgOk T.L id pri = k) :
    Calls Try.prog 19 #[.pointer (some ⟨r, 0, none⟩), .int .i64 id, .int .i64 pri] W fun en W' => en = .returned (.bool k) ∧ Pl w a x0 x1 x2 x3 s q n c S m r (chg T id pri) W' := by
  subst hk
  refine (rchange_any r T.b T.L W h.rb.q hf.q id pri).mono ?_
  rintro en w2 ⟨rfl, hl, ho⟩
  exact ⟨rfl, h.turnD (h.rb.turn ho hl) (.at_r ho)⟩

/-- one apart; the elder one is there still -/
theorem apart_p (h : Pl w a x0 x1 x2 x3 s q n c S m r T W) :
    Calls Try.prog 20 #[.pointer (some ⟨s, 0, none⟩)] W fun e W' => ∃ s' q' n' : Nat, e = .returned (.pointer (some ⟨s', 0, none⟩)) ∧ Pl w a x0 x1 x2 x3 s' q' n' c S m r T W' ∧ At w s q n c S W' ∧ (s < s' ∧ q < s' ∧ n < s') ∧ (s < q' ∧ q < q' ∧ n < q') ∧ s < n' ∧ q < n' ∧ n < n' := by
  have l1 := h.at_.x.k.lt
  have l2 := h.at_.x.l.lt
  have l3 := h.at_.x.p.lt
  refine (apart_any s q n c S W h.at_.x).mono ?_
  rintro e w2 ⟨_, rfl, s', q', n', rfl, b1, b2, b3, hx, hb⟩
  have k := h.below hb
  have hz := h.at_.b.size
  exact ⟨s', q', n', rfl, ⟨⟨by omega, by omega, by omega, hx, h.at_.f, k.at_.b⟩, k.rb, k.cl, k.bm, k.br⟩, k.at_, ⟨by omega, by omega, by omega⟩, ⟨by omega, by omega, by omega⟩, by omega, by omega, by omega⟩
/-- the elder one turns -/
theorem Pl.elder {s' q' n' d' : Nat} {U : St} (h : Pl w a x0 x1 x2 x3 s q n c S m r T W) (g : At w s' q' n' d' U W) (b1 : s' < s ∧ q' < s ∧ n' < s) (b2 : s' < q ∧ q' < q ∧ n' < q) (b3 : s' < n ∧ q' < n ∧ n' < n) (k : On3 s' q' n' W W') :
    Pl w a x0 x1 x2 x3 s q n c S m r T W' :=
  ⟨⟨h.at_.gs, h.at_.gq, h.at_.gn, ⟨h.at_.x.k.keep (k.block s h.at_.x.k.lt (by omega) (by omega) (by omega)), h.at_.x.l.keep (k.block q h.at_.x.l.lt (by omega) (by omega) (by omega)), h.at_.x.p.keep (k.block n h.at_.x.p.lt (by omega) (by omega) (by omega))⟩, h.at_.f,
     h.at_.b.trans (k.below h.at_.b.size g.gs g.gq g.gn)⟩, rb_keep h.rb g.x k, (keepP g.x k h.cl (by decide) (by decide)).trans h.cl, h.bm, h.br⟩
end

/-! ### the law's Same of two rows of numbers -/
/-- numbers that are read -/
def Nr (w : World) (v : Value) (L : List Int) : Prop :=
  ∃ (X : Option Addr) (k : Nat), v = .slice X L.length k ∧ L.length ≤ 9223372036854775807 ∧ (0 < L.length → ∃ g o : Nat, X = some ⟨g, o, none⟩ ∧ g < w.heap.size ∧ ∀ (j : Nat) (x : Int), L[j]? = some x → w.cell? ⟨g, o + j, none⟩ = some (.int .i64 x))
theorem Nr.below {w w' : World} {v : Value} {L : List Int} (h : Nr w v L) (k : Below w.heap.size w w') : Nr w' v L := by
  obtain ⟨X, c, h1, h2, h3⟩ := h
  exact ⟨X, c, h1, h2, fun h0 => by
    obtain ⟨g, o, h4, h5, h6⟩ := h3 h0
    exact ⟨g, o, h4, Nat.lt_of_lt_of_le h5 k.size, fun j x hx => (k.cell (p := ⟨g, o + j, none⟩) h5).trans (h6 j x hx)⟩⟩
theorem vals_ci (L : List Int) : K.vals K.ci L = L.map (fun x => Value.int .i64 x) := by
  induction L with
  | nil => rfl
  | cons x L ih =>
    unfold K.vals at ih ⊢
    rw [List.flatMap_cons, ih]; rfl
theorem Nr.of_own {w : World} {B : Nat} {v : Value} {L : List Int} (h : Ow w B v L) : Nr w v L := by
  obtain ⟨X, k, rfl, h1, h2⟩ := K.own_form h
  refine ⟨X, k, rfl, by omega, fun h0 => ?_⟩
  rcases K.own_src rfl h with ⟨_, e, _⟩ | ⟨b, o, e, hb, hc⟩
  · rw [e] at h0; simp at h0
  · exact ⟨b, o, e, hb, fun j x hx => hc j _ (by rw [vals_ci, List.getElem?_map, hx]; rfl)⟩
theorem below_dn {a w : World} (h : Below a.heap.size a w) (n : Nat) : Below a.heap.size a (w.drewN n) := below_trans h (below_drewN w n)

set_option maxHeartbeats 1600000 in
theorem same_true (va vb : Value) (L : List Int) (w : World) (ha : Nr w va L) (hb : Nr w vb L) :
    Calls Try.prog 21 #[va, vb] w fun e w' => e = .returned (.bool true) ∧ Below w.heap.size w w' := by
  obtain ⟨XA, ka, rfl, la, fa⟩ := ha
  obtain ⟨XB, kb, rfl, lb, fb⟩ := hb
  obtain ⟨n, hn⟩ : ∃ n, L.length = n := ⟨_, rfl⟩
  rw [hn] at la lb fa fb ⊢
  have HN := Lib.hid hn
  have FA := Lib.hid fa
  have FB := Lib.hid fb
  have t1 : ((n : Int) != (n : Int)) = false := by simp
  clear hn fa fb
  go_enter Try.func21, Try.ntmps21
  go_wp2
  go_loopw [5] (fun i wr => ∃ t : Nat, t ≤ n ∧ i = .int .i64 (t : Int) ∧ Below w.heap.size w wr) (fun i _ => n - (intOf i).toNat)
  case atStart => exact ⟨0, Nat.zero_le _, rfl, Below.refl _ _⟩
  case round =>
    obtain ⟨t, ht, rfl, hb⟩ := hrel
    have HB := Lib.hid hb
    by_cases hlt : t < n
    · have hlt' : (t : Int) < (n : Int) := by omega
      obtain ⟨x, hx⟩ : ∃ x, L[t]? = some x := ⟨_, List.getElem?_eq_getElem (by rw [HN.out]; exact hlt)⟩
      obtain ⟨g1, o1, rfl, hg1, hc1⟩ := FA.out (by omega)
      obtain ⟨g2, o2, rfl, hg2, hc2⟩ := FB.out (by omega)
      have d1 := (hb.cell (p := ⟨g1, o1 + t, none⟩) hg1).trans (hc1 t x hx)
      have d2 := (hb.cell (p := ⟨g2, o2 + t, none⟩) hg2).trans (hc2 t x hx)
      clear hb hx hc1 hc2
      have t2 : (x != x) = false := by simp
      go_wp2
      go_quiet (fail)
      go_wp2
      exact ⟨⟨t + 1, by omega, by go_num, below_dn HB.out _⟩, by simp [intOf]; omega⟩
    · clear hb
      go_wp2
      go_ret
      exact ⟨rfl, HB.out⟩
end Go.Proofs.Ytapogohekfeiiaa.boxPlays
