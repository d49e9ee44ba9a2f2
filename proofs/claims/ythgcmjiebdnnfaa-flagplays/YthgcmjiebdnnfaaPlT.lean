/-
  detentlaw12.FlagPlays: the program's eventflag and the document's side by side, with the call's own struct; what each call makes of them.
-/
import Derived.Test.YthgcmjiebdnnfaaPlO
import Derived.Deep.RegionHeld3
namespace Go.Proofs.Ythgcmjiebdnnfaa.flagPlays
open Go.RowKit
set_option linter.unusedVariables false
set_option maxRecDepth 100000

/-! ## each side leaves the other alone -/
theorem sq_rs {w : World} {s q s' p' : Nat} {S S' : St} (h : Rs w s q S) (g : Sq w s' p' S') : s ≠ s' ∧ s ≠ p' ∧ q ≠ s' ∧ q ≠ p' := by
  obtain ⟨f, ⟨_, cs, hh, _⟩, _, X, c, hq, _⟩ := h
  obtain ⟨f2, g1, _, g3⟩ := g
  refine ⟨?_, ?_, ?_, ?_⟩
  · rintro rfl; exact g1.type (e := 50) (by decide) _ _ hh
  · rintro rfl; exact g3.type (e := 50) (by decide) _ _ hh
  · rintro rfl; exact g1.type (e := 79) (by decide) _ _ hq
  · rintro rfl; exact g3.type (e := 79) (by decide) _ _ hq
theorem rs_keep {w w' : World} {s q s' p' : Nat} {S S' : St} (h : Rs w s q S) (g : Sq w s' p' S') (k : On2 s' p' w w') : Rs w' s q S := by
  obtain ⟨d1, d2, d3, d4⟩ := sq_rs h g
  obtain ⟨f2, g1, _, g3⟩ := g
  obtain ⟨f, h1, h2, X, c, h3, h4, h5⟩ := h
  refine ⟨f, h1.keep (k.block s h1.lt d1 d2), h2, X, c, (k.block q (lt_of_heap h3) d3 d4).trans h3, h4.keep fun b cs hb => k.block b (lt_of_heap hb) ?_ ?_, h5⟩
  · rintro rfl; exact g1.type (e := 96) (by decide) _ _ hb
  · rintro rfl; exact g3.type (e := 96) (by decide) _ _ hb
theorem sq_keep {w w' : World} {s q s' p' : Nat} {S S' : St} (g : Sq w s' p' S') (h : Rs w s q S) (k : On2 s q w w') : Sq w' s' p' S' := by
  obtain ⟨d1, d2, d3, d4⟩ := sq_rs h g
  obtain ⟨f, g1, g2, g3⟩ := g
  exact ⟨f, g1.keep (k.block s' g1.lt (Ne.symm d1) (Ne.symm d3)), g2, g3.keep (k.block p' g3.lt (Ne.symm d2) (Ne.symm d4))⟩
theorem wk_onr {w w' : World} {X : Option Addr} {n s q : Nat} {o : List (Int × Int)} {S : St} (h : Wk w 74 X n o) (g : Rs w s q S) (k : On2 s q w w') : Wk w' 74 X n o := by
  obtain ⟨f, q1, _, q3⟩ := g
  refine h.keep fun g cs hg => k.block g (lt_of_heap hg) ?_ ?_
  · rintro rfl; exact q1.type (e := 74) (by decide) _ _ hg
  · rintro rfl; exact q3.type (e := 74) (by decide) _ _ hg

/-- who was woken is the same -/
theorem dd' (w : World) (d e : Nat) : (w.drewN d).drewN e = w.drewN (d + e) := by simp [World.drewN, Nat.add_assoc]
set_option maxHeartbeats 1600000 in
theorem woken_same (X Y : Option Addr) (n k j : Nat) (o : List (Int × Int)) (w : World) (ha : Wk w 74 X n o) (hb : Wk w 85 Y n o) (hn : n ≤ 16) :
    Calls Try.prog 16 #[.slice X n k, .slice Y n j] w fun e w' => e = .returned (.bool true) ∧ ∃ d, w' = w.drewN d := by
  have HA := Lib.hid ha
  have HB := Lib.hid hb
  have hni : (n : Int) ≤ 16 := by omega
  clear ha hb
  go_enter Try.func16, Try.ntmps16
  go_wp2
  go_loopw [5] (fun i wr => ∃ t d : Nat, t ≤ n ∧ i = .int .i64 (t : Int) ∧ wr = w.drewN d) (fun i _ => n - (intOf i).toNat)
  case atStart => exact ⟨0, 0, Nat.zero_le _, rfl, rfl⟩
  case round =>
    obtain ⟨t, d, ht, rfl, hW⟩ := hrel
    have HW : Hid (∃ d, wr = w.drewN d) := ⟨d, hW⟩
    by_cases hlt : t < n
    · obtain ⟨x, hx⟩ : ∃ x, o[t]? = some x := ⟨_, List.getElem?_eq_getElem (by rw [HA.out.1]; exact hlt)⟩
      obtain ⟨g, rfl, hc⟩ := HA.out.open (by omega)
      obtain ⟨g', rfl, hc'⟩ := HB.out.open (by omega)
      have a0 : wr.cell? ⟨g, t * 2, none⟩ = some (.int .i64 x.1) := by rw [hW]; exact (hc t x hx).1
      have a1 : wr.cell? ⟨g, t * 2 + 1, none⟩ = some (.int .u32 x.2) := by rw [hW]; exact (hc t x hx).2
      have b0 : wr.cell? ⟨g', t * 2, none⟩ = some (.int .i64 x.1) := by rw [hW]; exact (hc' t x hx).1
      have b1 : wr.cell? ⟨g', t * 2 + 1, none⟩ = some (.int .u32 x.2) := by rw [hW]; exact (hc' t x hx).2
      have it : (t : Int) < (n : Int) := by omega
      clear hc hc' hx hW
      go_wp2
      go_quiet (fail)
      go_wp2
      go_roundw
      case rel => obtain ⟨d9, e9⟩ := HW.out; exact ⟨t + 1, d9 + nq, by omega, by go_num, by rw [e9, dd']⟩
      case measure => simp [intOf]; omega
    · clear hW
      go_wp2
      go_ret
      exact ⟨rfl, HW.out⟩

/-- the call's struct, as the law holds it -/
def Cl (w : World) (a : Nat) (c : Ac) : Prop := w.heap[a]? = some (.cells c.cs.toArray 31 (0, 0))
theorem Cl.lt {w : World} {a : Nat} {c : Ac} (h : Cl w a c) : a < w.heap.size := lt_of_heap h
theorem Cl.off {w : World} {a : Nat} {c : Ac} (h : Cl w a c) {g : Nat} {cs : Array Value} {T : TypeId} {fr : Nat × Nat} (hg : w.heap[g]? = some (.cells cs T fr)) (hT : T ≠ 31) : a ≠ g := by
  rintro rfl; unfold Cl at h; rw [h] at hg; injection hg with hg; injection hg with _ h3; exact hT h3.symm
theorem Cl.p {w w' : World} {a s p : Nat} {c : Ac} {S : St} (h : Cl w a c) (g : Sq w s p S) (k : On2 s p w w') : Cl w' a c := by
  obtain ⟨f, ⟨_, cs1, h1, _⟩, _, ⟨f3, ⟨cs, hh, _⟩, _⟩⟩ := g
  exact (k.block a h.lt (h.off h1 (by decide)) (h.off hh (by decide))).trans h
theorem Cl.d {w w' : World} {a s q : Nat} {c : Ac} {S : St} (h : Cl w a c) (g : Rs w s q S) (k : On2 s q w w') : Cl w' a c := by
  obtain ⟨f, ⟨_, cs1, h1, _⟩, _, X, c3, hh, _⟩ := g
  exact (k.block a h.lt (h.off h1 (by decide)) (h.off hh (by decide))).trans h

/-- both, and the call's struct -/
structure Pl (w : World) (a : Nat) (c : Ac) (s p : Nat) (S : St) (u q : Nat) (R : St) (W : World) : Prop where
  at_ : At w s p S W
  rs : Rs W u q R
  cl : Cl W a c
  bu : w.heap.size ≤ u
  bq : w.heap.size ≤ q

section
variable {w W W' : World} {a s p u q : Nat} {c : Ac} {S R : St}

theorem Pl.below (h : Pl w a c s p S u q R W) (k : Below W.heap.size W W') : Pl w a c s p S u q R W' :=
  ⟨h.at_.below k, h.rs.below k, (k.block a h.cl.lt).trans h.cl, h.bu, h.bq⟩
theorem Pl.drew (h : Pl w a c s p S u q R W) : Pl w a c s p S u q R W.drew := h.below (Below.refl _ _).drew
theorem Pl.drewN (h : Pl w a c s p S u q R W) (n : Nat) : Pl w a c s p S u q R (W.drewN n) := h.below ⟨rfl, rfl, rfl, Nat.le_refl _, fun _ _ => rfl⟩
theorem Pl.alloc (h : Pl w a c s p S u q R W) (o : Obj) : Pl w a c s p S u q R (W.alloc o) := h.below ((Below.refl _ _).alloc (Nat.le_refl _) o)
theorem Pl.turnP (h : Pl w a c s p S u q R W) {S' : St} (g : Sq W' s p S') (k : On2 s p W W') : Pl w a c s p S' u q R W' :=
  ⟨⟨h.at_.1, h.at_.2.1, g, h.at_.b.trans (k.below h.at_.b.size h.at_.1 h.at_.2.1)⟩, rs_keep h.rs h.at_.sq k, h.cl.p h.at_.sq k, h.bu, h.bq⟩
theorem Pl.turnD (h : Pl w a c s p S u q R W) {R' : St} (g : Rs W' u q R') (k : On2 u q W W') : Pl w a c s p S u q R' W' :=
  ⟨⟨h.at_.1, h.at_.2.1, sq_keep h.at_.sq h.rs k, h.at_.b.trans (k.below h.at_.b.size h.bu h.bq)⟩, g, h.cl.d h.rs k, h.bu, h.bq⟩
theorem Pl.k1 (h : Pl w a c s p S u q R W) : W.cell? ⟨a, 1, none⟩ = some (.int .i64 c.id) := by rw [cell_of_row _ _ _ _ _ _ h.cl]; rfl
theorem Pl.k2 (h : Pl w a c s p S u q R W) : W.cell? ⟨a, 2, none⟩ = some (.int .i64 c.pri) := by rw [cell_of_row _ _ _ _ _ _ h.cl]; rfl
theorem Pl.k3 (h : Pl w a c s p S u q R W) : W.cell? ⟨a, 3, none⟩ = some (.int .u32 c.w) := by rw [cell_of_row _ _ _ _ _ _ h.cl]; rfl
theorem Pl.k4 (h : Pl w a c s p S u q R W) : W.cell? ⟨a, 4, none⟩ = some (.int .i64 c.md) := by rw [cell_of_row _ _ _ _ _ _ h.cl]; rfl
theorem Pl.k5 (h : Pl w a c s p S u q R W) : W.cell? ⟨a, 5, none⟩ = some (.slice c.A c.n c.k) := by rw [cell_of_row _ _ _ _ _ _ h.cl]; rfl
theorem Pl.p0 (h : Pl w a c s p S u q R W) : W.cell? ⟨s, 0, none⟩ = some (.pointer (some ⟨p, 0, none⟩)) := h.at_.c0
theorem Pl.p1 (h : Pl w a c s p S u q R W) : W.cell? ⟨s, 1, none⟩ = some (.int .u32 S.x) := h.at_.c1
theorem Pl.d0 (h : Pl w a c s p S u q R W) : W.cell? ⟨u, 0, none⟩ = some (.pointer (some ⟨q, 0, none⟩)) := h.rs.c0
theorem Pl.dx (h : Pl w a c s p S u q R W) : W.cell? ⟨u, 35, none⟩ = some (.int .u32 R.x) := h.rs.cx

theorem wait_p {S' : St} {id pri x k y : Int} {r : Bool} {e : Int} (h : Pl w a c s p S u q R W) (hf : Fine S) (hs : wait S id pri (x, k) = (S', y, r, e)) :
    Calls Try.prog 12 #[.pointer (some ⟨s, 0, none⟩), .int .i64 id, .int .i64 pri, .int .u32 x, .int .i64 k] W fun en W' => en = .returned (.tuple #[.int .u32 y, .bool r, .int .i64 e]) ∧ Pl w a c s p S' u q R W' := by
  refine (wait_any s p S S' id pri x k y r e W h.at_.sq hf hs).mono ?_
  rintro en w2 ⟨rfl, h2, ho⟩
  exact ⟨rfl, h.turnP h2 ho⟩
theorem wait_d {R' : St} {id pri x k y : Int} {r : Bool} {e : Int} (h : Pl w a c s p S u q R W) (hf : Fine R) (hs : wait R id pri (x, k) = (R', y, r, e)) :
    Calls Try.prog 13 #[.pointer (some ⟨u, 0, none⟩), .int .i64 id, .int .i64 pri, .int .u32 x, .int .i64 k] W fun en W' => en = .returned (.tuple #[.int .u32 y, .bool r, .int .i64 e]) ∧ Pl w a c s p S u q R' W' := by
  refine (rwait_any u q R R' id pri x k y r e W h.rs hf hs).mono ?_
  rintro en w2 ⟨rfl, h2, ho⟩
  exact ⟨rfl, h.turnD h2 ho⟩
theorem poll_p {S' : St} {x k y : Int} {r : Bool} {e : Int} (h : Pl w a c s p S u q R W) (hs : poll S (x, k) = (S', y, r, e)) :
    Calls Try.prog 14 #[.pointer (some ⟨s, 0, none⟩), .int .u32 x, .int .i64 k] W fun en W' => en = .returned (.tuple #[.int .u32 y, .bool r, .int .i64 e]) ∧ Pl w a c s p S' u q R W' := by
  refine (poll_any s p S S' x k y r e W h.at_.sq hs).mono ?_
  rintro en w2 ⟨rfl, h2, ho⟩
  exact ⟨rfl, h.turnP h2 (On2.fst ho)⟩
theorem poll_d {R' : St} {x k y : Int} {r : Bool} {e : Int} (h : Pl w a c s p S u q R W) (hs : poll R (x, k) = (R', y, r, e)) :
    Calls Try.prog 15 #[.pointer (some ⟨u, 0, none⟩), .int .u32 x, .int .i64 k] W fun en W' => en = .returned (.tuple #[.int .u32 y, .bool r, .int .i64 e]) ∧ Pl w a c s p S u q R' W' := by
  refine (rpoll_any u q R R' x k y r e W h.rs hs).mono ?_
  rintro en w2 ⟨rfl, h2, ho⟩
  exact ⟨rfl, h.turnD h2 (On2.fst ho)⟩
theorem lower_p {y : Int} (h : Pl w a c s p S u q R W) :
    Calls Try.prog 19 #[.pointer (some ⟨s, 0, none⟩), .int .u32 y] W fun en W' => en = .returned (.tuple #[]) ∧ Pl w a c s p (low S y) u q R W' := by
  refine (lower_any s p S y W h.at_.sq).mono ?_
  rintro en w2 ⟨rfl, h2, ho⟩
  exact ⟨rfl, h.turnP h2 (On2.fst ho)⟩
theorem Pl.lowd {y : Int} (h : Pl w a c s p S u q R W) (hy : bits .and .u32 R.x c.w = y) : Pl w a c s p S u q (low R c.w) (W.setCell ⟨u, 35, none⟩ (.int .u32 y)) := by
  subst hy
  exact h.turnD (h.rs.setX _) (On2.fst ((Only.refl u W).setCell (q := ⟨u, 35, none⟩) (.inl rfl) _))
theorem drop_p {id : Int} (h : Pl w a c s p S u q R W) (hf : Fine S) {r : Bool} (hr : decide (pos S.L id < S.L.length) = r) :
    Calls Try.prog 20 #[.pointer (some ⟨s, 0, none⟩), .int .i64 id] W fun en W' => en = .returned (.bool r) ∧ Pl w a c s p (drop S id) u q R W' := by
  subst hr
  refine (drop_any s p S id W h.at_.sq hf.q).mono ?_
  rintro en w2 ⟨rfl, h2, ho⟩
  exact ⟨rfl, h.turnP h2 ho⟩
theorem drop_d {id : Int} (h : Pl w a c s p S u q R W) (hf : Fine R) {r : Bool} (hr : decide (pos R.L id < R.L.length) = r) :
    Calls Try.prog 21 #[.pointer (some ⟨q, 0, none⟩), .int .i64 id] W fun en W' => en = .returned (.bool r) ∧ Pl w a c s p S u q (drop R id) W' := by
  subst hr
  obtain ⟨f, h1, h2, h3⟩ := h.rs
  refine (rremove_any q R.b R.L W h3 hf.q.len id).mono ?_
  rintro en w2 ⟨rfl, h4, ho⟩
  exact ⟨rfl, h.turnD ⟨f, h1.only ho h.rs.ne, h2.sub (List.eraseIdx_sublist _ _), h4⟩ (On2.one ho)⟩
theorem agr_chg {f : Nat → Wi} {S : St} (h : Agr f S) (id pri : Int) : Agr f (chg S id pri) := by
  intro y hy
  obtain ⟨z, hz, e⟩ := chgL_mem hy
  show f y.1.toNat = S.W y.1
  rw [← e]; exact h z hz
theorem change_p {id pri : Int} (h : Pl w a c s p S u q R W) (hf : Fine S) {r : Bool} (hr : chgOk S.L id pri = r) :
    Calls Try.prog 22 #[.pointer (some ⟨p, 0, none⟩), .int .i64 id, .int .i64 pri] W fun en W' => en = .returned (.bool r) ∧ Pl w a c s p (chg S id pri) u q R W' := by
  subst hr
  obtain ⟨f, h1, h2, h3⟩ := h.at_.sq
  refine (change_any p S.b S.L W h3 hf.q id pri).mono ?_
  rintro en w2 ⟨rfl, h4, ho⟩
  exact ⟨rfl, h.turnP ⟨f, h1.only ho h.at_.sq.ne, agr_chg h2 id pri, h4⟩ (On2.one ho)⟩
theorem change_d {id pri : Int} (h : Pl w a c s p S u q R W) (hf : Fine R) {r : Bool} (hr : chgOk R.L id pri = r) :
    Calls Try.prog 23 #[.pointer (some ⟨q, 0, none⟩), .int .i64 id, .int .i64 pri] W fun en W' => en = .returned (.bool r) ∧ Pl w a c s p S u q (chg R id pri) W' := by
  subst hr
  obtain ⟨f, h1, h2, h3⟩ := h.rs
  refine (rchange_any q R.b R.L W h3 hf.q id pri).mono ?_
  rintro en w2 ⟨rfl, h4, ho⟩
  exact ⟨rfl, h.turnD ⟨f, h1.only ho h.rs.ne, agr_chg h2 id pri, h4⟩ (On2.one ho)⟩
theorem us_d {A : Option Addr} {n : Nat} {f : Nat → Int} (h : Pl w a c s p S u q R W) (hu : Uf w A n f) : Us W A u (ful f n) := by
  intro h0
  rw [ful_len] at h0
  obtain ⟨b, o, h1, h2, h3⟩ := hu h0
  have hs := h.bu
  refine ⟨b, o, h1, Nat.lt_of_lt_of_le h2 h.at_.b.size, by omega, fun j y hy => ?_⟩
  obtain ⟨hj, e⟩ := List.getElem?_eq_some_iff.1 hy
  rw [ful_len] at hj
  simp [ful] at e
  rw [← e, h.at_.b.cell (p := ⟨b, o + j, none⟩) h2]; exact (h3 j hj).1
theorem raise_p {S' : St} {o : List (Int × Int)} {A : Option Addr} {n k cl : Nat} {f : Nat → Int} (h : Pl w a c s p S u q R W) (hf : Fine S) (hu : Uf w A n f) (hz : n ≤ 9223372036854775807) (hs : raise S (ful f n) = (S', o)) (hc : o.length = cl) :
    Calls Try.prog 17 #[.pointer (some ⟨s, 0, none⟩), .slice A n k] W fun en W' => ∃ X j, en = .returned (.slice X cl j) ∧ Wk W' 74 X cl o ∧ Pl w a c s p S' u q R W' := by
  refine (raise_at h.at_ hf (hu.us2 h.at_) (ful_len _ _) hz hs hc).mono ?_
  rintro en w2 ⟨X, j, rfl, hw, h2, ho⟩
  exact ⟨X, j, rfl, hw, h.turnP h2.sq ho⟩
theorem raise_d {R' : St} {o : List (Int × Int)} {A X0 : Option Addr} {n k cl : Nat} {f : Nat → Int} (h : Pl w a c s p S u q R W) (hf : Fine R) (hu : Uf w A n f) (hz : n ≤ 9223372036854775807) (hs : raise R (ful f n) = (R', o)) (hc : o.length = cl) (hk : Wk W 74 X0 cl o) :
    Calls Try.prog 18 #[.pointer (some ⟨u, 0, none⟩), .slice A n k] W fun en W' => ∃ X j, en = .returned (.slice X cl j) ∧ Wk W' 85 X cl o ∧ Wk W' 74 X0 cl o ∧ Pl w a c s p S u q R' W' := by
  subst hc
  refine (rraise_any u q R R' o A (ful f n) n k W h.rs hf (us_d h hu) (ful_len _ _) hz hs).mono ?_
  rintro en w2 ⟨v, rfl, ho, h2, h3⟩
  obtain ⟨X, j, rfl, hw⟩ := wk_of ho
  exact ⟨X, j, rfl, hw, wk_onr hk h.rs h3, h.turnD h2 h3⟩
/-- one apart; the elder one is there still -/
theorem apart_p (h : Pl w a c s p S u q R W) :
    Calls Try.prog 24 #[.pointer (some ⟨s, 0, none⟩)] W fun e W' => ∃ s' p', e = .returned (.pointer (some ⟨s', 0, none⟩)) ∧ Pl w a c s' p' S u q R W' ∧ Sq W' s p S ∧ s < s' ∧ p < s' ∧ s < p' ∧ p < p' := by
  refine (apart_ok s p S W h.at_.sq).mono ?_
  rintro e w2 ⟨_, rfl, s', p', h1, h2, rfl, h3, h4⟩
  have l1 := h.at_.sq.lts
  have l2 := h.at_.sq.ltp
  have hb := h.at_.b.size
  have k := h.below h4
  exact ⟨s', p', rfl, ⟨⟨by omega, by omega, h3, k.at_.b⟩, k.rs, k.cl, k.bu, k.bq⟩, k.at_.sq, by omega, by omega, by omega, by omega⟩
/-- the elder one is raised -/
theorem raise_old {s' p' : Nat} {T T' : St} {o : List (Int × Int)} {y : Int} {A : Option Addr} {n k cl : Nat} (h : Pl w a c s p S u q R W) (g : Sq W s' p' T) (hf : Fine T) (h1 : s' < s) (h2 : p' < s) (h3 : s' < p) (h4 : p' < p) (b1 : w.heap.size ≤ s') (b2 : w.heap.size ≤ p')
    (hu : Us W A s' [y]) (hn : n = 1) (hs : raise T [y] = (T', o)) (hc : o.length = cl) :
    Calls Try.prog 17 #[.pointer (some ⟨s', 0, none⟩), .slice A n k] W fun e W' => ∃ X j, e = .returned (.slice X cl j) ∧ Pl w a c s p S u q R W' := by
  subst hc hn
  refine (raise_any s' p' T T' o A [y] 1 k W g hf hu rfl (by omega) hs).mono ?_
  rintro e w2 ⟨v, rfl, ho, g2, k2⟩
  obtain ⟨X, j, rfl, _⟩ := wk_of ho
  obtain ⟨f, q1, q2, q3⟩ := h.at_.sq
  refine ⟨X, j, rfl, ⟨h.at_.1, h.at_.2.1, ⟨f, q1.keep (k2.block s q1.lt (by omega) (by omega)), q2, q3.keep (k2.block p q3.lt (by omega) (by omega))⟩, h.at_.b.trans (k2.below h.at_.b.size b1 b2)⟩, rs_keep h.rs g k2, h.cl.p g k2, h.bu, h.bq⟩
theorem same_p (h : Pl w a c s p S u q S W) (hf : Fine S) :
    Calls Try.prog 25 #[.pointer (some ⟨p, 0, none⟩), .pointer (some ⟨q, 0, none⟩)] W fun e W' => e = .returned (.bool true) ∧ Pl w a c s p S u q S W' := by
  obtain ⟨f, _, _, h3⟩ := h.at_.sq
  obtain ⟨f2, _, _, h4⟩ := h.rs
  refine (same_all p q S.b S.L W h3 h4 hf.q.len).mono ?_
  rintro e w2 ⟨rfl, hb⟩
  exact ⟨rfl, h.below hb⟩
end
end Go.Proofs.Ythgcmjiebdnnfaa.flagPlays
