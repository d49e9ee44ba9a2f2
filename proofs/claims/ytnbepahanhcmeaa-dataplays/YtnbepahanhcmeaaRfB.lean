/- Contracts of the document's data queue: New, TrySend, Send, Force. -/
import Derived.Test.YtnbepahanhcmeaaRfA
import Derived.Great.BuildSlice
namespace Go.Proofs.Ytnbepahanhcmeaa
open Go.RowKit
set_option maxRecDepth 100000

theorem own0i {B : Nat} (W : World) (hB : B ≤ W.heap.size) : (W.alloc (.cells #[] 3)).ownsRow B 3 1 (.slice (some ⟨W.heap.size, 0, none⟩) 0 0) 0 (K.vals K.ci []) :=
  World.ownsRow_lit W #[] 0 hB (by unfold maxLen; omega) rfl
theorem Rf.size {w : World} {B m p r : Nat} {u : Value} {t : St} (h : Rf w B m p r u t) : B ≤ w.heap.size := by have := h.bm; have := h.d.lt; omega
/-- the row is laid anew, and told -/
theorem Rf.done {w w2 w4 : World} {B m p r : Nat} {u0 u u' : Value} {t : St} {D : List Int} (h : Rf w2 B m p r u t) (e : Et m p r u0 u w w2) (k : Below w2.heap.size w2 w4) (ho : Ow w4 w2.heap.size u' D) :
    Rf (w4.setCell ⟨m, 20, none⟩ u') B m p r u' { t with D := D } ∧ Et m p r u0 u' w (w4.setCell ⟨m, 20, none⟩ u') := by
  refine ⟨h.lay k (K.own_base ho h.size), ?_⟩
  have e2 : Et m p r u0 u w (w4.setCell ⟨m, 20, none⟩ u') := (e.trans (.of_below k)).trans (.of_only ((Only.refl m w4).setCell (q := ⟨m, 20, none⟩) (.inl rfl) u') (.inl rfl))
  refine e2.row fun g hg => ?_
  obtain ⟨_, _, _, hb, _⟩ := own_blk ho hg
  exact Nat.le_trans e.size hb

/-- a row of one's own without its first -/
theorem own_cut {w : World} {B n k : Nat} {X : Option Addr} {d : Int} {D : List Int} (h : w.ownsRow B 3 1 (.slice X (n + 1) k) (n + 1) (K.vals K.ci (d :: D))) :
    ∃ (X' : Option Addr) (k' : Nat), (∀ W : World, (Instr.slice 58 (.slice X (n + 1) k) (some (.int .i64 1)) none none).run Try.prog W = .ok (.slice X' n k') W) ∧ K.Sr K.ci w X' k' D := by
  rcases h.2 with ⟨_, e⟩ | ⟨g, cap, cur, hv, _, hh, hn, hm, hsz, htk⟩
  · cases e
  · injection hv with e1 _ e3
    subst e1 e3
    have hcap : k ≤ 9223372036854775807 := by unfold maxLen at hm; omega
    refine ⟨some (if k = 1 then ⟨g, 0, none⟩ else ⟨g, 1, none⟩), k - 1, fun W => ?_, .inr ⟨g, if k = 1 then 0 else 1, by split <;> rfl, lt_of_heap hh, fun j y hy => ?_⟩⟩
    · rw [run_slice_l W 58 _ (n + 1) k und58 .i64 1 (by omega) (by omega), size58]
      simp [Result.andThen, sliced, Addr.add]
      split <;> rfl
    · rw [vals_ci, List.getElem?_map] at hy
      obtain ⟨z, hz, rfl⟩ := Option.map_eq_some_iff.1 hy
      have hl : (d :: D).length = n + 1 := by have := h.1; rw [vals_ci, List.length_map] at this; omega
      rw [List.length_cons] at hl
      have hj := (List.getElem?_eq_some_iff.1 hz).1
      rw [if_neg (by omega), cell_of_row w g _ cur 3 (0, 0) hh]
      have h2 : (cur.toList.take ((n + 1) * 1))[1 + j]? = some (.int .i64 z) := by
        rw [htk, vals_ci, Nat.add_comm 1 j]; simp [hz]
      rw [List.getElem?_take] at h2
      split at h2
      · simpa using h2
      · cases h2

/-- two appends of a statement: the old row, then one number more -/
structure Two (w2 w4 : World) (u' : Value) (D : List Int) : Prop where
  b : Below w2.heap.size w2 w4
  o : Ow w4 w2.heap.size u' D

set_option maxHeartbeats 1600000 in
theorem rtrySend_any (B m p r : Nat) (u : Value) (t t' : St) (x c : Int) (k : Bool) (w : World) (h : Rf w B m p r u t) (hf : Fine t) (hs : trySend t x = (t', k, c)) :
    Calls Try.prog 15 #[.pointer (some ⟨m, 0, none⟩), .int .i64 x] w fun e w' => e = .returned (.tuple #[.bool k, .int .i64 c]) ∧ ∃ u', Rf w' B m p r u' t' ∧ Et m p r u u' w w' := by
  have c1 := h.d.c1
  have H := Lib.hid h
  cases hr : t.R with
  | cons y R =>
    rw [trySend_yes hr] at hs
    injection hs with h1 h2
    injection h2 with h2 h3
    subst h2 h3
    have H1 := Lib.hid h1
    have hlen := hf.r.len
    have hq := h.q
    rw [hr] at hq hlen
    have HT := Lib.hid (rtake_some r false y R w hq hlen)
    obtain ⟨y1, y2⟩ := y
    simp only at HT ⊢
    clear h hq hlen hr hf h1
    go_enter Try.func15, Try.ntmps15
    go_wp2_with fail
    refine HT.out.mono ?_
    rintro e w1 ⟨rfl, hl1, ho⟩
    have HQ := Lib.hid (H.out.rq ho hl1)
    have HE := Lib.hid (Et.of_only (m := m) (p := p) (u := u) ho (.inr (.inr rfl)))
    have bx := box_new w1 97 (.int .i64 y1) (.int .i64 y2)
    have HB := Lib.hid (show Below w1.heap.size w1 (w1.alloc (.cells #[.int .i64 y1, .int .i64 y2] 97)) from (Below.refl _ _).alloc (Nat.le_refl _) _)
    have q0 := bx.c0
    clear hl1 ho bx HT H c1
    go_wp2
    go_quiet (fail)
    go_wp2
    go_ret2
    rw [← H1.out]
    exact ⟨rfl, u, (HQ.out.below HB.out).below (below_drewN _ _), (HE.out.later (HB.out.mono HE.out.size)).drewN _⟩
  | nil =>
    have hq := h.q
    rw [hr] at hq
    have HT := Lib.hid (rtake_none r false w hq)
    obtain ⟨XA, KA, rfl, _, _⟩ := K.own_form h.o
    obtain ⟨n, hn⟩ : ∃ n, t.D.length = n := ⟨_, rfl⟩
    obtain ⟨mm, hm⟩ : ∃ mm, t.m = mm := ⟨_, rfl⟩
    have hd := hf.d
    have hm64 := hf.m
    rw [hn, hm] at hd
    have HN := Lib.hid hn
    have HM := Lib.hid hm
    by_cases cc : n < mm
    · rw [trySend_room hr (by rw [hn, hm]; exact cc)] at hs
      injection hs with h1 h2
      injection h2 with h2 h3
      subst h2 h3
      have H1 := Lib.hid h1
      have t1 : decide ((n : Int) < (mm : Int)) = true := by simp; omega
      have t2 : decide (n < mm) = true := by simp; omega
      have hn1000 : n ≤ 1000 := by rw [hm] at hm64; omega
      rw [hn] at H ⊢
      clear h hq hr hf h1 hd hm64 hn hm
      go_enter Try.func15, Try.ntmps15
      go_wp2_with fail
      refine HT.out.mono ?_
      rintro e w1 ⟨rfl, hb⟩
      have HB2 := Lib.hid (show Below w1.heap.size w1 (w1.alloc (.cells #[.int .i64 0, .int .i64 0] 97)) from (Below.refl _ _).alloc (Nat.le_refl _) _)
      have hq2 := (H.out.below hb).below HB2.out
      have HB := Lib.hid (below_trans hb HB2.out)
      have d0 := hq2.d.data
      have d1 := hq2.d.room
      rw [HM.out] at d1
      have HQ := Lib.hid hq2
      clear hb hq2 HT H c1
      go_wp2
      go_quiet (fail)
      have HQ3 := Lib.hid (HQ.out.below (below_drewN _ nq))
      have HE3 := Lib.hid ((Et.of_below (m := m) (p := p) (r := r) (u := .slice XA n KA) HB.out).drewN nq)
      clear d0 d1 HQ
      generalize World.drewN _ nq = w2 at *
      have d0 := HQ3.out.d.data
      have hwa : Below w2.heap.size w2 (w2.alloc (.cells #[] 3)) := (Below.refl _ _).alloc (Nat.le_refl _) _
      have d1 := (HQ3.out.below hwa).d.data
      have own := own0i (B := w2.heap.size) w2 (Nat.le_refl _)
      have src := (K.own_src HN.out (by have := HQ3.out.o; unfold Ow at this; rw [HN.out] at this; exact this)).below hwa
      have b1 : 0 + n ≤ 100000 := by omega
      have b2 : n + 1 ≤ 100000 := by omega
      have hsa : w2.heap.size ≤ (w2.alloc (.cells #[] 3)).heap.size := hwa.size
      have HWA := Lib.hid hwa
      go_wp2_with (first
        | (refine K.wpList_append_one K.ki (by decide) rfl _ _ rfl w2.heap.size _ t.D x n HN.out rfl (K.own_below hown3 ((Below.refl _ _).alloc (Nat.le_refl _) _)) _ 1 rfl (K.sr_one K.ci w3 3 x) b2 (Nat.le_trans HB3.out.size ((Below.refl w3.heap.size w3).alloc (Nat.le_refl _) (.cells #[.int .i64 x] 3)).size) ?_
           intro X4 k4 w4 hown4 hgr4 _
           have HT4 : Hid (Two w2 w4 (.slice X4 (n + 1) k4) (t.D ++ [x])) := Lib.hid ⟨below_grown (HB3.out.trans (((Below.refl _ _).alloc (Nat.le_refl _) _).mono HB3.out.size)) hgr4 (Nat.le_trans HB3.out.size ((Below.refl w3.heap.size w3).alloc (Nat.le_refl _) (.cells #[.int .i64 x] 3)).size) (fun g hg => by obtain ⟨_, _, _, q, _⟩ := own_blk hown3 hg; exact q), by unfold Ow; rw [List.length_append, HN.out]; exact hown4⟩
           have d4 := (HQ3.out.below HT4.out.b).d.data
           have z4 := (HQ3.out.below HT4.out.b).d.fz 20
           clear hown4 hgr4 hown3)
        | (refine K.wpList_append_row K.ki (by decide) rfl _ _ rfl w2.heap.size _ [] t.D 0 rfl rfl own XA n KA rfl HN.out src b1 hsa n (Nat.zero_add _) ?_
           intro X3 k3 w3 hown3 hgr3
           have HB3 := Lib.hid (below_grown HWA.out hgr3 hsa (fun g hg => by obtain ⟨_, _, _, q, _⟩ := own_blk own hg; exact q))
           rw [List.nil_append] at hown3
           clear hgr3))
      go_ret2
      have hdone := HQ3.out.done HE3.out HT4.out.b HT4.out.o
      rw [← H1.out]
      exact ⟨rfl, _, hdone.1, hdone.2⟩
    · rw [trySend_no hr (by rw [hn, hm]; exact cc)] at hs
      injection hs with h1 h2
      injection h2 with h2 h3
      subst h1 h2 h3
      have t1 : decide ((n : Int) < (mm : Int)) = false := by simp; omega
      have t2 : decide (n < mm) = false := by simp; omega
      rw [hn] at H ⊢
      clear h hq hr hf hd hm64 hn hm
      go_enter Try.func15, Try.ntmps15
      go_wp2_with fail
      refine HT.out.mono ?_
      rintro e w1 ⟨rfl, hb⟩
      have HB2 := Lib.hid (show Below w1.heap.size w1 (w1.alloc (.cells #[.int .i64 0, .int .i64 0] 97)) from (Below.refl _ _).alloc (Nat.le_refl _) _)
      have hq2 := (H.out.below hb).below HB2.out
      have HB := Lib.hid (below_trans hb HB2.out)
      have d0 := hq2.d.data
      have d1 := hq2.d.room
      rw [HM.out] at d1
      have HQ := Lib.hid hq2
      clear hb hq2 HT H c1
      go_wp2
      go_quiet (fail)
      go_wp2
      go_ret2
      exact ⟨rfl, _, HQ.out.below (below_drewN _ _), (Et.of_below (m := m) (p := p) (r := r) (u := .slice XA n KA) HB.out).drewN _⟩

theorem waitS_bad {t : St} {id pri x : Int} (h : ¬ ((1 ≤ id ∧ id ≤ 16) ∧ 1 ≤ pri ∧ pri ≤ 16)) : waitS t id pri x = (t, -17) := by
  have hc : addC t.S id pri = -17 := by unfold addC; rw [if_neg h]
  have hl : addL t.b t.S id pri = t.S := by unfold addL; rw [if_neg (fun k => h ⟨k.1, k.2.1⟩)]
  unfold waitS
  rw [hc, hl, if_neg (by decide)]

set_option maxHeartbeats 1600000 in
theorem rsend_any (B m p r : Nat) (u : Value) (t t' : St) (id pri x c e : Int) (k : Bool) (w : World) (h : Rf w B m p r u t) (hf : Fine t) (hs : send t id pri x = (t', k, c, e)) :
    Calls Try.prog 13 #[.pointer (some ⟨m, 0, none⟩), .int .i64 id, .int .i64 pri, .int .i64 x] w fun en w' => en = .returned (.tuple #[.bool k, .int .i64 c, .int .i64 e]) ∧ ∃ u', Rf w' B m p r u' t' ∧ Et m p r u u' w w' := by
  obtain ⟨t1, k1, r1, h0⟩ : ∃ t1 k1 r1, trySend t x = (t1, k1, r1) := ⟨_, _, _, rfl⟩
  have HT := Lib.hid (rtrySend_any B m p r u t t1 x r1 k1 w h hf h0)
  have HF := Lib.hid (hf.trySend h0)
  unfold send at hs
  rw [h0] at hs
  cases k1 with
  | true =>
    simp only [Prod.mk.injEq] at hs
    obtain ⟨h1, h2, h3, h4⟩ := hs
    subst h2 h3 h4
    have H1 := Lib.hid h1
    clear h hf h0 h1
    go_enter Try.func13, Try.ntmps13
    go_wp2_with fail
    refine HT.out.mono ?_
    rintro en w1 ⟨rfl, u', hq, hk⟩
    have HQ := Lib.hid hq
    have HK := Lib.hid hk
    clear hq hk HT
    go_wp2
    go_ret3
    rw [← H1.out]
    exact ⟨rfl, u', HQ.out, HK.out⟩
  | false =>
    obtain ⟨q1, q2, q3, q4⟩ := trySend_false h0
    subst q1 q2
    have HR := Lib.hid q3
    obtain ⟨t2, e2, h5⟩ : ∃ t2 e2, waitS t1 id pri x = (t2, e2) := ⟨_, _, rfl⟩
    simp only [h5, Prod.mk.injEq] at hs
    obtain ⟨h1, h2, h3, h4⟩ := hs
    subst h1 h2 h3 h4
    clear h hf h0 q3 q4
    by_cases cg : (1 ≤ id ∧ id ≤ 16) ∧ 1 ≤ pri ∧ pri ≤ 16
    · have HG := Lib.hid (fun W => rgood_any id pri W true (by simpa using cg))
      obtain ⟨j, rfl⟩ : ∃ j : Nat, id = (j : Int) := ⟨id.toNat, by omega⟩
      have hj17 : j < 17 := by omega
      have hji : (j : Int) < 17 := by omega
      have H5 := Lib.hid h5
      clear h5 cg
      go_enter Try.func13, Try.ntmps13
      go_wp2_with fail
      refine HT.out.mono ?_
      rintro en w1 ⟨rfl, u', hq, hk⟩
      have HQ := Lib.hid hq
      have HK := Lib.hid hk
      clear hq hk HT
      go_wp2_with fail
      refine (HG.out w1).mono ?_
      rintro en w2 ⟨rfl, rfl⟩
      have c1 := HQ.out.d.c1
      have hqr := HQ.out.q
      rw [HR.out] at hqr
      have HA := Lib.hid (rat_any r false [] w1 hqr (by simp) (j : Int) (-1) (by simp))
      clear hqr HG
      go_wp2_with fail
      refine HA.out.mono ?_
      rintro en w2 ⟨rfl, rfl⟩
      have c0 := HQ.out.d.c0
      have HD := Lib.hid (radd_any p t1.b t1.S w1 HQ.out.s HF.out.s (j : Int) pri)
      clear HA c1
      go_wp2_with fail
      refine HD.out.mono ?_
      rintro en w2 ⟨rfl, hl2, ho2⟩
      have HQ2 := Lib.hid (HQ.out.sq ho2 hl2)
      have HK2 := Lib.hid (HK.out.trans (Et.of_only (m := m) (r := r) (u := u') ho2 (.inr (.inl rfl))))
      clear hl2 ho2 HD HQ c0
      have h5 := H5.out
      unfold waitS at h5
      injection h5 with h6 h7
      rw [h7] at h6 ⊢
      by_cases ce : e2 = 0
      · subst ce
        rw [if_pos rfl] at h6
        have H6 := Lib.hid h6
        have dw := HQ2.out.d.wish hj17
        have dz := HQ2.out.d.fz (2 + j)
        have HW := Lib.hid (HQ2.out.turn ((Only.refl m w2).setCell (q := ⟨m, 2 + j, none⟩) (.inl rfl) (.int .i64 x)) (HQ2.out.d.setW hj17 x) rfl rfl rfl rfl)
        have HK3 := Lib.hid (HK2.out.trans (Et.of_only (p := p) (r := r) (u := u') ((Only.refl m w2).setCell (q := ⟨m, 2 + j, none⟩) (.inl rfl) (.int .i64 x)) (.inl rfl)))
        clear h6 h7 HQ2 HK2 HK
        go_wp2
        go_ret3
        rw [← H6.out]
        exact ⟨rfl, u', HW.out, HK3.out⟩
      · have te : (e2 == 0) = false := by simpa using ce
        rw [if_neg ce] at h6
        have H6 := Lib.hid h6
        clear h6 h7 ce HK
        go_wp2
        go_ret3
        rw [← H6.out]
        exact ⟨rfl, u', HQ2.out, HK2.out⟩
    · have HG := Lib.hid (fun W => rgood_any id pri W false (by simpa using cg))
      rw [waitS_bad cg] at h5
      injection h5 with h6 h7
      subst h6 h7
      clear cg
      go_enter Try.func13, Try.ntmps13
      go_wp2_with fail
      refine HT.out.mono ?_
      rintro en w1 ⟨rfl, u', hq, hk⟩
      have HQ := Lib.hid hq
      have HK := Lib.hid hk
      clear hq hk HT
      go_wp2_with fail
      refine (HG.out w1).mono ?_
      rintro en w2 ⟨rfl, rfl⟩
      clear HG
      go_wp2
      go_ret3
      exact ⟨rfl, u', HQ.out, HK.out⟩

set_option maxHeartbeats 1600000 in
theorem rforce_any (B m p r : Nat) (u : Value) (t t' : St) (x c e : Int) (w : World) (h : Rf w B m p r u t) (hf : Fine t) (hs : force t x = (t', c, e)) :
    Calls Try.prog 17 #[.pointer (some ⟨m, 0, none⟩), .int .i64 x] w fun en w' => en = .returned (.tuple #[.int .i64 c, .int .i64 e]) ∧ ∃ u', Rf w' B m p r u' t' ∧ Et m p r u u' w w' := by
  have d1 := h.d.room
  have H := Lib.hid h
  unfold force at hs
  by_cases cc : t.m = 0
  · rw [if_pos cc] at hs
    simp only [Prod.mk.injEq] at hs
    obtain ⟨h1, h2, h3⟩ := hs
    subst h1 h2 h3
    rw [cc] at d1
    clear h hf cc
    go_enter Try.func17, Try.ntmps17
    go_wp2
    go_ret2
    exact ⟨rfl, u, H.out, Et.refl _ _ _ _ _⟩
  · rw [if_neg cc] at hs
    obtain ⟨t1, k1, r1, h0⟩ : ∃ t1 k1 r1, trySend t x = (t1, k1, r1) := ⟨_, _, _, rfl⟩
    have HT := Lib.hid (rtrySend_any B m p r u t t1 x r1 k1 w h hf h0)
    have HF := Lib.hid (hf.trySend h0)
    rw [h0] at hs
    have tm : ((t.m : Int) == 0) = false := by simp; omega
    obtain ⟨mm, hm⟩ : ∃ mm, t.m = mm := ⟨_, rfl⟩
    rw [hm] at d1 tm
    cases k1 with
    | true =>
      simp only [Prod.mk.injEq] at hs
      obtain ⟨h1, h2, h3⟩ := hs
      subst h2 h3
      have H1 := Lib.hid h1
      clear h hf h0 h1 cc hm H
      go_enter Try.func17, Try.ntmps17
      go_wp2_with fail
      refine HT.out.mono ?_
      rintro en w1 ⟨rfl, u', hq, hk⟩
      have HQ := Lib.hid hq
      have HK := Lib.hid hk
      clear hq hk HT d1
      go_wp2
      go_ret2
      rw [← H1.out]
      exact ⟨rfl, u', HQ.out, HK.out⟩
    | false =>
      simp only [Prod.mk.injEq] at hs
      obtain ⟨h1, h2, h3⟩ := hs
      subst h2 h3
      obtain ⟨e1, e3, e4, e2⟩ := trySend_false h0
      obtain ⟨d, D, hD⟩ : ∃ d D, t1.D = d :: D := by
        rw [e1]
        cases q : t.D with
        | nil => rw [q] at e2; simp at e2; omega
        | cons d D => exact ⟨d, D, rfl⟩
      have h1 : ({ t1 with D := D ++ [x] } : St) = t' := by rw [← h1, hD]; rfl
      have hDl : D.length ≤ 1000 := by
        have := HF.out.d; have := HF.out.m; rw [hD] at *; simp at *; omega
      obtain ⟨n, hn⟩ : ∃ n, D.length = n := ⟨_, rfl⟩
      have HN := Lib.hid hn
      have H1 := Lib.hid h1
      have HD := Lib.hid hD
      rw [hn] at hDl
      clear h hf h0 h1 cc hm H e1 e2 e3 e4 hD hn
      go_enter Try.func17, Try.ntmps17
      go_wp2_with fail
      refine HT.out.mono ?_
      rintro en w2 ⟨rfl, u', hq, hk⟩
      have HE3 := Lib.hid hk
      obtain ⟨XA, KA, rfl, hka1, hka2⟩ := K.own_form hq.o
      have hlen : t1.D.length = n + 1 := by rw [HD.out, List.length_cons, HN.out]
      have hoo := hq.o
      unfold Ow at hoo
      rw [hlen, HD.out] at hoo
      obtain ⟨XF, KF, hsl, hsr⟩ := own_cut hoo
      rw [hlen] at hq
      have HQ3 := Lib.hid hq
      have d0 := hq.d.data
      rw [hlen] at HE3
      have hwa : Below w2.heap.size w2 (w2.alloc (.cells #[] 3)) := (Below.refl _ _).alloc (Nat.le_refl _) _
      have d2 := (HQ3.out.below hwa).d.data
      have own := own0i (B := w2.heap.size) w2 (Nat.le_refl _)
      have src := hsr.below hwa
      have b1 : 0 + n ≤ 100000 := by omega
      have b2 : n + 1 ≤ 100000 := by omega
      have hsa : w2.heap.size ≤ (w2.alloc (.cells #[] 3)).heap.size := hwa.size
      have HWA := Lib.hid hwa
      clear hq hk HT d1 hsr hoo hlen hka1 hka2 hwa
      go_wp2_with (first
        | (refine K.wpList_append_one K.ki (by decide) rfl _ _ rfl w2.heap.size _ D x n HN.out rfl (K.own_below hown3 ((Below.refl _ _).alloc (Nat.le_refl _) _)) _ 1 rfl (K.sr_one K.ci w3 3 x) b2 (Nat.le_trans HB3.out.size ((Below.refl w3.heap.size w3).alloc (Nat.le_refl _) (.cells #[.int .i64 x] 3)).size) ?_
           intro X4 k4 w4 hown4 hgr4 _
           have HT4 : Hid (Two w2 w4 (.slice X4 (n + 1) k4) (D ++ [x])) := Lib.hid ⟨below_grown (HB3.out.trans (((Below.refl _ _).alloc (Nat.le_refl _) _).mono HB3.out.size)) hgr4 (Nat.le_trans HB3.out.size ((Below.refl w3.heap.size w3).alloc (Nat.le_refl _) (.cells #[.int .i64 x] 3)).size) (fun g hg => by obtain ⟨_, _, _, q, _⟩ := own_blk hown3 hg; exact q), by unfold Ow; rw [List.length_append, HN.out]; exact hown4⟩
           have d4 := (HQ3.out.below HT4.out.b).d.data
           have z4 := (HQ3.out.below HT4.out.b).d.fz 20
           clear hown4 hgr4 hown3)
        | (refine K.wpList_append_row K.ki (by decide) rfl _ _ rfl w2.heap.size _ [] D 0 rfl rfl own XF n KF rfl HN.out src b1 hsa n (Nat.zero_add _) ?_
           intro X3 k3 w3 hown3 hgr3
           have HB3 := Lib.hid (below_grown HWA.out hgr3 hsa (fun g hg => by obtain ⟨_, _, _, q, _⟩ := own_blk own hg; exact q))
           rw [List.nil_append] at hown3
           clear hgr3))
      go_ret2
      have hdone := HQ3.out.done HE3.out HT4.out.b HT4.out.o
      rw [← H1.out]
      exact ⟨rfl, _, hdone.1, hdone.2⟩
end Go.Proofs.Ytnbepahanhcmeaa
