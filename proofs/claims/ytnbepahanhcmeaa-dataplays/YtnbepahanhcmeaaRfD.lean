/- Contracts of the document's data queue: Recv, Drop, Change, New; IDs. -/
import Derived.Test.YtnbepahanhcmeaaRfC
namespace Go.Proofs.Ytnbepahanhcmeaa
open Go.RowKit
set_option maxRecDepth 100000

theorem rtryRecv_any (B m p r : Nat) (u : Value) (t t' : St) (d c : Int) (k : Bool) (w : World) (h : Rf w B m p r u t) (hf : Fine t) (hs : tryRecv t = (t', d, k, c)) :
    Calls Try.prog 22 #[.pointer (some ⟨m, 0, none⟩)] w fun e w' => e = .returned (gv d k c) ∧ ∃ u', Rf w' B m p r u' t' ∧ Et m p r u u' w w' := by
  cases hD : t.D with
  | nil => exact rtryRecv_none B m p r u t t' d c k w h hf hs hD
  | cons dd D => exact rtryRecv_some B m p r u t t' d c k w h hf hs dd D hD

theorem waitR_bad {t : St} {id pri : Int} (h : ¬ ((1 ≤ id ∧ id ≤ 16) ∧ 1 ≤ pri ∧ pri ≤ 16)) : waitR t id pri = (t, -17) := by
  have hc : addC t.R id pri = -17 := by unfold addC; rw [if_neg h]
  have hl : addL false t.R id pri = t.R := by unfold addL; rw [if_neg (fun k => h ⟨k.1, k.2.1⟩)]
  unfold waitR
  rw [hc, hl]
theorem four_only {q : Nat} {w w' : World} {a b c d : Addr} {x y z v : Value} (k : Only q w w') (h : w.cell? a = some x ∧ w.cell? b = some y ∧ w.cell? c = some z ∧ w.cell? d = some v) (ha : a.block ≠ q) (hb : b.block ≠ q) (hc : c.block ≠ q) (hd : d.block ≠ q) :
    w'.cell? a = some x ∧ w'.cell? b = some y ∧ w'.cell? c = some z ∧ w'.cell? d = some v :=
  ⟨(k.cell (q := a) (block_lt_of_cell h.1) ha).trans h.1, (k.cell (q := b) (block_lt_of_cell h.2.1) hb).trans h.2.1, (k.cell (q := c) (block_lt_of_cell h.2.2.1) hc).trans h.2.2.1, (k.cell (q := d) (block_lt_of_cell h.2.2.2) hd).trans h.2.2.2⟩
theorem five_keep {w w' : World} {a b c d : Addr} {x y z v : Value} (k : Below w.heap.size w w') (h : w.cell? a = some x ∧ w.cell? b = some y ∧ w.cell? c = some z ∧ w.cell? d = some v) :
    w'.cell? a = some x ∧ w'.cell? b = some y ∧ w'.cell? c = some z ∧ w'.cell? d = some v :=
  ⟨(k.cell (p := a) (block_lt_of_cell h.1)).trans h.1, (k.cell (p := b) (block_lt_of_cell h.2.1)).trans h.2.1, (k.cell (p := c) (block_lt_of_cell h.2.2.1)).trans h.2.2.1, (k.cell (p := d) (block_lt_of_cell h.2.2.2)).trans h.2.2.2⟩

set_option maxHeartbeats 4000000 in
theorem rrecv_any (B m p r : Nat) (u : Value) (t t' : St) (id pri d c e : Int) (k : Bool) (w : World) (h : Rf w B m p r u t) (hf : Fine t) (hs : recv t id pri = (t', d, k, c, e)) :
    Calls Try.prog 19 #[.pointer (some ⟨m, 0, none⟩), .int .i64 id, .int .i64 pri] w fun en w' => en = .returned (.tuple #[gv d k c, .int .i64 e]) ∧ ∃ u', Rf w' B m p r u' t' ∧ Et m p r u u' w w' := by
  have hb0 : Below w.heap.size w (w.alloc (.cells #[.int .i64 0, .bool false, .int .i64 0] 47)) := (Below.refl _ _).alloc (Nat.le_refl _) _
  have bx := box3_new w 47 (.int .i64 0) (.bool false) (.int .i64 0)
  have h0 := h.below hb0
  have HE0 := Lib.hid (Et.of_below (m := m) (p := p) (r := r) (u := u) hb0)
  obtain ⟨w0, hw0⟩ : ∃ w0, w.alloc (.cells #[.int .i64 0, .bool false, .int .i64 0] 47) = w0 := ⟨_, rfl⟩
  rw [hw0] at bx h0 HE0
  obtain ⟨t1, d1, k1, c1, h2⟩ : ∃ t1 d1 k1 c1, tryRecv t = (t1, d1, k1, c1) := ⟨_, _, _, _, rfl⟩
  have HT := Lib.hid (rtryRecv_any B m p r u t t1 d1 c1 k1 w0 h0 hf h2)
  have HF := Lib.hid (hf.tryRecv h2)
  have BX := Lib.hid bx
  have H0 := Lib.hid h0
  unfold recv at hs
  rw [h2] at hs
  unfold gv at HT
  cases k1 with
  | true =>
    simp only [Prod.mk.injEq] at hs
    obtain ⟨h1, h3, h4, h5, h6⟩ := hs
    subst h3 h4 h5 h6
    have H1 := Lib.hid h1
    clear h hf h2 h0 bx hb0 h1
    go_enter Try.func19, Try.ntmps19
    go_wp2_with fail
    refine HT.out.mono ?_
    rintro en w1 ⟨rfl, u1, hq1, hk1⟩
    have BX1 := Lib.hid (BX.out.et H0.out hk1)
    have HQ1 := Lib.hid hq1
    have HK1 := Lib.hid (HE0.out.trans hk1)
    have HB2 := Lib.hid (show Below w1.heap.size w1 (w1.alloc (.cells #[.int .i64 d1, .bool true, .int .i64 c1] 47)) from (Below.refl _ _).alloc (Nat.le_refl _) _)
    have ax := box3_new w1 47 (.int .i64 d1) (.bool true) (.int .i64 c1)
    have BX2 := Lib.hid (BX1.out.below HB2.out)
    have HQ2 := Lib.hid (HQ1.out.below HB2.out)
    have HK2 := Lib.hid (HK1.out.trans (.of_below HB2.out))
    have a0 := ax.c0
    have a1 := ax.c1
    have a2 := ax.c2
    have z0 := BX2.out.fz 0
    have z1 := BX2.out.fz 1
    have z2 := BX2.out.fz 2
    have b0 := BX2.out.c0
    have b1 := BX2.out.c1
    have b2 := BX2.out.c2
    have HX := Lib.hid (BX2.out.all (Nat.le_refl _) (.int .i64 d1) (.bool true) (.int .i64 c1))
    clear hq1 hk1 HT BX hw0 ax H0
    go_wp2
    (try simp only [Exit.inBlock, Exit.then]); refine bodyPost_ret (ret_rgot2 rfl _ _ _ _ _ _ _ rfl HX.out.1) rfl ?_
    rw [← H1.out]
    exact ⟨rfl, _, HQ2.out.box BX2.out HX.out.2.2, HK2.out.own HX.out.2.2 (Nat.le_refl _)⟩
  | false =>
    obtain ⟨e1, e2, e3, e4, e5⟩ := tryRecv_false h2
    subst e1 e2 e3
    have HS := Lib.hid e4
    obtain ⟨t2, e2, h5⟩ : ∃ t2 e2, waitR t1 id pri = (t2, e2) := ⟨_, _, rfl⟩
    simp only [h5, Prod.mk.injEq] at hs
    obtain ⟨h1, h3, h4, h6, h7⟩ := hs
    subst h1 h3 h4 h6 h7
    clear h hf h2 h0 bx hb0 e4 e5
    by_cases cg : (1 ≤ id ∧ id ≤ 16) ∧ 1 ≤ pri ∧ pri ≤ 16
    · have HG := Lib.hid (fun W => rgood_any id pri W true (by simpa using cg))
      have H5 := Lib.hid h5
      clear h5 cg
      go_enter Try.func19, Try.ntmps19
      go_wp2_with fail
      refine HT.out.mono ?_
      rintro en w1 ⟨rfl, u1, hq1, hk1⟩
      have BX1 := Lib.hid (BX.out.et H0.out hk1)
      have HQ1 := Lib.hid hq1
      have HK1 := Lib.hid (HE0.out.trans hk1)
      have HB2 := Lib.hid (show Below w1.heap.size w1 (w1.alloc (.cells #[.int .i64 0, .bool false, .int .i64 0] 47)) from (Below.refl _ _).alloc (Nat.le_refl _) _)
      have AX := Lib.hid (box3_new w1 47 (.int .i64 0) (.bool false) (.int .i64 0))
      have BX2 := Lib.hid (BX1.out.below HB2.out)
      have HQ2 := Lib.hid (HQ1.out.below HB2.out)
      have HK2 := Lib.hid (HK1.out.trans (.of_below HB2.out))
      have HGA := Lib.hid (show w1.heap.size ≠ w.heap.size by have := BX1.out.lt; omega)
      have a1 := AX.out.c1
      clear hq1 hk1 HT BX hw0 H0 BX1 HQ1 HK1 HB2
      go_wp2_with fail
      generalize w1.alloc _ = w2 at *
      refine (HG.out w2).mono ?_
      rintro en w3 ⟨rfl, rfl⟩
      have c0 := HQ2.out.d.c0
      have hqs := HQ2.out.s
      rw [HS.out] at hqs
      have HA := Lib.hid (rat_any p t1.b [] w2 hqs (by simp) id (-1) (by simp))
      clear hqs HG a1
      go_wp2_with fail
      refine HA.out.mono ?_
      rintro en w3 ⟨rfl, rfl⟩
      have c1 := HQ2.out.d.c1
      have a0 := AX.out.c0
      have a1 := AX.out.c1
      have a2 := AX.out.c2
      have HQd := Lib.hid (HQ2.out.below (below_drewN w2 1))
      have HD := Lib.hid (radd_any r false t1.R w2.drew HQd.out.q HF.out.r id pri)
      clear HA c0
      go_wp2
      go_region_held3 (fun W => W.cell? ⟨m, 1, none⟩ = some (.pointer (some ⟨r, 0, none⟩)) ∧ W.cell? ⟨w1.heap.size, 0, none⟩ = some (.int .i64 0) ∧ W.cell? ⟨w1.heap.size, 1, none⟩ = some (.bool false) ∧ W.cell? ⟨w1.heap.size, 2, none⟩ = some (.int .i64 0))
        (first | exact ⟨c1, a0, a1, a2⟩ | assumption | exact KS.out | exact ⟨HQ5.out.d.c1, AX5.out.c0, AX5.out.c1, AX5.out.c2⟩)
        (first
          | (go_at_call 38; refine HD.out.mono ?_; rintro en w5 ⟨rfl, hl5, ho5⟩
             have HQ5 := Lib.hid (HQd.out.rq ho5 hl5)
             have AX5 := Lib.hid ((AX.out.below (below_drewN w2 1)).keep (ho5.block _ (AX.out.below (below_drewN w2 1)).lt (HQd.out.nb (AX.out.below (below_drewN w2 1))).2.2))
             have BX5 := Lib.hid ((BX2.out.below (below_drewN w2 1)).keep (ho5.block _ (BX2.out.below (below_drewN w2 1)).lt (HQd.out.nb (BX2.out.below (below_drewN w2 1))).2.2))
             have z0 := BX5.out.fz 0
             have z1 := BX5.out.fz 1
             have z2 := BX5.out.fz 2
             have b0 := BX5.out.c0
             have b1 := BX5.out.c1
             have b2 := BX5.out.c2
             have HX5 := Lib.hid (BX5.out.all (Nat.le_refl _) (.int .i64 0) (.bool false) (.int .i64 0))
             have KS := Lib.hid (four_only HX5.out.2.2 ⟨HQ5.out.d.c1, AX5.out.c0, AX5.out.c1, AX5.out.c2⟩ (Ne.symm (HQ5.out.nb BX5.out).1) HGA.out HGA.out HGA.out)))
      all_goals
        have HE5 := Lib.hid ((HK2.out.trans (.of_below (below_drewN w2 1))).trans (Et.of_only (m := m) (p := p) (u := u1) ho5 (.inr (.inr rfl))))
        have h5 := H5.out
        unfold waitR at h5
        injection h5 with h6 h7
        have HQ6 := Lib.hid (show Rf w5 B m p r u1 t2 by rw [← h6]; exact HQ5.out)
        rw [h7]
        clear hl5 ho5 h6 h7 HD HQ5
        go_wp2
        (try simp only [Exit.inBlock, Exit.then]); refine bodyPost_ret (ret_rgot2 rfl _ _ _ _ _ _ _ rfl HX5.out.1) rfl ?_
        exact ⟨rfl, _, HQ6.out.box BX5.out HX5.out.2.2, HE5.out.own HX5.out.2.2 (Nat.le_refl _)⟩
    · have HG := Lib.hid (fun W => rgood_any id pri W false (by simpa using cg))
      rw [waitR_bad cg] at h5
      injection h5 with h6 h7
      subst h6 h7
      clear cg
      go_enter Try.func19, Try.ntmps19
      go_wp2_with fail
      refine HT.out.mono ?_
      rintro en w1 ⟨rfl, u1, hq1, hk1⟩
      have BX1 := Lib.hid (BX.out.et H0.out hk1)
      have HQ1 := Lib.hid hq1
      have HK1 := Lib.hid (HE0.out.trans hk1)
      have HB2 := Lib.hid (show Below w1.heap.size w1 (w1.alloc (.cells #[.int .i64 0, .bool false, .int .i64 0] 47)) from (Below.refl _ _).alloc (Nat.le_refl _) _)
      have AX := Lib.hid (box3_new w1 47 (.int .i64 0) (.bool false) (.int .i64 0))
      have BX2 := Lib.hid (BX1.out.below HB2.out)
      have HQ2 := Lib.hid (HQ1.out.below HB2.out)
      have HK2 := Lib.hid (HK1.out.trans (.of_below HB2.out))
      have a1 := AX.out.c1
      clear hq1 hk1 HT BX hw0 H0 BX1 HQ1 HK1 HB2
      go_wp2_with fail
      generalize w1.alloc _ = w2 at *
      refine (HG.out w2).mono ?_
      rintro en w3 ⟨rfl, rfl⟩
      have a0 := AX.out.c0
      have a2 := AX.out.c2
      have z0 := BX2.out.fz 0
      have z1 := BX2.out.fz 1
      have z2 := BX2.out.fz 2
      have b0 := BX2.out.c0
      have b1 := BX2.out.c1
      have b2 := BX2.out.c2
      have HX := Lib.hid (BX2.out.all (Nat.le_refl _) (.int .i64 0) (.bool false) (.int .i64 0))
      clear HG
      go_wp2
      (try simp only [Exit.inBlock, Exit.then]); refine bodyPost_ret (ret_rgot2 rfl _ _ _ _ _ _ _ rfl HX.out.1) rfl ?_
      exact ⟨rfl, _, HQ2.out.box BX2.out HX.out.2.2, HK2.out.own HX.out.2.2 (Nat.le_refl _)⟩
end Go.Proofs.Ytnbepahanhcmeaa
