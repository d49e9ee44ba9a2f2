/- Contracts of package mtx: Lock, SetBase. -/
import Derived.Test.YtmicinenggkmlaaMtE
namespace Go.Proofs.Ytmicinenggkmlaa
open Go.RowKit
set_option linter.unusedVariables false
set_option maxRecDepth 100000

theorem tryL_wait {S S' : St} {m t c : Int} {r : Bool} (h : tryL S m t = (S', r, c)) (hr : r = false) (hc : c = 0) : S' = S ∧ isM S m ∧ isT t ∧ (∀ j, j < S.n → ¬ inq S j t) ∧ S.O (ix m) ≠ 0 := by
  unfold tryL at h
  split at h
  · simp only [Prod.mk.injEq] at h; omega
  · rename_i c1
    split at h
    · simp only [Prod.mk.injEq] at h; omega
    · split at h
      · simp only [Prod.mk.injEq] at h; omega
      · rename_i c3
        split at h
        · rename_i c4
          simp only [Prod.mk.injEq] at h
          have := Classical.not_not.1 c1
          exact ⟨h.1.symm, this.1, this.2, fun j hj => fi_out c3 hj, c4⟩
        · simp only [Prod.mk.injEq] at h
          obtain ⟨_, h, _⟩ := h
          subst hr; cases h
theorem two_below {a b : Addr} {x y : Value} {W W' : World} (hb : Below W.heap.size W W') (h : W.cell? a = some x ∧ W.cell? b = some y) : W'.cell? a = some x ∧ W'.cell? b = some y :=
  ⟨(hb.cell (p := a) (block_lt_of_cell h.1)).trans h.1, (hb.cell (p := b) (block_lt_of_cell h.2)).trans h.2⟩
theorem two_only {a b : Addr} {x y : Value} {W W' : World} {p : Nat} (k : Only p W W') (ha : a.block ≠ p) (hb : b.block ≠ p) (h : W.cell? a = some x ∧ W.cell? b = some y) : W'.cell? a = some x ∧ W'.cell? b = some y :=
  ⟨(k.cell (q := a) (block_lt_of_cell h.1) ha).trans h.1, (k.cell (q := b) (block_lt_of_cell h.2) hb).trans h.2⟩
theorem Mx.ql {w : World} {a g : Nat} {q : Nat → Nat} {S : St} (h : Mx w a g q S) {i p : Nat} (hi : i < S.n) (hp : q i = p) : Ln w p 87 (S.bp i) (S.Q i) := hp ▸ h.hl i hi
theorem Mx.ne {w : World} {a g : Nat} {q : Nat → Nat} {S : St} (h : Mx w a g q S) {i p : Nat} (hi : i < S.n) (hp : q i = p) : a ≠ p ∧ g ≠ p := by
  subst hp
  obtain ⟨cs, _, _, h1, _⟩ := h.ha
  obtain ⟨ds, h2, _⟩ := h.hg (Nat.lt_of_le_of_lt (Nat.zero_le _) hi)
  exact ⟨fun e => h.qtype hi (e := 66) (by decide) cs (0, 0) (e ▸ h1), fun e => h.qtype hi (e := 70) (by decide) ds (0, 0) (e ▸ h2)⟩

set_option maxHeartbeats 3200000 in
theorem lock_any (a g : Nat) (q : Nat → Nat) (S S' : St) (m t c : Int) (r : Bool) (w : World) (h : Mx w a g q S) (hf : Fine S) (hs : lockL S m t = (S', r, c)) :
    Calls Try.prog 14 #[PtrV a, .int .i64 m, .int .i64 t] w fun e w' => e = .returned (.tuple #[.bool r, .int .i64 c]) ∧ Did w a g q S.n S' w' := by
  unfold lockL at hs
  obtain ⟨S1, r1, k1, ht⟩ : ∃ S1 r1 k1, tryL S m t = (S1, r1, k1) := ⟨_, _, _, rfl⟩
  rw [ht] at hs
  simp only at hs
  have HT := Lib.hid (try_any a g q S S1 m t k1 r1 w h hf ht)
  cases r1 with
  | true =>
    rw [if_pos (.inl rfl)] at hs
    simp only [Prod.mk.injEq] at hs
    obtain ⟨rfl, rfl, rfl⟩ := hs
    clear h hf ht
    go_enter Try.func14, Try.ntmps14
    go_wp2_with fail
    refine HT.out.mono ?_
    rintro e w1 ⟨rfl, hd⟩
    go_wp2
    go_ret2
    exact ⟨rfl, hd⟩
  | false =>
    by_cases hk : ¬ k1 = 0
    · have tk : (k1 != 0) = true := by simpa using hk
      rw [if_pos (.inr hk)] at hs
      simp only [Prod.mk.injEq] at hs
      obtain ⟨rfl, rfl, rfl⟩ := hs
      clear h hf ht hk
      go_enter Try.func14, Try.ntmps14
      go_wp2_with fail
      refine HT.out.mono ?_
      rintro e w1 ⟨rfl, hd⟩
      go_wp2
      go_ret2
      exact ⟨rfl, hd⟩
    · have hk0 := Classical.not_not.1 hk
      subst hk0
      rw [if_neg (by rintro (e | e); cases e; exact e rfl)] at hs
      obtain ⟨rfl, c1, c2, hw, ho⟩ := tryL_wait ht rfl rfl
      have HC := Lib.hid (fun W (hW : Mx W a g q S1) => circle_any a g q S1 m t W hW hf.toFine0 c1 ho (by unfold isT at c2; omega) _ rfl)
      cases hc : circ S1 (S1.O (ix m)) t with
      | true =>
        rw [hc] at hs HC
        rw [if_pos rfl] at hs
        simp only [Prod.mk.injEq] at hs
        obtain ⟨rfl, rfl, rfl⟩ := hs
        clear h hf ht hw c1 c2 hk ho hc
        go_enter Try.func14, Try.ntmps14
        go_wp2_with fail
        refine HT.out.mono ?_
        rintro e w1 ⟨rfl, hd⟩
        have HD := Lib.hid hd
        clear hd
        go_wp2_with fail
        refine (HC.out _ HD.out.1).mono ?_
        rintro e w2 ⟨rfl, hb2⟩
        have HB2 := Lib.hid hb2
        clear hb2
        go_wp2
        go_ret2
        exact ⟨rfl, HD.out.1.below HB2.out, HD.out.2.trans (.of_below HB2.out)⟩
      | false =>
        rw [hc] at hs HC
        rw [if_neg (by simp)] at hs
        simp only [Prod.mk.injEq] at hs
        obtain ⟨rfl, rfl, rfl⟩ := hs
        obtain ⟨hi, hmi⟩ := ix_of c1
        have HA := Lib.hid (hf.addQ hi c2 hw ho hc).1
        have HPR := Lib.hid (fun W hW => pri_any a g q S1 t W hW hf.toFine0 (P S1 t) (by unfold pri; rw [if_pos c2]))
        have hp16 := hf.toFine0.pri c2.1 c2.2
        have hnq : ¬ pos (S1.Q (ix m)) t < (S1.Q (ix m)).length := fun e => hw _ hi (pos_inq.1 e)
        have hac : addC (S1.Q (ix m)) t (P S1 t) = 0 := by unfold addC; rw [if_pos ⟨c2, hp16⟩, if_neg hnq]
        have hgd := hf.gd _ hi
        have hn8 := hf.n8
        have HAC := Lib.hid hac
        have HGD := Lib.hid hgd
        clear h hf ht hw c2 hk ho hc hp16 hnq hac hgd
        obtain ⟨i, hii⟩ : ∃ i, ix m = i := ⟨_, rfl⟩
        rw [hii] at hi hmi HA HAC HGD ⊢
        have hm' : m - 1 = (i : Int) := by omega
        have HI := Lib.hid hi
        have hin : i < S1.n := hi
        obtain ⟨n, hn⟩ : ∃ n, S1.n = n := ⟨_, rfl⟩
        rw [hn] at hin hn8
        have HN := Lib.hid hn
        clear hn hi hmi hii c1
        go_enter Try.func14, Try.ntmps14
        go_wp2_with fail
        refine HT.out.mono ?_
        rintro e w1 ⟨rfl, hd⟩
        have HD := Lib.hid hd
        clear hd
        go_wp2_with fail
        refine (HC.out _ HD.out.1).mono ?_
        rintro e w2 ⟨rfl, hb2⟩
        have h2 := HD.out.1.below hb2
        have ho2 := HD.out.2.trans (.of_below hb2)
        obtain ⟨X, k, c16, hk1, hk2, hX⟩ := h2.row
        obtain rfl := hX (by rw [HN.out]; omega)
        rw [HN.out] at c16 hk1
        obtain ⟨_, _, _, d3⟩ := h2.cells HI.out
        obtain ⟨p, hp⟩ : ∃ p, q i = p := ⟨_, rfl⟩
        have HPQ := Lib.hid hp
        rw [hp] at d3
        have H2 := Lib.hid h2
        have HO2 := Lib.hid ho2
        obtain ⟨y, hy⟩ : ∃ y, P S1 t = y := ⟨_, rfl⟩
        rw [hy] at HPR HAC
        have HY := Lib.hid hy
        clear hb2 h2 ho2 hX hp hy HD HC HT
        go_wp2_with fail
        have H2D := Lib.hid (H2.out.below (below_drewN w2 1))
        have HNE := Lib.hid (H2.out.ne HI.out HPQ.out)
        have hi0 : (0 : Int) ≤ (i : Int) := by omega
        have hi1 : (i : Int) < (n : Int) := by omega
        have p3 : IntKind.i64.wrap (m - 1) = (i : Int) := by rw [IntWalk.i64_in _ (by omega)]; omega
        clear hm'
        go_region_held3 (fun W => W.cell? ⟨a, 16, none⟩ = some (.slice (some ⟨g, 0, none⟩) n k) ∧ W.cell? ⟨g, i * 4 + 3, none⟩ = some (PtrV p))
          (first | exact two_below (below_drewN w2 1) ⟨c16, d3⟩ | exact two_only ho6 HNE.out.1 HNE.out.2 (by assumption) | exact two_below hb5 (by assumption) | assumption)
          (first
            | (go_at_call 37; refine (add_to p (S1.bp i) (S1.Q i) _ _ _ ((H2D.out.below hb5).ql HI.out HPQ.out) HGD.out t y HAC.out rfl).mono ?_; rintro en w6 ⟨rfl, hl6, ho6⟩)
            | (go_at_call 29; refine (HPR.out _ H2D.out).mono ?_; rintro en w5 ⟨rfl, hb5⟩))
        have h5 := H2D.out.below hb5
        have h6 : Mx w6 a g q (addQ S1 i t) := by
          unfold addQ
          rw [HY.out]
          exact h5.turn HI.out (by rw [HPQ.out]; exact ho6) (by rw [HPQ.out]; exact hl6)
        have HO6 : OnS (Zp a g q S1.n) w w6 := (HO2.out.trans (.of_below (below_trans (below_drewN w2 1) hb5))).trans (.at_ ho6 (by rw [← HPQ.out]; exact zq HI.out))
        have H6 := Lib.hid h6
        have HO6 := Lib.hid HO6
        clear hb5 hl6 ho6 h5 h6 c16 d3
        go_wp2_with fail
        refine (settle_any a g q (addQ S1 i t) _ H6.out HA.out).mono ?_
        rintro e w7 ⟨rfl, h7, ho7⟩
        have H7 := Lib.hid h7
        have HO7 := Lib.hid (HO6.out.trans ho7)
        clear h7 ho7
        go_wp2
        go_ret2
        exact ⟨rfl, H7.out, HO7.out⟩

set_option maxHeartbeats 3200000 in
theorem sbase_any (a g : Nat) (q : Nat → Nat) (S S' : St) (t p c : Int) (w : World) (h : Mx w a g q S) (hf : Fine S) (hs : sbase S t p = (S', c)) :
    Calls Try.prog 20 #[PtrV a, .int .i64 t, .int .i64 p] w fun e w' => e = .returned (.int .i64 c) ∧ Did w a g q S.n S' w' := by
  unfold sbase at hs
  by_cases c1 : ¬ isT t
  · rw [if_pos c1] at hs
    simp only [Prod.mk.injEq] at hs
    obtain ⟨rfl, rfl⟩ := hs
    have HT := Lib.hid (isTask_any t w false (decide_eq_false c1))
    have HH := Lib.hid h
    clear h hf c1
    go_enter Try.func20, Try.ntmps20
    go_wp2_with fail
    refine HT.out.mono ?_
    rintro e w1 ⟨rfl, rfl⟩
    go_wp2
    go_ret
    exact ⟨rfl, HH.out, OnS.refl _ _⟩
  rw [if_neg c1] at hs
  have c1 := Classical.not_not.1 c1
  have HT := Lib.hid (isTask_any t w true (decide_eq_true c1))
  by_cases c2 : ¬ (1 ≤ p ∧ p ≤ 16)
  · rw [if_pos c2] at hs
    simp only [Prod.mk.injEq] at hs
    obtain ⟨rfl, rfl⟩ := hs
    have HP := Lib.hid (isPri_any p w false (decide_eq_false c2))
    have HH := Lib.hid h
    clear h hf c1 c2
    go_enter Try.func20, Try.ntmps20
    go_wp2_with fail
    refine HT.out.mono ?_
    rintro e w1 ⟨rfl, rfl⟩
    go_wp2_with fail
    refine HP.out.mono ?_
    rintro e w1 ⟨rfl, rfl⟩
    go_wp2
    go_ret
    exact ⟨rfl, HH.out, OnS.refl _ _⟩
  rw [if_neg c2] at hs
  have c2 := Classical.not_not.1 c2
  have HP := Lib.hid (isPri_any p w true (decide_eq_true c2))
  obtain ⟨X, k, c16, _, _, hX⟩ := h.row
  have hn8 := hf.n8
  have HSB := Lib.hid (hf.setB (t := t) c2).1
  have HSS := Lib.hid hs
  have HF := Lib.hid hf
  have HX := Lib.hid hX
  have HH := Lib.hid h
  obtain ⟨u, hu⟩ : ∃ u : Nat, t - 1 = (u : Int) := ⟨(t - 1).toNat, by unfold isT at c1; omega⟩
  have hu16 : u < 16 := by unfold isT at c1; omega
  have HU := Lib.hid (show t = (u : Int) + 1 by omega)
  clear hf hX h c1 c2 hs
  obtain ⟨n, hn⟩ : ∃ n, S.n = n := ⟨_, rfl⟩
  have HN := Lib.hid hn
  rw [hn] at c16 hn8
  clear hn
  go_enter Try.func20, Try.ntmps20
  go_wp2_with fail
  refine HT.out.mono ?_
  rintro e w1 ⟨rfl, rfl⟩
  go_wp2_with fail
  refine HP.out.mono ?_
  rintro e w1 ⟨rfl, rfl⟩
  go_wp2
  clear c16
  go_loopw [20] (fun i wr => ∃ v : Nat, v ≤ n ∧ i = .int .i64 (v : Int) ∧ (∀ j, j < v → ¬ (over S j p ∧ (S.O j = t ∨ inq S j t))) ∧ Below w.heap.size w wr) (fun i _ => n - (intOf i).toNat)
  case atStart => exact ⟨0, Nat.zero_le _, rfl, fun j hj => absurd hj (by omega), Below.refl _ _⟩
  case round =>
    obtain ⟨v, hv, rfl, hno, hb⟩ := hrel
    have h2 := HH.out.below hb
    have HB := Lib.hid hb
    have HO := Lib.hid hno
    clear hno hb
    by_cases hlt : v < n
    · have hvn : v < S.n := by rw [HN.out]; exact hlt
      obtain rfl := HX.out (by omega)
      obtain ⟨d0, d1, d2, d3⟩ := h2.cells hvn
      have H2 := Lib.hid h2
      have HOV := Lib.hid (over_any S v p (S.O v) (PtrV (q v)))
      obtain ⟨xa, hxa⟩ : ∃ x, S.A v = x := ⟨_, rfl⟩
      obtain ⟨xc, hxc⟩ : ∃ x, S.C v = x := ⟨_, rfl⟩
      obtain ⟨xo, hxo⟩ : ∃ x, S.O v = x := ⟨_, rfl⟩
      obtain ⟨pq, hp⟩ : ∃ x, q v = x := ⟨_, rfl⟩
      rw [hxa] at d0 HOV
      rw [hxc] at d1 HOV
      rw [hxo] at d2 HOV
      rw [hp] at d3 HOV
      have HXO := Lib.hid hxo
      have HPQ := Lib.hid hp
      have HVN := Lib.hid hvn
      clear h2 hxa hxc hxo hp hvn
      go_wp2_with fail
      have hal : Below wr.heap.size wr (wr.alloc (.cells #[.int .i64 xa, .int .i64 xc, .int .i64 xo, PtrV pq] 70)) := (Below.refl wr.heap.size wr).alloc (Nat.le_refl _) _
      have hbox := heap_alloc_new wr (.cells #[.int .i64 xa, .int .i64 xc, .int .i64 xo, PtrV pq] 70)
      have HB2 := Lib.hid (below_trans HB.out hal)
      have H3 := Lib.hid (H2.out.below hal)
      obtain ⟨b3, hb3⟩ : ∃ b3, wr.heap.size = b3 := ⟨_, rfl⟩
      rw [hb3] at hbox ⊢
      generalize wr.alloc (.cells #[.int .i64 xa, .int .i64 xc, .int .i64 xo, PtrV pq] 70) = wa at *
      clear hal hb3 d0 d1 d2 d3 H2 HB
      by_cases c3 : over S v p
      · refine (HOV.out wa true (decide_eq_true c3)).mono ?_
        rintro e w2 ⟨rfl, hb2⟩
        have hbox2 := (hb2.block b3 (lt_of_heap hbox)).trans hbox
        have f1 : w2.cell? ⟨b3, 2, none⟩ = some (.int .i64 xo) := by rw [cell_of_row w2 _ 2 _ 70 (0, 0) hbox2]; rfl
        have f3 : w2.cell? ⟨b3, 3, none⟩ = some (PtrV pq) := by rw [cell_of_row w2 _ 3 _ 70 (0, 0) hbox2]; rfl
        have HB4 := Lib.hid (below_trans HB2.out hb2)
        have H4 := Lib.hid (H3.out.below hb2)
        have HC3 := Lib.hid c3
        clear hbox hbox2 hb2 H3 HB2 c3
        by_cases c4 : xo = t
        · have te : (xo == t) = true := by simpa using c4
          have HC4 := Lib.hid c4
          clear c4
          go_wp2
          go_ret
          have hbad : badB S t p := ⟨v, HVN.out, HC3.out, .inl (HXO.out.trans HC4.out)⟩
          have e2 := HSS.out
          rw [if_pos hbad] at e2
          simp only [Prod.mk.injEq] at e2
          obtain ⟨rfl, rfl⟩ := e2
          exact ⟨rfl, H4.out, .of_below HB4.out⟩
        · have te : (xo == t) = false := by simpa using c4
          have HC4 := Lib.hid c4
          clear c4
          go_wp2_with fail
          by_cases c5 : inq S v t
          · refine (has_any pq 87 (S.bp v) (S.Q v) _ (H4.out.ql HVN.out HPQ.out) (HF.out.gd v HVN.out).len t true (decide_eq_true (pos_inq.2 c5))).mono ?_
            rintro e w5 ⟨rfl, hb5⟩
            have H5 := Lib.hid (H4.out.below hb5)
            have HB5 := Lib.hid (below_trans HB4.out hb5)
            have HC5 := Lib.hid c5
            clear hb5 f1 f3 c5
            go_wp2
            go_ret
            have hbad : badB S t p := ⟨v, HVN.out, HC3.out, .inr HC5.out⟩
            have e2 := HSS.out
            rw [if_pos hbad] at e2
            simp only [Prod.mk.injEq] at e2
            obtain ⟨rfl, rfl⟩ := e2
            exact ⟨rfl, H5.out, .of_below HB5.out⟩
          · refine (has_any pq 87 (S.bp v) (S.Q v) _ (H4.out.ql HVN.out HPQ.out) (HF.out.gd v HVN.out).len t false (decide_eq_false (fun e => c5 (pos_inq.1 e)))).mono ?_
            rintro e w5 ⟨rfl, hb5⟩
            have HB5 := Lib.hid (below_trans HB4.out hb5)
            have HC5 := Lib.hid c5
            clear hb5 f1 f3 c5
            go_wp2
            go_roundw
            case rel =>
              refine ⟨v + 1, by omega, by go_num, fun j hj => ?_, HB5.out⟩
              by_cases e : j = v
              · subst e
                rintro ⟨_, e | e⟩
                · exact HC4.out (by rw [← HXO.out]; exact e)
                · exact HC5.out e
              · exact HO.out j (by omega)
            case measure => simp [intOf]; omega
      · refine (HOV.out wa false (decide_eq_false c3)).mono ?_
        rintro e w2 ⟨rfl, hb2⟩
        have HB4 := Lib.hid (below_trans HB2.out hb2)
        have HC3 := Lib.hid c3
        clear hbox hb2 H3 HB2 c3
        go_wp2
        go_roundw
        case rel =>
          refine ⟨v + 1, by omega, by go_num, fun j hj => ?_, HB4.out⟩
          by_cases e : j = v
          · subst e
            exact fun c => HC3.out c.1
          · exact HO.out j (by omega)
        case measure => simp [intOf]; omega
    · have e : v = n := by omega
      subst e
      have hnb : ¬ badB S t p := fun ⟨j, hj, c⟩ => HO.out j (by rw [HN.out] at hj; exact hj) c
      have e2 := HSS.out
      rw [if_neg hnb] at e2
      simp only [Prod.mk.injEq] at e2
      obtain ⟨rfl, rfl⟩ := e2
      have h3 := h2.setB hu16 HU.out p
      have hz := h2.fza u
      have hc := h2.base hu16
      have HBT := Lib.hid hnb
      have H3 := Lib.hid h3
      have HO3 := Lib.hid ((OnS.of_below (Z := Zp a g q S.n) HB.out).trans (.at_ (p := a) ((Only.refl a wr).setCell (q := ⟨a, u, none⟩) (.inl rfl) (.int .i64 p)) (.inl rfl)))
      clear h2 h3 hnb
      go_wp2_with fail
      refine (settle_any a g q (setB S t p) _ H3.out HSB.out).mono ?_
      rintro e w7 ⟨rfl, h7, ho7⟩
      have H7 := Lib.hid h7
      have HO7 := Lib.hid (HO3.out.trans ho7)
      clear h7 ho7 hc hz
      go_wp2
      go_ret
      exact ⟨rfl, H7.out, HO7.out⟩
end Go.Proofs.Ytmicinenggkmlaa
