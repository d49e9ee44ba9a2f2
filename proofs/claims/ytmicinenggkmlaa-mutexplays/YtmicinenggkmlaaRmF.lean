/- The document's mutexes: pass, Unlock, Drop, Lock. -/
import Derived.Test.YtmicinenggkmlaaRmE
namespace Go.Proofs.Ytmicinenggkmlaa
open Go.RowKit
set_option linter.unusedVariables false
set_option maxRecDepth 100000

set_option maxHeartbeats 3200000 in
theorem rpass_any (m gk go gq : Nat) (r : Nat → Nat) (S : St) (N : Int → Int) (i : Nat) (xi : Int) (w : World) (h : Rx w m gk go gq r S N) (hf : Fine0 S) (hi : i < S.n) (hxi : xi = (i : Int)) (y : Int) (hy : fst (S.Q i) = y) :
    Calls Try.prog 51 #[PtrV m, .int .i64 xi] w fun e w' => e = .returned (.int .i64 y) ∧ Rx w' m gk go gq r (passQ S i) N ∧ OnS (Zd m go r S.n) w w' := by
  subst hxi
  obtain ⟨_, _, XQ, _, _, kQ, _, _, c2, hX⟩ := h.rows
  obtain ⟨_, _, rfl⟩ := hX (by omega)
  have d3 := h.ptr hi
  obtain ⟨p, hp⟩ : ∃ p, r i = p := ⟨_, rfl⟩
  rw [hp] at d3
  have HPQ := Lib.hid hp
  have HL := Lib.hid (h.rq hi hp)
  have HG := Lib.hid (hf.gd i hi)
  have HH := Lib.hid h
  have HI := Lib.hid hi
  have HR := Lib.hid hy
  have hin : i < S.n := hi
  obtain ⟨n, hn⟩ : ∃ n, S.n = n := ⟨_, rfl⟩
  have HN := Lib.hid hn
  rw [hn] at c2 hin
  clear h hf hi hp hy hX hn
  go_enter Try.func51, Try.ntmps51
  go_wp2_with fail
  cases hq : S.Q i with
  | nil =>
    have HQ := Lib.hid hq
    have hr0 : y = 0 := by rw [← HR.out, hq]; rfl
    subst hr0
    rw [hq] at HL
    refine (rtake_none p (S.bp i) w HL.out).mono ?_
    rintro e w2 ⟨rfl, hb⟩
    have HD2 : OnS (Zd m go r S.n) w w2 := .of_below hb
    have h2 : Rx w2 m gk go gq r S N := HH.out.below hb
    have hp2 : ∀ w', Rx w' m gk go gq r { S with O := upd S.O i 0 } N → Rx w' m gk go gq r (passQ S i) N := fun v hv => by rw [passQ_nil HQ.out]; exact hv
    have hal := (Below.refl w2.heap.size w2).alloc (Nat.le_refl _) (.cells #[.int .i64 0, .int .i64 0] 95)
    have h3 := h2.below hal
    have hbox := heap_alloc_new w2 (.cells #[.int .i64 0, .int .i64 0] 95)
    have e2 := h3.own HI.out
    obtain ⟨_, XO3, _, _, kO3, _, _, e1, _, hX3⟩ := h3.rows
    obtain ⟨_, rfl, _⟩ := hX3 (Nat.lt_of_le_of_lt (Nat.zero_le _) HI.out)
    change _ = some (Value.slice _ S.n _) at e1
    rw [HN.out] at e1
    have b1 : (0 : Int) ≤ (i : Int) := by omega
    have b2 : (i : Int) < (n : Int) := by omega
    have ez := h3.fzo (Nat.lt_of_le_of_lt (Nat.zero_le _) HI.out) i
    have HD := Lib.hid (HD2.trans (.of_below hal))
    have H3 := Lib.hid h3
    have HP2 := Lib.hid hp2
    have hgo : go ≠ w2.heap.size := by
      obtain ⟨ds, g1, _⟩ := h3.ho (Nat.lt_of_le_of_lt (Nat.zero_le _) HI.out)
      intro e
      rw [e] at g1
      exact absurd (htype g1 hbox) (by decide)
    have HGO := Lib.hid hgo
    obtain ⟨b3, hb3⟩ : ∃ b3, w2.heap.size = b3 := ⟨_, rfl⟩
    rw [hb3] at hbox HGO
    have f0 : (w2.alloc (.cells #[.int .i64 0, .int .i64 0] 95)).cell? ⟨b3, 0, none⟩ = some (.int .i64 0) := by rw [cell_of_row _ _ 0 _ 95 (0, 0) hbox]; rfl
    clear HD2 h2 hp2 hal h3 hq c2 d3 HR HL HG hX3 hgo hbox
    go_wp2
    generalize w2.alloc (.cells #[.int .i64 0, .int .i64 0] 95) = w3 at *
    go_still_tail 8, (by kernel_rfl)
    change wpList _ _ _ _ _ w3.drew
    have g1 : w3.drew.cell? ⟨m, 1, none⟩ = _ := e1
    have g2 : w3.drew.cell? ⟨go, i, none⟩ = _ := e2
    have g3 : w3.drew.frozen? ⟨go, i, none⟩ = false := ez
    have g0 : w3.drew.cell? ⟨b3, 0, none⟩ = some (.int .i64 0) := f0
    have H4 := Lib.hid (HP2.out _ ((H3.out.below (below_drewN w3 1)).setO HI.out 0))
    have HD4 : OnS (Zd m go r S.n) w w3.drew := HD.out.drewN 1
    have HD4 := Lib.hid (HD4.trans (.at_ (p := go) ((Only.refl go _).setCell (q := ⟨go, i, none⟩) (.inl rfl) (.int .i64 0)) (.inr (.inl ⟨Nat.lt_of_le_of_lt (Nat.zero_le _) HI.out, rfl⟩))))
    have g5 : (w3.drew.setCell ⟨go, i, none⟩ (.int .i64 0)).cell? ⟨b3, 0, none⟩ = some (.int .i64 0) := (World.cell?_of_block (w := w3.drew) (set_keep (fun e => HGO.out e.symm))).trans g0
    change Hid (Rx (w3.drew.setCell ⟨go, i, none⟩ (.int .i64 0)) m gk go gq r (passQ S i) N) at H4
    clear e1 e2 ez f0
    generalize w3.drew = w4 at *
    go_wp2
    go_ret
    exact ⟨rfl, H4.out, HD4.out⟩
  | cons x L =>
    have HQ := Lib.hid hq
    have hr0 : y = x.1 := by rw [← HR.out, hq]; rfl
    subst hr0
    have hln := HG.out.len
    rw [hq] at HL hln
    refine (rtake_some p (S.bp i) x L w HL.out hln).mono ?_
    rintro e w2 ⟨rfl, hl2, ho⟩
    have HD2 : OnS (Zd m go r S.n) w w2 := .at_ ho (by rw [← HPQ.out]; exact zr HI.out)
    have h2 : Rx w2 m gk go gq r { S with Q := upd S.Q i L } N := HH.out.turn HI.out (by rw [HPQ.out]; exact ho) (by rw [HPQ.out]; exact hl2)
    have hp2 : ∀ w', Rx w' m gk go gq r { S with Q := upd S.Q i L, O := upd S.O i x.1 } N → Rx w' m gk go gq r (passQ S i) N := fun v hv => by
      have : passQ S i = { S with Q := upd S.Q i L, O := upd S.O i x.1 } := by unfold passQ; rw [HQ.out]; rfl
      rw [this]; exact hv
    have hal := (Below.refl w2.heap.size w2).alloc (Nat.le_refl _) (.cells #[.int .i64 x.1, .int .i64 x.2] 95)
    have h3 := h2.below hal
    have hbox := heap_alloc_new w2 (.cells #[.int .i64 x.1, .int .i64 x.2] 95)
    have e2 := h3.own HI.out
    obtain ⟨_, XO3, _, _, kO3, _, _, e1, _, hX3⟩ := h3.rows
    obtain ⟨_, rfl, _⟩ := hX3 (Nat.lt_of_le_of_lt (Nat.zero_le _) HI.out)
    change _ = some (Value.slice _ S.n _) at e1
    rw [HN.out] at e1
    have b1 : (0 : Int) ≤ (i : Int) := by omega
    have b2 : (i : Int) < (n : Int) := by omega
    have ez := h3.fzo (Nat.lt_of_le_of_lt (Nat.zero_le _) HI.out) i
    have HD := Lib.hid (HD2.trans (.of_below hal))
    have H3 := Lib.hid h3
    have HP2 := Lib.hid hp2
    have hgo : go ≠ w2.heap.size := by
      obtain ⟨ds, g1, _⟩ := h3.ho (Nat.lt_of_le_of_lt (Nat.zero_le _) HI.out)
      intro e
      rw [e] at g1
      exact absurd (htype g1 hbox) (by decide)
    have HGO := Lib.hid hgo
    obtain ⟨b3, hb3⟩ : ∃ b3, w2.heap.size = b3 := ⟨_, rfl⟩
    rw [hb3] at hbox HGO
    have f0 : (w2.alloc (.cells #[.int .i64 x.1, .int .i64 x.2] 95)).cell? ⟨b3, 0, none⟩ = some (.int .i64 x.1) := by rw [cell_of_row _ _ 0 _ 95 (0, 0) hbox]; rfl
    clear HD2 h2 hp2 hal h3 hq c2 d3 HR HL HG hX3 hgo hbox
    go_wp2
    generalize w2.alloc (.cells #[.int .i64 x.1, .int .i64 x.2] 95) = w3 at *
    go_still_tail 8, (by kernel_rfl)
    change wpList _ _ _ _ _ w3.drew
    have g1 : w3.drew.cell? ⟨m, 1, none⟩ = _ := e1
    have g2 : w3.drew.cell? ⟨go, i, none⟩ = _ := e2
    have g3 : w3.drew.frozen? ⟨go, i, none⟩ = false := ez
    have g0 : w3.drew.cell? ⟨b3, 0, none⟩ = some (.int .i64 x.1) := f0
    have H4 := Lib.hid (HP2.out _ ((H3.out.below (below_drewN w3 1)).setO HI.out x.1))
    have HD4 : OnS (Zd m go r S.n) w w3.drew := HD.out.drewN 1
    have HD4 := Lib.hid (HD4.trans (.at_ (p := go) ((Only.refl go _).setCell (q := ⟨go, i, none⟩) (.inl rfl) (.int .i64 x.1)) (.inr (.inl ⟨Nat.lt_of_le_of_lt (Nat.zero_le _) HI.out, rfl⟩))))
    have g5 : (w3.drew.setCell ⟨go, i, none⟩ (.int .i64 x.1)).cell? ⟨b3, 0, none⟩ = some (.int .i64 x.1) := (World.cell?_of_block (w := w3.drew) (set_keep (fun e => HGO.out e.symm))).trans g0
    change Hid (Rx (w3.drew.setCell ⟨go, i, none⟩ (.int .i64 x.1)) m gk go gq r (passQ S i) N) at H4
    clear e1 e2 ez f0
    generalize w3.drew = w4 at *
    go_wp2
    go_ret
    exact ⟨rfl, H4.out, HD4.out⟩


set_option maxHeartbeats 1600000 in
theorem runlock_any (m_ gk go gq : Nat) (r : Nat → Nat) (S S' : St) (m t y c : Int) (w : World) (h : Rd w m_ gk go gq r S) (hf : Fine S) (hs : unlk S m t = (S', y, c)) :
    Calls Try.prog 19 #[PtrV m_, .int .i64 m, .int .i64 t] w fun e w' => e = .returned (.tuple #[.int .i64 y, .int .i64 c]) ∧ DidR w m_ gk go gq r S.n S' w' := by
  have HRD := Lib.hid h
  obtain ⟨N, hx, hN⟩ := h
  unfold unlk at hs
  by_cases c1 : ¬ isM S m
  · have HM := Lib.hid (rmutex_any m_ gk go gq r S N m w hx false (decide_eq_false c1))
    rw [if_pos (fun e => c1 e.1)] at hs
    simp only [Prod.mk.injEq] at hs
    obtain ⟨rfl, rfl, rfl⟩ := hs
    clear hx hN hf c1
    go_enter Try.func19, Try.ntmps19
    go_wp2_with fail
    refine HM.out.mono ?_
    rintro e w1 ⟨rfl, rfl⟩
    go_wp2
    go_ret2
    exact ⟨rfl, .refl HRD.out⟩
  have c1 := Classical.not_not.1 c1
  have HM := Lib.hid (rmutex_any m_ gk go gq r S N m w hx true (decide_eq_true c1))
  by_cases c2 : ¬ isT t
  · have HT := Lib.hid (ris_any t w false (decide_eq_false c2))
    rw [if_pos (fun e => c2 e.2)] at hs
    simp only [Prod.mk.injEq] at hs
    obtain ⟨rfl, rfl, rfl⟩ := hs
    clear hx hN hf c1 c2
    go_enter Try.func19, Try.ntmps19
    go_wp2_with fail
    refine HM.out.mono ?_
    rintro e w1 ⟨rfl, rfl⟩
    go_wp2_with fail
    refine HT.out.mono ?_
    rintro e w1 ⟨rfl, rfl⟩
    go_wp2
    go_ret2
    exact ⟨rfl, .refl HRD.out⟩
  have c2 := Classical.not_not.1 c2
  have HT := Lib.hid (ris_any t w true (decide_eq_true c2))
  rw [if_neg (fun e => e ⟨c1, c2⟩)] at hs
  obtain ⟨_, XO, _, _, kO, _, _, k1, _, hX⟩ := hx.rows
  obtain ⟨hi, hmi⟩ := ix_of c1
  obtain ⟨_, rfl, _⟩ := hX (by omega)
  obtain ⟨i, hii⟩ : ∃ i, ix m = i := ⟨_, rfl⟩
  rw [hii] at hi hmi hs
  have d2 := hx.own hi
  have hm' : m - 1 = (i : Int) := by omega
  have HX := Lib.hid hx
  have HNN := Lib.hid hN
  have HF := Lib.hid hf
  have HI := Lib.hid hi
  have hn8 := hf.n8
  have hin : i < S.n := hi
  obtain ⟨n, hn⟩ : ∃ n, S.n = n := ⟨_, rfl⟩
  have HN := Lib.hid hn
  rw [hn] at k1 hin hn8
  obtain ⟨xo, hxo⟩ : ∃ x, S.O i = x := ⟨_, rfl⟩
  rw [hxo] at d2 hs
  clear hx hN hf hi hn hxo hX hmi hii c1 c2
  by_cases c3 : xo = t
  · rw [if_neg (fun e => e c3)] at hs
    simp only [Prod.mk.injEq] at hs
    obtain ⟨rfl, rfl, rfl⟩ := hs
    subst c3
    have te : (xo != xo) = false := by simp
    have HP := Lib.hid (rpass_any m_ gk go gq r S N i (i : Int) w HX.out HF.out.toFine0 HI.out rfl _ rfl)
    obtain ⟨y, hy⟩ : ∃ y, fst (S.Q i) = y := ⟨_, rfl⟩
    rw [hy] at HP ⊢
    clear hy
    go_enter Try.func19, Try.ntmps19
    go_wp2_with fail
    refine HM.out.mono ?_
    rintro e w1 ⟨rfl, rfl⟩
    go_wp2_with fail
    refine HT.out.mono ?_
    rintro e w1 ⟨rfl, rfl⟩
    go_wp2_with fail
    refine HP.out.mono ?_
    rintro e w1 ⟨rfl, hx1, ho1⟩
    have HX1 := Lib.hid hx1
    have HO1 := Lib.hid ho1
    clear hx1 ho1 k1 d2
    go_wp2_with fail
    refine (rsettle_to m_ gk go gq r S (passQ S i) N _ HX1.out HNN.out (HF.out.passQ HI.out).1 (HF.out.passQ HI.out).2).mono ?_
    rintro e w2 ⟨rfl, h2⟩
    have H2 := Lib.hid h2
    clear h2
    go_wp2
    go_ret2
    exact ⟨rfl, H2.out.1, HO1.out.trans H2.out.2⟩
  · rw [if_pos c3] at hs
    simp only [Prod.mk.injEq] at hs
    obtain ⟨rfl, rfl, rfl⟩ := hs
    have te : (xo != t) = true := by simpa using c3
    clear c3
    go_enter Try.func19, Try.ntmps19
    go_wp2_with fail
    refine HM.out.mono ?_
    rintro e w1 ⟨rfl, rfl⟩
    go_wp2_with fail
    refine HT.out.mono ?_
    rintro e w1 ⟨rfl, rfl⟩
    go_wp2
    go_ret2
    exact ⟨rfl, .refl HRD.out⟩

set_option maxHeartbeats 1600000 in
theorem rdrop_any (m_ gk go gq : Nat) (r : Nat → Nat) (S S' : St) (t : Int) (b : Bool) (w : World) (h : Rd w m_ gk go gq r S) (hf : Fine S) (hs : drp S t = (S', b)) :
    Calls Try.prog 23 #[PtrV m_, .int .i64 t] w fun e w' => e = .returned (.bool b) ∧ DidR w m_ gk go gq r S.n S' w' := by
  have HRD := Lib.hid h
  obtain ⟨N, hx, hN⟩ := h
  unfold drp at hs
  have HW := Lib.hid (rwaits_any m_ gk go gq r S N t w hx hf.toFine0 _ rfl)
  by_cases c : fi S t < S.n
  · rw [if_pos c] at hs HW
    simp only [Prod.mk.injEq] at hs
    obtain ⟨rfl, rfl⟩ := hs
    obtain ⟨i, hi⟩ : ∃ i, fi S t = i := ⟨_, rfl⟩
    rw [hi] at c HW ⊢
    have t0 : decide ((i : Int) < 0) = false := by simp
    obtain ⟨_, _, XQ, _, _, kQ, _, _, k2, hX⟩ := hx.rows
    obtain ⟨_, _, rfl⟩ := hX (by omega)
    have d3 := hx.ptr c
    obtain ⟨p, hp⟩ : ∃ p, r i = p := ⟨_, rfl⟩
    rw [hp] at d3
    have HPQ := Lib.hid hp
    have HX := Lib.hid hx
    have HF := Lib.hid hf
    have HNN := Lib.hid hN
    have HI := Lib.hid c
    have hin : i < S.n := c
    have HQ := Lib.hid (hx.rq c hp)
    obtain ⟨n, hn⟩ : ∃ n, S.n = n := ⟨_, rfl⟩
    rw [hn] at k2 hin
    clear hx hN hf c hi hX hn hp
    go_enter Try.func23, Try.ntmps23
    go_wp2_with fail
    refine HW.out.mono ?_
    rintro e w1 ⟨rfl, rfl⟩
    go_wp2_with fail
    refine (rremove_any p (S.bp i) (S.Q i) w HQ.out (HF.out.gd i HI.out).len t).mono ?_
    rintro e w2 ⟨rfl, hl2, ho⟩
    generalize decide (pos (S.Q i) t < (S.Q i).length) = dd at *
    have h2 : Rx w2 m_ gk go gq r (outQ S i t) N := HX.out.turn HI.out (by rw [HPQ.out]; exact ho) (by rw [HPQ.out]; exact hl2)
    have H2 := Lib.hid h2
    have HB2 := Lib.hid (OnS.at_ (Z := Zd m_ go r S.n) ho (by rw [← HPQ.out]; exact zr HI.out))
    clear hl2 ho h2 d3 k2
    go_wp2_with fail
    refine (rsettle_to m_ gk go gq r S (outQ S i t) N _ H2.out HNN.out (HF.out.outQ i t).1 (HF.out.outQ i t).2).mono ?_
    rintro e w5 ⟨rfl, h5⟩
    have H5 := Lib.hid h5
    clear h5
    go_wp2
    go_ret
    exact ⟨rfl, H5.out.1, HB2.out.trans H5.out.2⟩
  · rw [if_neg c] at hs HW
    simp only [Prod.mk.injEq] at hs
    obtain ⟨rfl, rfl⟩ := hs
    clear hx hN hf c
    go_enter Try.func23, Try.ntmps23
    go_wp2_with fail
    refine HW.out.mono ?_
    rintro e w1 ⟨rfl, rfl⟩
    go_wp2
    go_ret
    exact ⟨rfl, .refl HRD.out⟩

theorem radd_to (p : Nat) (b : Bool) (L L' : List It) (c : Int) (w : World) (hl : Rq w p b L) (hg : Good b L) (id pri : Int) (hC : addC L id pri = c) (hL : addL b L id pri = L') :
    Calls Try.prog 41 #[.pointer (some ⟨p, 0, none⟩), .int .i64 id, .int .i64 pri] w fun e w' => e = .returned (.int .i64 c) ∧ Rq w' p b L' ∧ Only p w w' := by
  subst hC hL; exact radd_any p b L w hl hg id pri
theorem Rx.ne {w : World} {m gk go gq : Nat} {r : Nat → Nat} {S : St} {N : Int → Int} (h : Rx w m gk go gq r S N) {i p : Nat} (hi : i < S.n) (hp : r i = p) : m ≠ p ∧ gq ≠ p := by
  subst hp
  obtain ⟨ds, h4⟩ := (h.hr i hi).cells
  obtain ⟨cs, _, _, _, _, _, _, h1, _⟩ := h.ha
  obtain ⟨es, h2, _⟩ := h.hq (Nat.lt_of_le_of_lt (Nat.zero_le _) hi)
  exact ⟨fun e => absurd (htype h1 (e ▸ h4)) (by decide), fun e => absurd (htype h2 (e ▸ h4)) (by decide)⟩

set_option maxHeartbeats 3200000 in
theorem rlock_any (m_ gk go gq : Nat) (r : Nat → Nat) (S S' : St) (m t c : Int) (b : Bool) (w : World) (h : Rd w m_ gk go gq r S) (hf : Fine S) (hs : lockL S m t = (S', b, c)) :
    Calls Try.prog 15 #[PtrV m_, .int .i64 m, .int .i64 t] w fun e w' => e = .returned (.tuple #[.bool b, .int .i64 c]) ∧ DidR w m_ gk go gq r S.n S' w' := by
  unfold lockL at hs
  obtain ⟨S1, r1, k1, ht⟩ : ∃ S1 r1 k1, tryL S m t = (S1, r1, k1) := ⟨_, _, _, rfl⟩
  rw [ht] at hs
  simp only at hs
  have HT := Lib.hid (rtry_any m_ gk go gq r S S1 m t k1 r1 w h hf ht)
  cases r1 with
  | true =>
    rw [if_pos (.inl rfl)] at hs
    simp only [Prod.mk.injEq] at hs
    obtain ⟨rfl, rfl, rfl⟩ := hs
    clear h hf ht
    go_enter Try.func15, Try.ntmps15
    go_wp2_with fail
    refine HT.out.mono ?_
    rintro e w1 ⟨rfl, hd⟩
    go_wp2
    go_ret2
    exact ⟨rfl, hd⟩
  | false =>
    by_cases hk : ¬ k1 = 0
    · have tk : (k1 != 0) = true := by simpa using hk
      rw [if_pos (.inr hk)] at hs
      simp only [Prod.mk.injEq] at hs
      obtain ⟨rfl, rfl, rfl⟩ := hs
      clear h hf ht hk
      go_enter Try.func15, Try.ntmps15
      go_wp2_with fail
      refine HT.out.mono ?_
      rintro e w1 ⟨rfl, hd⟩
      go_wp2
      go_ret2
      exact ⟨rfl, hd⟩
    · have hk0 := Classical.not_not.1 hk
      subst hk0
      rw [if_neg (by rintro (e | e); cases e; exact e rfl)] at hs
      obtain ⟨rfl, c1, c2, hw, ho⟩ := tryL_wait ht rfl rfl
      obtain ⟨hi, hmi⟩ := ix_of c1
      have hn8 := hf.n8
      have HF := Lib.hid hf
      have HW := Lib.hid hw
      have HC2 := Lib.hid c2
      obtain ⟨i, hii⟩ : ∃ i, ix m = i := ⟨_, rfl⟩
      rw [hii] at hi hmi ho hs
      have hm' : m - 1 = (i : Int) := by omega
      have HI := Lib.hid hi
      have HO := Lib.hid ho
      have HRC := Lib.hid (fun W N (hW : Rx W m_ gk go gq r S1 N) => rround_any m_ gk go gq r S1 N i (i : Int) t W hW hf.toFine0 hi rfl (by unfold isT at c2; omega) _ rfl)
      clear h hf ht hw c2 hk ho hii c1
      cases hc : circ S1 (S1.O i) t with
      | true =>
        rw [hc] at hs HRC
        rw [if_pos rfl] at hs
        simp only [Prod.mk.injEq] at hs
        obtain ⟨rfl, rfl, rfl⟩ := hs
        have q3 : IntKind.i64.wrap (m - 1) = (i : Int) := by rw [IntWalk.i64_in _ (by omega)]; omega
        clear hc hm' hmi
        go_enter Try.func15, Try.ntmps15
        go_wp2_with fail
        refine HT.out.mono ?_
        rintro e w1 ⟨rfl, hd⟩
        have HD := Lib.hid hd
        obtain ⟨⟨N, hx, hN⟩, _⟩ := hd
        have HX := Lib.hid hx
        clear hx hN
        go_wp2_with fail
        refine (HRC.out _ N HX.out).mono ?_
        rintro e w2 ⟨rfl, rfl⟩
        go_wp2
        go_ret2
        exact ⟨rfl, HD.out⟩
      | false =>
        rw [hc] at hs HRC
        rw [if_neg (by simp)] at hs
        simp only [Prod.mk.injEq] at hs
        obtain ⟨rfl, rfl, rfl⟩ := hs
        have HA := Lib.hid (HF.out.addQ hi HC2.out HW.out HO.out hc)
        have hp16 := HF.out.toFine0.pri HC2.out.1 HC2.out.2
        have hnq : ¬ pos (S1.Q i) t < (S1.Q i).length := fun e => HW.out _ hi (pos_inq.1 e)
        have hac : addC (S1.Q i) t (P S1 t) = 0 := by unfold addC; rw [if_pos ⟨HC2.out, hp16⟩, if_neg hnq]
        have HAC := Lib.hid hac
        have HGD := Lib.hid (HF.out.gd _ hi)
        have hin : i < S1.n := hi
        have q3 : IntKind.i64.wrap (m - 1) = (i : Int) := by rw [IntWalk.i64_in _ (by omega)]; omega
        obtain ⟨n, hn⟩ : ∃ n, S1.n = n := ⟨_, rfl⟩
        rw [hn] at hin hn8
        have HN := Lib.hid hn
        obtain ⟨y, hy⟩ : ∃ y, P S1 t = y := ⟨_, rfl⟩
        rw [hy] at HAC
        have HY := Lib.hid hy
        clear hc hp16 hnq hac hi hn hy hm' hmi
        go_enter Try.func15, Try.ntmps15
        go_wp2_with fail
        refine HT.out.mono ?_
        rintro e w1 ⟨rfl, hd⟩
        obtain ⟨⟨N, hx, hN⟩, hon⟩ := hd
        have HX := Lib.hid hx
        have HNN := Lib.hid hN
        have HON := Lib.hid hon
        obtain ⟨_, _, XQ, _, _, kQ, _, _, c16, hX⟩ := hx.rows
        obtain ⟨_, _, rfl⟩ := hX (by rw [HN.out]; omega)
        rw [HN.out] at c16
        have d3 := hx.ptr HI.out
        obtain ⟨p, hp⟩ : ∃ p, r i = p := ⟨_, rfl⟩
        rw [hp] at d3
        have HPQ := Lib.hid hp
        have HNE := Lib.hid (hx.ne HI.out hp)
        clear hx hN hon hX hp HT
        go_wp2_with fail
        refine (HRC.out _ N HX.out).mono ?_
        rintro e w2 ⟨rfl, rfl⟩
        go_wp2_with fail
        have H2D := Lib.hid (HX.out.below (below_drewN w1 1))
        have hb1 : (0 : Int) ≤ (i : Int) := by omega
        have hb2 : (i : Int) < (n : Int) := by omega
        have HPR := Lib.hid (rpri_any m_ gk go gq r S1 N t w1.drew H2D.out HF.out.toFine0 y (by unfold pri; rw [if_pos HC2.out]; exact HY.out))
        go_region_held3 (fun W => W.cell? ⟨m_, 2, none⟩ = some (.slice (some ⟨gq, 0, none⟩) n kQ) ∧ W.cell? ⟨gq, i, none⟩ = some (PtrV p))
          (first | exact two_below (below_drewN w1 1) ⟨c16, d3⟩ | exact two_only ho6 HNE.out.1 HNE.out.2 (by assumption) | assumption)
          (first
            | (go_at_call 41; refine (radd_to p (S1.bp i) (S1.Q i) _ _ _ (H2D.out.rq HI.out HPQ.out) HGD.out t y HAC.out rfl).mono ?_; rintro en w6 ⟨rfl, hl6, ho6⟩)
            | (go_at_call 42; refine HPR.out.mono ?_; rintro en w5 ⟨rfl, rfl⟩))
        have h6 : Rx w6 m_ gk go gq r (addQ S1 i t) N := by
          unfold addQ
          rw [HY.out]
          exact H2D.out.turn HI.out (by rw [HPQ.out]; exact ho6) (by rw [HPQ.out]; exact hl6)
        have HO6 := Lib.hid (((HON.out.drewN 1).trans (.at_ ho6 (by rw [← HPQ.out]; exact zr HI.out)) : OnS (Zd m_ go r S1.n) w w6))
        have H6 := Lib.hid h6
        clear hl6 ho6 h6 c16 d3
        go_wp2_with fail
        refine (rsettle_to m_ gk go gq r S1 (addQ S1 i t) N _ H6.out HNN.out HA.out.1 HA.out.2).mono ?_
        rintro e w7 ⟨rfl, h7⟩
        have H7 := Lib.hid h7
        clear h7
        go_wp2
        go_ret2
        exact ⟨rfl, H7.out.1, HO6.out.trans H7.out.2⟩
end Go.Proofs.Ytmicinenggkmlaa
