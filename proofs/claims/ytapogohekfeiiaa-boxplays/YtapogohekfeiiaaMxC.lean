/- Contracts of package mbx: Send, Recv. -/
import Derived.Test.YtapogohekfeiiaaMxB
namespace Go.Proofs.Ytapogohekfeiiaa
open Go.RowKit
set_option maxRecDepth 100000

theorem madd_to (s q n c : Nat) (b : Bool) (L : List It) (mp : Bool) (m : Int) (M : List It) (w : World) (h : Bx w s q n c ⟨b, L, mp, m, M⟩) (hg : Gm mp m M) (hc : c < 90000) (msg pri ei : Int) (he : ei = if mp = true then pri else 1) (h1 : 1 ≤ ei) (h2 : ei < 256)
    (h0 : msg ≠ 0) (hw : In64 msg) (hni : msg ∉ ids M) :
    Calls Try.prog 28 #[.pointer (some ⟨s, 0, none⟩), .int .i64 msg, .int .i64 ei] w fun r w' => r = .returned (.tuple #[]) ∧ Bx w' s q n (c + 2) ⟨b, L, mp, m, ins M (plc mp M pri) (msg, pri)⟩ ∧ On3 s q n w w' := by
  obtain ⟨e, rfl⟩ : ∃ e : Nat, ei = (e : Int) := ⟨ei.toNat, by omega⟩
  exact madd_any s q n c b L mp m M w h hg hc msg pri e he (by omega) h0 hw hni

set_option maxHeartbeats 3200000 in
theorem send_any (s q n c : Nat) (S S' : St) (msg pri t k : Int) (w : World) (h : Bx w s q n c S) (hf : Fine S) (hw : In64 msg) (hc : c < 90000) (hs : send S msg pri = (S', t, k)) :
    Calls Try.prog 10 #[.pointer (some ⟨s, 0, none⟩), .int .i64 msg, .int .i64 pri] w fun e w' => e = .returned (.tuple #[.int .i64 t, .int .i64 k]) ∧ Bx w' s q n (c + 2) S' ∧ On3 s q n w w' := by
  have HE := Lib.hid (ensure_ok s q n c S w h)
  have hsn := h.sn
  have hqn := h.qn
  have hsq := h.sq
  obtain ⟨b, L, mp, m, M⟩ := S
  have HX := Lib.hid h
  have HG := Lib.hid hf.g
  have HN := Lib.hid hf.q.len
  have hm1 := hf.m1
  have hm2 := hf.m2
  have HW := Lib.hid hw
  obtain ⟨h1, h2, hh, h3, h4⟩ := h
  simp only at h1 h2 h3 h4 HG HN hm1 hm2
  have d0 := h1.c0
  have d1 := h1.c1
  have d2 := h1.c2
  have d3 := h1.c3
  have lk := h3.look_ok (k := msg) hw
  have H2 := Lib.hid h2
  unfold send at hs
  simp only at hs
  obtain ⟨u, hu⟩ : ∃ u, nxt (0 :: ids M) msg = u := ⟨_, rfl⟩
  rw [hu] at lk
  clear h1 h2 h3 hf hw hu
  cases mp with
  | true =>
    by_cases p1 : pri < 1
    · have t1 : decide (pri < 1) = true := by simpa using p1
      rw [if_pos (.inr ⟨rfl, .inl p1⟩)] at hs
      simp only [Prod.mk.injEq] at hs
      obtain ⟨rfl, rfl, rfl⟩ := hs
      clear p1 h4 lk
      go_enter Try.func10, Try.ntmps10
      go_wp2
      go_ret2
      exact ⟨rfl, HX.out.mono (by omega), On3.refl _ _ _ _⟩
    have t1 : decide (pri < 1) = false := by simpa using p1
    by_cases p2 : m < pri
    · have t2 : decide (m < pri) = true := by simpa using p2
      rw [if_pos (.inr ⟨rfl, .inr p2⟩)] at hs
      simp only [Prod.mk.injEq] at hs
      obtain ⟨rfl, rfl, rfl⟩ := hs
      clear p1 p2 h4 lk
      go_enter Try.func10, Try.ntmps10
      go_wp2
      go_ret2
      exact ⟨rfl, HX.out.mono (by omega), On3.refl _ _ _ _⟩
    have t2 : decide (m < pri) = false := by simpa using p2
    by_cases z : msg = 0
    · have t0 : (msg == 0) = true := by simpa using z
      rw [if_pos (.inl z)] at hs
      simp only [Prod.mk.injEq] at hs
      obtain ⟨rfl, rfl, rfl⟩ := hs
      clear z
      go_enter Try.func10, Try.ntmps10
      go_wp2
      go_ret2
      exact ⟨rfl, HX.out.mono (by omega), On3.refl _ _ _ _⟩
    have t0 : (msg == 0) = false := by simpa using z
    have hb : ¬ (msg = 0 ∨ (true = true ∧ (pri < 1 ∨ m < pri))) := by
      rintro (h | ⟨h, h | h⟩)
      · exact z h
      · exact p1 h
      · exact p2 h
    rw [if_neg hb] at hs
    by_cases z2 : msg ∈ ids M
    · have e2 : hh msg = true := by rw [h4 msg z]; simpa using z2
      rw [if_pos z2] at hs
      simp only [Prod.mk.injEq] at hs
      obtain ⟨rfl, rfl, rfl⟩ := hs
      rw [e2] at lk
      clear z hb z2 h4
      go_enter Try.func10, Try.ntmps10
      go_wp2
      go_ret2
      exact ⟨rfl, HX.out.mono (by omega), On3.refl _ _ _ _⟩
    have e2 : hh msg = false := by rw [h4 msg z]; simpa using z2
    rw [e2] at lk
    rw [if_neg z2] at hs
    have HZ := Lib.hid z
    have HZ2 := Lib.hid z2
    clear z hb z2 e2 h4
    cases L with
    | cons x L =>
      simp only [Prod.mk.injEq] at hs
      obtain ⟨rfl, rfl, rfl⟩ := hs
      have HT := Lib.hid (take_some q b x L w H2.out HN.out)
      go_enter Try.func10, Try.ntmps10
      go_wp2_with fail
      refine HE.out.mono ?_
      rintro e w1 ⟨rfl, rfl⟩
      go_wp2_with fail
      refine HT.out.mono ?_
      rintro e w1 ⟨rfl, hl1, ho1⟩
      have HB1 := Lib.hid ((HX.out.turn ho1 hl1).alloc (.cells #[.int .i64 x.1, .int .i64 x.2] 50))
      have HO1 := Lib.hid ((On3.at_q (s := s) (n := n) ho1).alloc (.cells #[.int .i64 x.1, .int .i64 x.2] 50))
      have hx := box_new w1 50 (.int .i64 x.1) (.int .i64 x.2)
      have q0 := hx.c0
      clear hl1 ho1 hx HT HE lk d1 d2 d3 d0
      go_wp2
      go_ret2
      exact ⟨rfl, HB1.out.mono (by omega), HO1.out⟩
    | nil =>
      simp only [Prod.mk.injEq] at hs
      obtain ⟨rfl, rfl, rfl⟩ := hs
      have HT := Lib.hid (take_none q b w H2.out)
      go_enter Try.func10, Try.ntmps10
      go_wp2_with fail
      refine HE.out.mono ?_
      rintro e w1 ⟨rfl, rfl⟩
      go_wp2_with fail
      refine HT.out.mono ?_
      rintro e w1 ⟨rfl, hb1⟩
      have hb2 := hb1.alloc hb1.size (.cells #[.int .i64 0, .int .i64 0] 50)
      have HB1 := Lib.hid (HX.out.below hb2)
      have HO1 := Lib.hid (On3.of_below (s := s) (q := q) (n := n) hb2)
      clear hb1 hb2 HT HE lk d1 d2 d3 d0
      go_wp2_with fail
      generalize w1.alloc (.cells #[.int .i64 0, .int .i64 0] 50) = w2 at *
      refine (madd_to s q n c b [] true m M w2 HB1.out HG.out hc msg pri pri (by rw [if_pos rfl]) (by omega) (by omega) HZ.out HW.out HZ2.out).mono ?_
      rintro e w3 ⟨rfl, h5, ho5⟩
      have H5 := Lib.hid h5
      have HO5 := Lib.hid (HO1.out.trans ho5)
      clear h5 ho5 HB1 HO1
      go_wp2
      go_ret2
      exact ⟨rfl, H5.out, HO5.out⟩
  | false =>
    by_cases z : msg = 0
    · have t0 : (msg == 0) = true := by simpa using z
      rw [if_pos (.inl z)] at hs
      simp only [Prod.mk.injEq] at hs
      obtain ⟨rfl, rfl, rfl⟩ := hs
      clear z
      go_enter Try.func10, Try.ntmps10
      go_wp2
      go_ret2
      exact ⟨rfl, HX.out.mono (by omega), On3.refl _ _ _ _⟩
    have t0 : (msg == 0) = false := by simpa using z
    have hb : ¬ (msg = 0 ∨ (false = true ∧ (pri < 1 ∨ m < pri))) := by
      rintro (h | ⟨h, _⟩)
      · exact z h
      · cases h
    rw [if_neg hb] at hs
    by_cases z2 : msg ∈ ids M
    · have e2 : hh msg = true := by rw [h4 msg z]; simpa using z2
      rw [if_pos z2] at hs
      simp only [Prod.mk.injEq] at hs
      obtain ⟨rfl, rfl, rfl⟩ := hs
      rw [e2] at lk
      clear z hb z2 h4
      go_enter Try.func10, Try.ntmps10
      go_wp2
      go_ret2
      exact ⟨rfl, HX.out.mono (by omega), On3.refl _ _ _ _⟩
    have e2 : hh msg = false := by rw [h4 msg z]; simpa using z2
    rw [e2] at lk
    rw [if_neg z2] at hs
    have HZ := Lib.hid z
    have HZ2 := Lib.hid z2
    clear z hb z2 e2 h4
    cases L with
    | cons x L =>
      simp only [Prod.mk.injEq] at hs
      obtain ⟨rfl, rfl, rfl⟩ := hs
      have HT := Lib.hid (take_some q b x L w H2.out HN.out)
      go_enter Try.func10, Try.ntmps10
      go_wp2_with fail
      refine HE.out.mono ?_
      rintro e w1 ⟨rfl, rfl⟩
      go_wp2_with fail
      refine HT.out.mono ?_
      rintro e w1 ⟨rfl, hl1, ho1⟩
      have HB1 := Lib.hid ((HX.out.turn ho1 hl1).alloc (.cells #[.int .i64 x.1, .int .i64 x.2] 50))
      have HO1 := Lib.hid ((On3.at_q (s := s) (n := n) ho1).alloc (.cells #[.int .i64 x.1, .int .i64 x.2] 50))
      have hx := box_new w1 50 (.int .i64 x.1) (.int .i64 x.2)
      have q0 := hx.c0
      clear hl1 ho1 hx HT HE lk d1 d2 d3 d0
      go_wp2
      go_ret2
      exact ⟨rfl, HB1.out.mono (by omega), HO1.out⟩
    | nil =>
      simp only [Prod.mk.injEq] at hs
      obtain ⟨rfl, rfl, rfl⟩ := hs
      have HT := Lib.hid (take_none q b w H2.out)
      go_enter Try.func10, Try.ntmps10
      go_wp2_with fail
      refine HE.out.mono ?_
      rintro e w1 ⟨rfl, rfl⟩
      go_wp2_with fail
      refine HT.out.mono ?_
      rintro e w1 ⟨rfl, hb1⟩
      have hb2 := hb1.alloc hb1.size (.cells #[.int .i64 0, .int .i64 0] 50)
      have HB1 := Lib.hid (HX.out.below hb2)
      have HO1 := Lib.hid (On3.of_below (s := s) (q := q) (n := n) hb2)
      clear hb1 hb2 HT HE lk d1 d2 d3 d0
      go_wp2_with fail
      generalize w1.alloc (.cells #[.int .i64 0, .int .i64 0] 50) = w2 at *
      refine (madd_to s q n c b [] false m M w2 HB1.out HG.out hc msg pri 1 (by simp) (by omega) (by omega) HZ.out HW.out HZ2.out).mono ?_
      rintro e w3 ⟨rfl, h5, ho5⟩
      have H5 := Lib.hid h5
      have HO5 := Lib.hid (HO1.out.trans ho5)
      clear h5 ho5 HB1 HO1
      go_wp2
      go_ret2
      exact ⟨rfl, H5.out, HO5.out⟩

set_option maxHeartbeats 1600000 in
theorem recv_any (s q n c : Nat) (S S' : St) (id pri r k : Int) (o : Bool) (w : World) (h : Bx w s q n c S) (hf : Fine S) (hc : c < 90000) (hs : recv S id pri = (S', r, o, k)) :
    Calls Try.prog 12 #[.pointer (some ⟨s, 0, none⟩), .int .i64 id, .int .i64 pri] w fun e w' => e = .returned (.tuple #[.int .i64 r, .bool o, .int .i64 k]) ∧ Bx w' s q n (c + 1) S' ∧ On3 s q n w w' := by
  obtain ⟨b, L, mp, m, M⟩ := S
  unfold recv at hs
  cases M with
  | cons x M =>
    simp only [Prod.mk.injEq] at hs
    obtain ⟨rfl, rfl, rfl, rfl⟩ := hs
    have HP := Lib.hid (poll_any s q n c ⟨b, L, mp, m, x :: M⟩ _ _ _ w h hf hc rfl)
    clear h hf
    go_enter Try.func12, Try.ntmps12
    go_wp2_with fail
    refine HP.out.mono ?_
    rintro e w1 ⟨rfl, h1, ho⟩
    have H1 := Lib.hid h1
    have HO := Lib.hid ho
    clear h1 ho
    go_wp2
    go_ret3
    exact ⟨rfl, H1.out, HO.out⟩
  | nil =>
    simp only [Prod.mk.injEq] at hs
    obtain ⟨rfl, rfl, rfl, rfl⟩ := hs
    have HP := Lib.hid (poll_any s q n c ⟨b, L, mp, m, []⟩ _ _ _ w h hf hc rfl)
    have HG := Lib.hid hf.q
    clear h hf
    go_enter Try.func12, Try.ntmps12
    go_wp2_with fail
    refine HP.out.mono ?_
    rintro e w1 ⟨rfl, h1, ho⟩
    clear HP
    have HX := Lib.hid h1
    have HO := Lib.hid ho
    have d0 := h1.k.c0
    clear h1 ho
    go_wp2_with fail
    refine (ensure_ok s q n _ _ w1 HX.out).mono ?_
    rintro e w2 ⟨rfl, rfl⟩
    go_wp2_with fail
    refine (add_any q b L w1 HX.out.l HG.out id pri).mono ?_
    rintro e w3 ⟨rfl, hl3, ho3⟩
    have HX3 := Lib.hid (HX.out.turn ho3 hl3)
    have HO3 := Lib.hid (HO.out.trans (.at_q ho3))
    clear hl3 ho3 d0
    go_wp2
    go_ret3
    exact ⟨rfl, HX3.out, HO3.out⟩
end Go.Proofs.Ytapogohekfeiiaa
