/- The document's mutexes: SetBase, Held, Free. -/
import Derived.Test.YtmicinenggkmlaaRmF
import Derived.Test.YtmicinenggkmlaaMtH
namespace Go.Proofs.Ytmicinenggkmlaa
open Go.RowKit
set_option linter.unusedVariables false
set_option maxRecDepth 100000

set_option maxHeartbeats 3200000 in
theorem rsbase_any (m gk go gq : Nat) (r : Nat → Nat) (S S' : St) (t p c : Int) (w : World) (h : Rd w m gk go gq r S) (hf : Fine S) (hs : sbase S t p = (S', c)) :
    Calls Try.prog 21 #[PtrV m, .int .i64 t, .int .i64 p] w fun e w' => e = .returned (.int .i64 c) ∧ DidR w m gk go gq r S.n S' w' := by
  have HRD := Lib.hid h
  obtain ⟨N, hx, hN⟩ := h
  unfold sbase at hs
  by_cases c1 : ¬ isT t
  · rw [if_pos c1] at hs
    simp only [Prod.mk.injEq] at hs
    obtain ⟨rfl, rfl⟩ := hs
    have HT := Lib.hid (ris_any t w false (decide_eq_false c1))
    clear hx hN hf c1
    go_enter Try.func21, Try.ntmps21
    go_wp2_with fail
    refine HT.out.mono ?_
    rintro e w1 ⟨rfl, rfl⟩
    go_wp2
    go_ret
    exact ⟨rfl, .refl HRD.out⟩
  rw [if_neg c1] at hs
  have c1 := Classical.not_not.1 c1
  have HT := Lib.hid (ris_any t w true (decide_eq_true c1))
  by_cases c2 : ¬ (1 ≤ p ∧ p ≤ 16)
  · rw [if_pos c2] at hs
    simp only [Prod.mk.injEq] at hs
    obtain ⟨rfl, rfl⟩ := hs
    clear hx hN hf c1
    by_cases c3 : p < 1
    · have t1 := decide_eq_true c3
      clear c2
      go_enter Try.func21, Try.ntmps21
      go_wp2_with fail
      refine HT.out.mono ?_
      rintro e w1 ⟨rfl, rfl⟩
      go_wp2
      go_ret
      exact ⟨rfl, .refl HRD.out⟩
    · have t1 := decide_eq_false c3
      have c4 : 16 < p := by omega
      have t2 := decide_eq_true c4
      clear c2
      go_enter Try.func21, Try.ntmps21
      go_wp2_with fail
      refine HT.out.mono ?_
      rintro e w1 ⟨rfl, rfl⟩
      go_wp2
      go_ret
      exact ⟨rfl, .refl HRD.out⟩
  rw [if_neg c2] at hs
  have c2 := Classical.not_not.1 c2
  have t1 : decide (p < 1) = false := by simp; omega
  have t2 : decide (16 < p) = false := by simp; omega
  have t3 : ¬ p < 1 := by omega
  have t4 : ¬ 16 < p := by omega
  obtain ⟨XK, XO, XQ, kK, kO, kQ, k0, k1, k2, hX⟩ := hx.rows
  have hn8 := hf.n8
  have HSB := Lib.hid (hf.setB (t := t) c2)
  have HSS := Lib.hid hs
  have HF := Lib.hid hf
  have HX := Lib.hid hX
  have HH := Lib.hid hx
  have HNN := Lib.hid hN
  obtain ⟨u, hu⟩ : ∃ u : Nat, t = (u : Int) := ⟨t.toNat, by unfold isT at c1; omega⟩
  have hu0 : u ≠ 0 := by unfold isT at c1; omega
  have hu17 : u < 17 := by unfold isT at c1; omega
  subst hu
  clear hf hX hx hN c1 c2 hs
  obtain ⟨n, hn⟩ : ∃ n, S.n = n := ⟨_, rfl⟩
  have HN := Lib.hid hn
  rw [hn] at k0 k1 k2 hn8
  clear hn
  go_enter Try.func21, Try.ntmps21
  go_wp2_with fail
  refine HT.out.mono ?_
  rintro e w1 ⟨rfl, rfl⟩
  go_wp2
  go_loopw [7] (fun i wr => ∃ v : Nat, v ≤ n ∧ i = .int .i64 (v : Int) ∧ (∀ j, j < v → ¬ (over S j p ∧ (S.O j = (u : Int) ∨ inq S j (u : Int)))) ∧ w = wr) (fun i _ => n - (intOf i).toNat)
  case atStart => exact ⟨0, Nat.zero_le _, rfl, fun j hj => absurd hj (by omega), rfl⟩
  case round =>
    obtain ⟨v, hv, rfl, hno, rfl⟩ := hrel
    have HO := Lib.hid hno
    clear hno
    by_cases hlt : v < n
    · have hvn : v < S.n := by rw [HN.out]; exact hlt
      obtain ⟨rfl, rfl, rfl⟩ := HX.out (by omega)
      obtain ⟨d0, d1⟩ := HH.out.kind hvn
      have d2 := HH.out.own hvn
      have d3 := HH.out.ptr hvn
      have hov : over S v p ↔ S.A v = 3 ∧ p < S.C v := Iff.rfl
      obtain ⟨xa, hxa⟩ : ∃ x, S.A v = x := ⟨_, rfl⟩
      obtain ⟨xc, hxc⟩ : ∃ x, S.C v = x := ⟨_, rfl⟩
      obtain ⟨xo, hxo⟩ : ∃ x, S.O v = x := ⟨_, rfl⟩
      obtain ⟨pq, hp⟩ : ∃ x, r v = x := ⟨_, rfl⟩
      have HQ := Lib.hid (HH.out.rq hvn hp)
      rw [hxa, hxc] at hov
      rw [hxa] at d0
      rw [hxc] at d1
      rw [hxo] at d2
      rw [hp] at d3
      have HXO := Lib.hid hxo
      have HVN := Lib.hid hvn
      have HOV := Lib.hid hov
      clear hxa hxc hxo hp hvn hov
      by_cases c3 : xa = 3
      · subst c3
        by_cases c4 : p < xc
        · have t5 := decide_eq_true c4
          have HC4 := Lib.hid c4
          by_cases c5 : xo = (u : Int)
          · have te : (xo == (u : Int)) = true := by simpa using c5
            have HC5 := Lib.hid c5
            clear c4 c5
            go_wp2
            go_ret
            have hbad : badB S (u : Int) p := ⟨v, HVN.out, HOV.out.2 ⟨by simp, HC4.out⟩, .inl (HXO.out.trans HC5.out)⟩
            have e2 := HSS.out
            rw [if_pos hbad] at e2
            simp only [Prod.mk.injEq] at e2
            obtain ⟨rfl, rfl⟩ := e2
            exact ⟨rfl, .refl HRD.out⟩
          · have te : (xo == (u : Int)) = false := by simpa using c5
            have HC5 := Lib.hid c5
            by_cases c6 : inq S v (u : Int)
            · have HA := Lib.hid (rat_any pq (S.bp v) (S.Q v) w HQ.out (HF.out.gd v HVN.out).len (u : Int) _ (if_pos (pos_inq.2 c6)))
              obtain ⟨z, hz⟩ : ∃ z, pos (S.Q v) (u : Int) = z := ⟨_, rfl⟩
              rw [hz] at HA
              have tz : decide ((0 : Int) ≤ (z : Int)) = true := by simp
              have HC6 := Lib.hid c6
              clear c4 c5 c6 hz
              go_wp2_with fail
              refine HA.out.mono ?_
              rintro e w5 ⟨rfl, rfl⟩
              go_wp2
              go_ret
              have hbad : badB S (u : Int) p := ⟨v, HVN.out, HOV.out.2 ⟨by simp, HC4.out⟩, .inr HC6.out⟩
              have e2 := HSS.out
              rw [if_pos hbad] at e2
              simp only [Prod.mk.injEq] at e2
              obtain ⟨rfl, rfl⟩ := e2
              exact ⟨rfl, .refl HRD.out⟩
            · have HA := Lib.hid (rat_any pq (S.bp v) (S.Q v) w HQ.out (HF.out.gd v HVN.out).len (u : Int) _ (if_neg (fun e => c6 (pos_inq.1 e))))
              have HC6 := Lib.hid c6
              clear c4 c5 c6
              go_wp2_with fail
              refine HA.out.mono ?_
              rintro e w5 ⟨rfl, rfl⟩
              go_wp2
              go_roundw
              case rel =>
                refine ⟨v + 1, by omega, by go_num, fun j hj => ?_, trivial⟩
                by_cases e : j = v
                · subst e
                  rintro ⟨_, e | e⟩
                  · exact HC5.out (by rw [← HXO.out]; exact e)
                  · exact HC6.out e
                · exact HO.out j (by omega)
              case measure => simp [intOf]; omega
        · have t5 := decide_eq_false c4
          have HC4 := Lib.hid c4
          clear c4
          go_wp2
          go_roundw
          case rel =>
            refine ⟨v + 1, by omega, by go_num, fun j hj => ?_, trivial⟩
            by_cases e : j = v
            · subst e
              exact fun c => HC4.out (HOV.out.1 c.1).2
            · exact HO.out j (by omega)
          case measure => simp [intOf]; omega
      · have t5 : (xa == 3) = false := by simpa using c3
        have HC3 := Lib.hid c3
        clear c3
        go_wp2
        go_roundw
        case rel =>
          refine ⟨v + 1, by omega, by go_num, fun j hj => ?_, trivial⟩
          by_cases e : j = v
          · subst e
            exact fun c => HC3.out (HOV.out.1 c.1).1
          · exact HO.out j (by omega)
        case measure => simp [intOf]; omega
    · have e : v = n := by omega
      subst e
      have hnb : ¬ badB S (u : Int) p := fun ⟨j, hj, c⟩ => HO.out j (by rw [HN.out] at hj; exact hj) c
      have e2 := HSS.out
      rw [if_neg hnb] at e2
      simp only [Prod.mk.injEq] at e2
      obtain ⟨rfl, rfl⟩ := e2
      have hz := HH.out.fzm (3 + u)
      have hc := HH.out.base hu0 hu17
      have H3 := Lib.hid (HH.out.setB hu0 hu17 p)
      have HO3 := Lib.hid (OnS.at_ (Z := Zd m go r S.n) (p := m) ((Only.refl m w).setCell (q := ⟨m, 3 + u, none⟩) (.inl rfl) (.int .i64 p)) (.inl rfl))
      have hu1 : (u : Int) < 17 := by omega
      clear hnb
      go_wp2_with fail
      refine (rsettle_to m gk go gq r S (setB S (u : Int) p) N _ H3.out HNN.out HSB.out.1 HSB.out.2).mono ?_
      rintro e w7 ⟨rfl, h7⟩
      have H7 := Lib.hid h7
      clear h7 hc hz
      go_wp2
      go_ret
      exact ⟨rfl, H7.out.1, HO3.out.trans H7.out.2⟩

set_option maxHeartbeats 1600000 in
theorem rheld_any (m gk go gq : Nat) (r : Nat → Nat) (S : St) (N : Int → Int) (t : Int) (w : World) (h : Rx w m gk go gq r S N) (hf : Fine0 S) :
    Calls Try.prog 60 #[PtrV m, .int .i64 t] w fun e w' => ∃ v, e = .returned v ∧ Ow w' w.heap.size v (held S t) ∧ Below w.heap.size w w' := by
  unfold held
  obtain ⟨XK, XO, _, kK, kO, _, k0, k1, _, hX⟩ := h.rows
  have hn8 := hf.n8
  have HX := Lib.hid hX
  have HH := Lib.hid h
  by_cases c : isT t
  · rw [if_pos c]
    have HT := Lib.hid (fun W => ris_any t W true (decide_eq_true c))
    clear hf hX h c
    obtain ⟨n, hn⟩ : ∃ n, S.n = n := ⟨_, rfl⟩
    have HN := Lib.hid hn
    rw [hn] at k0 k1 hn8
    clear hn
    go_enter Try.func60, Try.ntmps60
    go_wp2
    clear k0 k1
    go_loopw [6, 5] (fun i y wr => ∃ (v : Nat) (vo : Value), v ≤ n ∧ i = .int .i64 (v : Int) ∧ y = vo ∧ Ow wr w.heap.size vo (hel S t v) ∧ Below w.heap.size w wr) (fun i _ _ => n - (intOf i).toNat)
    case atStart => exact ⟨0, _, Nat.zero_le _, rfl, rfl, ow_nil _ _, Below.refl _ _⟩
    case round =>
      obtain ⟨v, vo, hv, rfl, rfl, hown, hb⟩ := hrel
      have h2 := HH.out.below hb
      obtain ⟨X1, k1', rfl, _, _⟩ := K.own_form hown
      have HO := Lib.hid hown
      have HB := Lib.hid hb
      obtain ⟨XK2, XO2, _, kK2, kO2, _, k0, k1, _, hX2⟩ := h2.rows
      rw [HN.out] at k0 k1
      by_cases hlt : v < n
      · have hvn : v < S.n := by rw [HN.out]; exact hlt
        obtain ⟨rfl, rfl, _⟩ := hX2 (by omega)
        have d2 := h2.own hvn
        have hl8 := hel_len S t v
        have HHE := Lib.hid (show hel S t (v + 1) = if S.O v = t then hel S t v ++ [(v : Int) + 1] else hel S t v from rfl)
        obtain ⟨L, hL⟩ : ∃ L, hel S t v = L := ⟨_, rfl⟩
        rw [hL] at HO HHE hl8 ⊢
        obtain ⟨n1, hn1⟩ : ∃ n1, L.length = n1 := ⟨_, rfl⟩
        have HL := Lib.hid hn1
        rw [hn1] at hl8 ⊢
        obtain ⟨xo, hxo⟩ : ∃ x, S.O v = x := ⟨_, rfl⟩
        rw [hxo] at d2 HHE
        by_cases c : xo = t
        · rw [if_pos c] at HHE
          subst c
          have te : (xo == xo) = true := by simp
          obtain ⟨wb, hwb⟩ : ∃ wb, wr.alloc (.cells #[.int .i64 ((v : Int) + 1)] 3) = wb := ⟨_, rfl⟩
          have HBB := Lib.hid (show Below wr.heap.size wr wb by rw [← hwb]; exact (Below.refl _ _).alloc (Nat.le_refl _) _)
          have src := K.sr_one K.ci wr 3 ((v : Int) + 1)
          rw [show (K.ci ((v : Int) + 1)).toArray = #[.int .i64 ((v : Int) + 1)] from rfl, hwb] at src
          have hownb := K.own_below HO.out HBB.out
          rw [HL.out] at hownb
          have hbs : w.heap.size ≤ wb.heap.size := by have := HB.out.size; have := HBB.out.size; omega
          have HBS := Lib.hid hbs
          have b2 : n1 + 1 ≤ 100000 := by omega
          have HTW := HT.out wr
          clear hown hb hl8 hbs h2 hL hn1 hxo hX2
          go_wp2_with (first
            | (go_at_call 50; refine HTW.mono ?_; rintro e w1 ⟨rfl, rfl⟩)
            | (refine K.wpList_append_row K.ki (by decide) rfl _ _ rfl w.heap.size (.slice X1 n1 k1') L [(v : Int) + 1] n1 HL.out rfl hownb _ 1 1 rfl rfl src b2 HBS.out (n1 + 1) rfl ?_
               intro X7 k7 w7 hown7 hgr7
               have HO7 := Lib.hid hown7
               have hb7 : Below w.heap.size w w7 := (HB.out.trans (HBB.out.mono HB.out.size)).grown hgr7 HBS.out (fun k hk => (hownb.lt k hk).1)
               have HB7 := Lib.hid hb7
               clear hown7 hgr7 hb7))
          go_roundw
          case rel => exact ⟨v + 1, _, by omega, by go_num, rfl, by unfold Ow; rw [HHE.out, List.length_append, HL.out]; exact HO7.out, HB7.out⟩
          case measure => simp [intOf]; omega
        · rw [if_neg c] at HHE
          have te : (xo == t) = false := by simpa using c
          have HTW := HT.out wr
          have HO2 := Lib.hid HO.out
          unfold Ow at HO2
          rw [HL.out] at HO2
          clear hown hb hl8 h2 hL hn1 hxo c hX2
          go_wp2_with fail
          refine HTW.mono ?_
          rintro e w1 ⟨rfl, rfl⟩
          go_wp2
          go_roundw
          case rel => exact ⟨v + 1, _, by omega, by go_num, rfl, by unfold Ow; rw [HHE.out, HL.out]; exact HO2.out, HB.out⟩
          case measure => simp [intOf]; omega
      · have HE := Lib.hid (show v = n by omega)
        clear h2 hown hb hX2
        go_wp2
        go_ret
        exact ⟨_, rfl, by rw [HN.out, ← HE.out]; exact HO.out, HB.out⟩
  · rw [if_neg c]
    have HT := Lib.hid (fun W => ris_any t W false (decide_eq_false c))
    clear hf hX h c
    obtain ⟨n, hn⟩ : ∃ n, S.n = n := ⟨_, rfl⟩
    have HN := Lib.hid hn
    rw [hn] at k0 k1 hn8
    clear hn
    go_enter Try.func60, Try.ntmps60
    go_wp2
    go_loopw [6, 5] (fun i y wr => i = .int .i64 0 ∧ y = .slice none 0 0 ∧ w = wr) (fun _ _ _ => 0)
    case atStart => exact ⟨rfl, rfl, rfl⟩
    case round =>
      obtain ⟨rfl, rfl, rfl⟩ := hrel
      by_cases h0 : 0 < n
      · have h1 : (0 : Int) < (n : Int) := by omega
        go_wp2_with fail
        refine (HT.out w).mono ?_
        rintro e w1 ⟨rfl, rfl⟩
        go_wp2
        go_ret
        exact ⟨_, rfl, ow_nil _ _, Below.refl _ _⟩
      · have h1 : ¬ (0 : Int) < (n : Int) := by omega
        have e : n = 0 := by omega
        subst e
        go_wp2
        go_ret
        exact ⟨_, rfl, ow_nil _ _, Below.refl _ _⟩

set_option maxHeartbeats 3200000 in
theorem rfree_any (m gk go gq : Nat) (r : Nat → Nat) (S : St) (t : Int) (w : World) (h : Rd w m gk go gq r S) (hf : Fine S) :
    Calls Try.prog 26 #[PtrV m, .int .i64 t] w fun e w' => ∃ v, e = .returned v ∧ Ow w' w.heap.size v (fre S t).2 ∧ DidR w m gk go gq r S.n (fre S t).1 w' := by
  unfold fre
  have hn8 := hf.n8
  have HF := Lib.hid hf
  have HRD := Lib.hid h
  obtain ⟨n, hn⟩ : ∃ n, S.n = n := ⟨_, rfl⟩
  have HN := Lib.hid hn
  rw [hn] at hn8
  obtain ⟨N, hx, hN⟩ := h
  by_cases c : isT t
  · rw [if_pos c]
    have HT := Lib.hid (fun W => ris_any t W true (decide_eq_true c))
    have hzw : ∀ b, Zd m go r S.n b → b < w.heap.size := fun b hb => hx.zlt hb
    have HZW := Lib.hid hzw
    clear hf hx hN c hn hzw
    go_enter Try.func26, Try.ntmps26
    go_wp2
    go_loopw [6, 5] (fun i y wr => ∃ (v : Nat) (vo : Value), v ≤ n ∧ i = .int .i64 (v : Int) ∧ y = vo ∧ Ow wr w.heap.size vo (frk S t v).2 ∧ Rd wr m gk go gq r (frk S t v).1 ∧ OnS (Zd m go r S.n) w wr) (fun i _ _ => n - (intOf i).toNat)
    case atStart => exact ⟨0, _, Nat.zero_le _, rfl, rfl, ow_nil _ _, HRD.out, OnS.refl _ _⟩
    case round =>
      obtain ⟨v, vo, hv, rfl, rfl, hown, hrd, hon⟩ := hrel
      obtain ⟨X1, k1', rfl, _, _⟩ := K.own_form hown
      have HO := Lib.hid hown
      have HR := Lib.hid hrd
      have HON := Lib.hid hon
      obtain ⟨N1, hx1, hN1⟩ := hrd
      have hfn := frk_n S t v
      obtain ⟨XK2, XO2, _, kK2, kO2, _, k0, k1, _, hX2⟩ := hx1.rows
      rw [hfn, HN.out] at k0 k1
      have HTW := HT.out wr
      by_cases hlt : v < n
      · have hvn : v < (frk S t v).1.n := by rw [hfn, HN.out]; exact hlt
        have hvS : v < S.n := by rw [HN.out]; exact hlt
        have hFv := HF.out.frk t v (by rw [HN.out]; omega)
        obtain ⟨rfl, rfl, _⟩ := hX2 (Nat.lt_of_le_of_lt (Nat.zero_le _) hvn)
        have d2 := hx1.own hvn
        rw [frk_O S t v v (Nat.le_refl _)] at d2
        have hst : frk S t (v + 1) = if S.O v = t then (passS (frk S t v).1 v, (frk S t v).2 ++ if fst ((frk S t v).1.Q v) = 0 then [] else [fst ((frk S t v).1.Q v)]) else frk S t v := rfl
        have hol : (frk S t v).2.length ≤ v := by
          have := fl_len S (n := (hel S t v).length) (L := hel S t v) rfl
          rw [fl_hel] at this
          exact Nat.le_trans this (hel_len S t v)
        have HST := Lib.hid hst
        obtain ⟨T, hT⟩ : ∃ T, (frk S t v).1 = T := ⟨_, rfl⟩
        obtain ⟨out, hout⟩ : ∃ out, (frk S t v).2 = out := ⟨_, rfl⟩
        rw [hT] at hx1 hvn hfn hFv HST HR hN1
        rw [hout] at HO hol HST ⊢
        obtain ⟨n1, hn1⟩ : ∃ n1, out.length = n1 := ⟨_, rfl⟩
        have HL := Lib.hid hn1
        rw [hn1] at hol ⊢
        have HOO := Lib.hid HO.out
        unfold Ow at HOO
        rw [HL.out] at HOO
        have HPRT := Lib.hid (show (T, out) = frk S t v by rw [← hT, ← hout])
        obtain ⟨xo, hxo⟩ : ∃ x, S.O v = x := ⟨_, rfl⟩
        rw [hxo] at d2 HST
        by_cases c : xo = t
        · rw [if_pos c] at HST
          subst c
          have te : (xo != xo) = false := by simp
          have HP := Lib.hid (rpass_any m gk go gq r T N1 v (v : Int) wr hx1 hFv.toFine0 hvn rfl _ rfl)
          have HFV := Lib.hid hFv
          have HVN := Lib.hid hvn
          have HN1 := Lib.hid hN1
          have HFN := Lib.hid hfn
          rw [hfn] at HP
          obtain ⟨y, hy⟩ : ∃ y, fst (T.Q v) = y := ⟨_, rfl⟩
          rw [hy] at HP HST
          clear hown hon hx1 hN1 hX2 hvn hvS hFv hT hout hn1 hxo hy hst hfn HR
          go_wp2_with fail
          refine HTW.mono ?_
          rintro e w1 ⟨rfl, rfl⟩
          go_wp2_with fail
          refine HP.out.mono ?_
          rintro e w2 ⟨rfl, hx2, ho2⟩
          have HX2 := Lib.hid hx2
          have HO2 := Lib.hid ho2
          clear hx2 ho2 k0 k1 d2
          go_wp2_with fail
          refine (rsettle_to m gk go gq r T (passQ T v) N1 _ HX2.out HN1.out (HFV.out.passQ HVN.out).1 (HFV.out.passQ HVN.out).2).mono ?_
          rintro e w3 ⟨rfl, h3⟩
          have ho3 := h3.2
          rw [show (passQ T v).n = S.n from HFN.out] at ho3
          have HR3 := Lib.hid h3.1
          have HON3 := Lib.hid (HON.out.trans (HO2.out.trans ho3))
          have HOW3 := Lib.hid (own_on (own_on HOO.out HO2.out HZW.out) ho3 HZW.out)
          clear h3 ho3
          by_cases cy : y = 0
          · subst cy
            rw [if_pos rfl, List.append_nil] at HST
            go_wp2
            go_roundw
            case rel => exact ⟨v + 1, _, by omega, by go_num, rfl, by rw [HST.out]; unfold Ow; rw [HL.out]; exact HOW3.out, by rw [HST.out]; exact HR3.out, HON3.out⟩
            case measure => simp [intOf]; omega
          · have ty : (y != 0) = true := by simpa using cy
            rw [if_neg cy] at HST
            clear cy
            obtain ⟨wb, hwb⟩ : ∃ wb, w3.alloc (.cells #[.int .i64 y] 3) = wb := ⟨_, rfl⟩
            have HBB := Lib.hid (show Below w3.heap.size w3 wb by rw [← hwb]; exact (Below.refl _ _).alloc (Nat.le_refl _) _)
            have src := K.sr_one K.ci w3 3 y
            rw [show (K.ci y).toArray = #[.int .i64 y] from rfl, hwb] at src
            have hownb := K.own_below HOW3.out HBB.out
            have hbs : w.heap.size ≤ wb.heap.size := by have := HON3.out.size; have := HBB.out.size; omega
            have HBS := Lib.hid hbs
            have b2 : n1 + 1 ≤ 100000 := by omega
            have HRB := Lib.hid (HR3.out.below HBB.out)
            have HONB := Lib.hid (HON3.out.trans (.of_below HBB.out))
            clear hbs
            go_wp2_with (first
              | (refine K.wpList_append_row K.ki (by decide) rfl _ _ rfl w.heap.size (.slice X1 n1 k1') out [y] n1 HL.out rfl hownb _ 1 1 rfl rfl src b2 HBS.out (n1 + 1) rfl ?_
                 intro X7 k7 w7 hown7 hgr7
                 have HO7 := Lib.hid hown7
                 have hrd7 : Rd w7 m gk go gq r (passS T v) := by
                   obtain ⟨N7, hx7, hN7⟩ := HRB.out
                   refine ⟨N7, hx7.keep fun g cs e hg he => ?_, hN7⟩
                   refine hgr7.block g (lt_of_heap hg) fun hv7 => ?_
                   have hgB := (hownb.lt g hv7.symm).1
                   rcases he with ⟨rfl, rfl⟩ | rfl | ⟨h0, rfl, rfl⟩ | rfl | rfl | ⟨_, rfl⟩
                   · exact own_ne hownb hg (by decide) hv7.symm
                   · exact own_ne hownb hg (by decide) hv7.symm
                   · have := HZW.out g (.inr (.inl ⟨by rw [← HFN.out]; exact h0, rfl⟩))
                     omega
                   · exact own_ne hownb hg (by decide) hv7.symm
                   · exact own_ne hownb hg (by decide) hv7.symm
                   · exact own_ne hownb hg (by decide) hv7.symm
                 have hon7 : OnS (Zd m go r S.n) w w7 := ⟨hgr7.os.trans HONB.out.os, hgr7.tape.trans HONB.out.tape, hgr7.output.trans HONB.out.output, Nat.le_trans HONB.out.size hgr7.size, fun b hb hz => (hgr7.block b (Nat.lt_of_lt_of_le hb HONB.out.size) (fun hv7 => by have := (hownb.lt b hv7.symm).1; omega)).trans (HONB.out.block b hb hz)⟩
                 have HR7 := Lib.hid hrd7
                 have HON7 := Lib.hid hon7
                 clear hown7 hgr7 hrd7 hon7))
            go_roundw
            case rel => exact ⟨v + 1, _, by omega, by go_num, rfl, by rw [HST.out]; unfold Ow; rw [List.length_append, HL.out]; exact HO7.out, by rw [HST.out]; exact HR7.out, HON7.out⟩
            case measure => simp [intOf]; omega
        · rw [if_neg c] at HST
          have te : (xo != t) = true := by simpa using c
          clear hown hon hx1 hN1 hX2 hvn hvS hFv hT hout hn1 hxo c hst hfn
          go_wp2_with fail
          refine HTW.mono ?_
          rintro e w1 ⟨rfl, rfl⟩
          go_wp2
          go_roundw
          case rel => exact ⟨v + 1, _, by omega, by go_num, rfl, by rw [HST.out, ← HPRT.out]; unfold Ow; rw [HL.out]; exact HOO.out, by rw [HST.out, ← HPRT.out]; exact HR.out, HON.out⟩
          case measure => simp [intOf]; omega
      · have HE := Lib.hid (show v = n by omega)
        clear hown hon hx1 hN1 hX2
        go_wp2
        go_ret
        exact ⟨_, rfl, by rw [HN.out, ← HE.out]; exact HO.out, by rw [HN.out, ← HE.out]; exact HR.out, HON.out⟩
  · rw [if_neg c]
    have HT := Lib.hid (fun W => ris_any t W false (decide_eq_false c))
    obtain ⟨XK, XO, _, kK, kO, _, k0, k1, _, hX⟩ := hx.rows
    rw [hn] at k0 k1
    clear hf hX hx hN c hn
    go_enter Try.func26, Try.ntmps26
    go_wp2
    go_loopw [6, 5] (fun i y wr => i = .int .i64 0 ∧ y = .slice none 0 0 ∧ w = wr) (fun _ _ _ => 0)
    case atStart => exact ⟨rfl, rfl, rfl⟩
    case round =>
      obtain ⟨rfl, rfl, rfl⟩ := hrel
      by_cases h0 : 0 < n
      · have h1 : (0 : Int) < (n : Int) := by omega
        go_wp2_with fail
        refine (HT.out w).mono ?_
        rintro e w1 ⟨rfl, rfl⟩
        go_wp2
        go_ret
        exact ⟨_, rfl, ow_nil _ _, .refl HRD.out⟩
      · have h1 : ¬ (0 : Int) < (n : Int) := by omega
        have e : n = 0 := by omega
        subst e
        go_wp2
        go_ret
        exact ⟨_, rfl, ow_nil _ _, .refl HRD.out⟩
end Go.Proofs.Ytmicinenggkmlaa
