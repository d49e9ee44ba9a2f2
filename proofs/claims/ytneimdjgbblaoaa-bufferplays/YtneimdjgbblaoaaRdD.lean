/- The document's message buffer (detentref16): Send, Recv, Drop, Change, New. -/
import Derived.Test.YtneimdjgbblaoaaRdC
import Derived.Great.BuildSlice
namespace Go.Proofs.Ytneimdjgbblaoaa
open Go.RowKit
set_option maxRecDepth 100000

theorem waitR_bad {t : St} {id pri : Int} (h : ¬ ((1 ≤ id ∧ id ≤ 16) ∧ 1 ≤ pri ∧ pri ≤ 16)) : waitR t id pri = (t, -17) := by
  have hc : addC t.R id pri = -17 := by unfold addC; rw [if_neg h]
  have hl : addL false t.R id pri = t.R := by unfold addL; rw [if_neg (fun k => h ⟨k.1, k.2.1⟩)]
  unfold waitR
  rw [hc, hl]
theorem waitS_bad {t : St} {id pri : Int} {x : List Int} (h : ¬ ((1 ≤ id ∧ id ≤ 16) ∧ 1 ≤ pri ∧ pri ≤ 16)) : waitS t id pri x = (t, -17) := by
  have hc : addC t.S id pri = -17 := by unfold addC; rw [if_neg h]
  have hl : addL t.b t.S id pri = t.S := by unfold addL; rw [if_neg (fun k => h ⟨k.1, k.2.1⟩)]
  unfold waitS
  rw [hc, hl, if_neg (by omega)]
section
variable {w : World} {B m g p r : Nat} {t : St}

set_option maxHeartbeats 4000000 in
theorem rsend_any (t' : St) (id pri : Int) (A : Option Addr) (n cap : Nat) (q : Nat → Int) (k : Bool) (x c : Int) (h : Rf w B m g p r t) (hf : Fine t) (hsb : Sd w m g p r A n q) (hs : send t id pri (R.mkm n q) = (t', k, x, c)) :
    Calls Try.prog 12 #[.pointer (some ⟨m, 0, none⟩), .int .i64 id, .int .i64 pri, .slice A n cap] w fun e w' => e = .returned (.tuple #[.bool k, .int .i64 x, .int .i64 c]) ∧ Rf w' B m g p r t' ∧ Et m g p r w w' := by
  rcases send_ways t id pri (R.mkm n q) with ⟨t1, r1, c1, k1, h1, hk, h2⟩ | ⟨h1, hb, hr, h2⟩
  · have HT := Lib.hid (rtrySend_any t1 A n cap q k1 r1 c1 h hf hsb h1)
    rw [h2] at hs
    injection hs with g1 g2
    injection g2 with g2 g3
    injection g3 with g3 g4
    subst g1 g2 g3 g4
    cases k1 with
    | true =>
      clear h hf hsb h1 h2 hk
      go_enter Try.func12, Try.ntmps12
      go_wp2_with fail
      refine HT.out.mono ?_
      rintro e w1 ⟨rfl, hq, hd⟩
      have HQ := Lib.hid hq
      have HD := Lib.hid hd
      clear hq hd HT
      go_wp2
      go_ret3
      exact ⟨rfl, HQ.out, HD.out⟩
    | false =>
      have t1 : (c1 != 0) = true := by rcases hk with hk | hk; cases hk; simpa using hk
      clear h hf hsb h1 h2 hk
      go_enter Try.func12, Try.ntmps12
      go_wp2_with fail
      refine HT.out.mono ?_
      rintro e w1 ⟨rfl, hq, hd⟩
      have HQ := Lib.hid hq
      have HD := Lib.hid hd
      clear hq hd HT
      go_wp2
      go_ret3
      exact ⟨rfl, HQ.out, HD.out⟩
  · have HT := Lib.hid (rtrySend_any t A n cap q false 0 0 h hf hsb h1)
    rw [h2] at hs
    injection hs with g1 g2
    injection g2 with g2 g3
    injection g3 with g3 g4
    subst g2 g3
    have HSB := Lib.hid hsb
    have HF := Lib.hid hf
    have HRN := Lib.hid hr
    by_cases cg : (1 ≤ id ∧ id ≤ 16) ∧ 1 ≤ pri ∧ pri ≤ 16
    · have HG := Lib.hid (fun W => rgood_any id pri W true (by simpa using cg))
      have hid := cg.1
      have hw : waitS t id pri (R.mkm n q) = (t', c) := by rw [← g1, ← g4]
      clear h hf hsb h1 h2 hb hr g1 g4 cg
      unfold waitS at hw
      injection hw with hw1 hw2
      by_cases c0 : c = 0
      · subst c0
        rw [if_pos hw2] at hw1
        obtain ⟨j, rfl⟩ : ∃ j : Nat, id = (j : Int) := ⟨id.toNat, by omega⟩
        have hj17 : j < 17 := by omega
        have hji : (j : Int) < 17 := by omega
        rw [show (j : Int).toNat = j from rfl] at hw1
        have H1 := Lib.hid hw1
        have H2 := Lib.hid hw2
        clear hw1 hw2 hid
        go_enter Try.func12, Try.ntmps12
        go_wp2_with fail
        refine HT.out.mono ?_
        rintro e w1 ⟨rfl, hq, hd⟩
        have HQ := Lib.hid hq
        have HD := Lib.hid hd
        clear hq hd HT
        go_wp2_with fail
        refine (HG.out w1).mono ?_
        rintro e w2 ⟨rfl, rfl⟩
        have cR := HQ.out.d.c2
        have hqr := HQ.out.q
        rw [HRN.out] at hqr
        have HA := Lib.hid (rat_any r false [] w1 hqr (by simp) (j : Int) (-1) (by simp))
        clear hqr HG
        go_wp2_with fail
        refine HA.out.mono ?_
        rintro e w2 ⟨rfl, rfl⟩
        have cS := HQ.out.d.c1
        have HAd := Lib.hid (radd_any p t.b t.S w1 HQ.out.s HF.out.s (j : Int) pri)
        rw [H2.out] at HAd
        clear HA cR
        go_wp2_with fail
        refine HAd.out.mono ?_
        rintro e w2 ⟨rfl, hl2, ho2⟩
        have hc := HQ.out.came ho2 hl2 hj17 (R.mkm n q) (fun y hy => by
          rcases mem_addL hy with h | h
          · exact .inl ⟨y, h, rfl⟩
          · subst h; exact .inr rfl)
        have hd2 := HQ.out.d.keep (ho2.block m HQ.out.d.lt HQ.out.np)
        obtain ⟨u0, hu0⟩ := hd2.text hj17
        have hz := hd2.fz (3 + j)
        have he2 : Et m g p r w1 w2 := .of_only ho2 (.inr (.inl rfl))
        have HE2 := Lib.hid (HD.out.trans he2)
        have HSB2 := Lib.hid ((HSB.out.et HD.out).et he2)
        have hrs := R.run_str (cap := cap) (W := w2.drew) (HSB2.out.et (Et.refl m g p r w2).drew).src
        rw [← R.str_mkm] at hrs
        have HC := Lib.hid hc
        clear hl2 ho2 hc hd2 he2 HAd cS
        go_wp2
        go_region
        all_goals
          go_wp2
          go_ret3
          rw [← H1.out]
          exact ⟨rfl, HC.out.drew, (HE2.out.trans (Et.of_only ((Only.refl m w2).setCell (q := ⟨m, 3 + j, none⟩) (.inl rfl) _) (.inl rfl))).drew⟩
      · have t5 : (c == 0) = false := by simpa using c0
        rw [if_neg (by rw [hw2]; exact c0), addC_bad (by rw [hw2]; exact c0)] at hw1
        have H1 := Lib.hid hw1
        have H2 := Lib.hid hw2
        have HL := Lib.hid (addC_bad (b := t.b) (L := t.S) (id := id) (pri := pri) (by rw [hw2]; exact c0))
        clear hw1 hw2 hid c0
        go_enter Try.func12, Try.ntmps12
        go_wp2_with fail
        refine HT.out.mono ?_
        rintro e w1 ⟨rfl, hq, hd⟩
        have HQ := Lib.hid hq
        have HD := Lib.hid hd
        clear hq hd HT
        go_wp2_with fail
        refine (HG.out w1).mono ?_
        rintro e w2 ⟨rfl, rfl⟩
        have cR := HQ.out.d.c2
        have hqr := HQ.out.q
        rw [HRN.out] at hqr
        have HA := Lib.hid (rat_any r false [] w1 hqr (by simp) id (-1) (by simp))
        clear hqr HG
        go_wp2_with fail
        refine HA.out.mono ?_
        rintro e w2 ⟨rfl, rfl⟩
        have cS := HQ.out.d.c1
        have HAd := Lib.hid (radd_any p t.b t.S w1 HQ.out.s HF.out.s id pri)
        rw [H2.out, HL.out] at HAd
        clear HA cR
        go_wp2_with fail
        refine HAd.out.mono ?_
        rintro e w2 ⟨rfl, hl2, ho2⟩
        have HQ2 := Lib.hid (HQ.out.sq ho2 hl2 (fun y hy => ⟨y, hy, rfl⟩))
        have HE2 := Lib.hid (HD.out.trans (Et.of_only (m := m) (g := g) (r := r) ho2 (.inr (.inl rfl))))
        clear hl2 ho2 HAd cS
        go_wp2
        go_ret3
        rw [← H1.out]
        exact ⟨rfl, HQ2.out, HE2.out⟩
    · have HG := Lib.hid (fun W => rgood_any id pri W false (by simpa using cg))
      rw [waitS_bad cg] at g1 g4
      simp only at g1 g4
      subst g1 g4
      clear h hf hsb h1 h2 hb hr cg
      go_enter Try.func12, Try.ntmps12
      go_wp2_with fail
      refine HT.out.mono ?_
      rintro e w1 ⟨rfl, hq, hd⟩
      have HQ := Lib.hid hq
      have HD := Lib.hid hd
      clear hq hd HT
      go_wp2_with fail
      refine (HG.out w1).mono ?_
      rintro e w2 ⟨rfl, rfl⟩
      go_wp2
      go_ret3
      exact ⟨rfl, HQ.out, HD.out⟩

set_option maxHeartbeats 4000000 in
theorem rdrop_any (id : Int) (h : Rf w B m g p r t) (hf : Fine t) :
    Calls Try.prog 22 #[.pointer (some ⟨m, 0, none⟩), .int .i64 id] w fun e w' => ∃ v, e = .returned v ∧ Ow w' w.heap.size v (drop t id).2 ∧ Rf w' B m g p r (drop t id).1 ∧ Et m g p r w w' := by
  have H := Lib.hid h
  have HF := Lib.hid hf
  have cS := h.d.c1
  by_cases c : pos t.S id < t.S.length
  · have HL := Lib.hid (rremove_any p t.b t.S w h.s hf.s.len id)
    rw [decide_eq_true c] at HL
    have HF1 := Lib.hid (hf.lose (List.eraseIdx_sublist t.S (pos t.S id)))
    have HE : Hid (drop t id = fill { t with S := t.S.eraseIdx (pos t.S id) }) := Lib.hid (by unfold drop; rw [if_pos c])
    have HSU := Lib.hid (List.eraseIdx_sublist t.S (pos t.S id))
    clear h hf c
    go_enter Try.func22, Try.ntmps22
    go_wp2_with fail
    refine HL.out.mono ?_
    rintro e w1 ⟨rfl, hl, ho⟩
    have hq := H.out.sq ho hl (fun y hy => ⟨y, HSU.out.subset hy, rfl⟩)
    have HA := Lib.hid (rfill_any hq HF1.out)
    have HD := Lib.hid (Et.of_only (m := m) (g := g) (r := r) ho (.inr (.inl rfl)))
    clear hq hl ho HL cS
    go_wp2_with fail
    refine HA.out.mono ?_
    rintro e w2 ⟨v, rfl, ho, hq, hd⟩
    have HO := Lib.hid ho
    have HQ := Lib.hid hq
    have HD2 := Lib.hid hd
    clear ho hq hd HA
    go_wp2
    go_ret
    rw [HE.out]
    exact ⟨_, rfl, K.own_base HO.out HD.out.size, HQ.out, HD.out.trans HD2.out⟩
  · have HL := Lib.hid (rremove_any p t.b t.S w h.s hf.s.len id)
    rw [decide_eq_false c, List.eraseIdx_of_length_le (l := t.S) (by omega)] at HL
    have HE : Hid (drop t id = ({ t with R := t.R.eraseIdx (pos t.R id) }, [])) := Lib.hid (by unfold drop; rw [if_neg c])
    have HF1 := Lib.hid (hf.loseR (List.eraseIdx_sublist t.R (pos t.R id)))
    by_cases c2 : pos t.R id < t.R.length
    · have HS0 : Hid (t.S = []) := Lib.hid (by
        rcases hf.one with e | e
        · exact e
        · rw [e] at c2; simp at c2)
      clear h hf c
      go_enter Try.func22, Try.ntmps22
      go_wp2_with fail
      refine HL.out.mono ?_
      rintro e w1 ⟨rfl, hl, ho⟩
      have HQ1 := Lib.hid (H.out.sq ho hl (fun y hy => ⟨y, hy, rfl⟩))
      have HD := Lib.hid (Et.of_only (m := m) (g := g) (r := r) ho (.inr (.inl rfl)))
      have cR := HQ1.out.d.c2
      have HR := Lib.hid (rremove_any r false t.R w1 HQ1.out.q HF.out.r.len id)
      rw [decide_eq_true c2] at HR
      clear hl ho HL cS c2
      go_wp2_with fail
      refine HR.out.mono ?_
      rintro e w2 ⟨rfl, hl, ho⟩
      have hq := HQ1.out.rq ho hl
      have HA := Lib.hid (rfill_any hq HF1.out)
      have HD2 := Lib.hid (HD.out.trans (Et.of_only (m := m) (g := g) (p := p) ho (.inr (.inr rfl))))
      clear hq hl ho HR cR
      go_wp2_with fail
      refine HA.out.mono ?_
      rintro e w3 ⟨v, rfl, ho, hq, hd⟩
      have HO := Lib.hid ho
      have HQ := Lib.hid hq
      have HD3 := Lib.hid hd
      clear ho hq hd HA
      go_wp2
      go_ret
      rw [HE.out]
      have e0 := fill_none (t := { t with R := t.R.eraseIdx (pos t.R id) }) HS0.out
      have ho := HO.out
      have hq := HQ.out
      rw [e0] at ho hq
      exact ⟨_, rfl, K.own_base ho HD2.out.size, hq, HD2.out.trans HD3.out⟩
    · clear h hf c
      go_enter Try.func22, Try.ntmps22
      go_wp2_with fail
      refine HL.out.mono ?_
      rintro e w1 ⟨rfl, hl, ho⟩
      have HQ1 := Lib.hid (H.out.sq ho hl (fun y hy => ⟨y, hy, rfl⟩))
      have HD := Lib.hid (Et.of_only (m := m) (g := g) (r := r) ho (.inr (.inl rfl)))
      have cR := HQ1.out.d.c2
      have HR := Lib.hid (rremove_any r false t.R w1 HQ1.out.q HF.out.r.len id)
      rw [decide_eq_false c2] at HR
      clear hl ho HL cS c2
      go_wp2_with fail
      refine HR.out.mono ?_
      rintro e w2 ⟨rfl, hl, ho⟩
      have HQ2 := Lib.hid (HQ1.out.rq ho hl)
      have HD2 := Lib.hid (HD.out.trans (Et.of_only (m := m) (g := g) (p := p) ho (.inr (.inr rfl))))
      clear hl ho HR cR
      go_wp2
      go_ret
      rw [HE.out]
      exact ⟨_, rfl, ⟨rfl, .inl ⟨rfl, rfl⟩⟩, HQ2.out, HD2.out⟩

set_option maxHeartbeats 4000000 in
theorem rchange_any' (id pri : Int) (h : Rf w B m g p r t) (hf : Fine t) :
    Calls Try.prog 24 #[.pointer (some ⟨m, 0, none⟩), .int .i64 id, .int .i64 pri] w fun e w' => ∃ v, e = .returned (.tuple #[v, .bool (change t id pri).2.2]) ∧ Ow w' w.heap.size v (change t id pri).2.1 ∧ Rf w' B m g p r (change t id pri).1 ∧ Et m g p r w w' := by
  have H := Lib.hid h
  have HF := Lib.hid hf
  have cS := h.d.c1
  have HL := Lib.hid (rchange_any p t.b t.S w h.s hf.s id pri)
  cases hc : chgOk t.S id pri with
  | true =>
    rw [hc] at HL
    have HF1 := Lib.hid (hf.chgS (id := id) (pri := pri))
    have HE : Hid (change t id pri = ((fill { t with S := chgL t.b t.S id pri }).1, (fill { t with S := chgL t.b t.S id pri }).2, true)) := Lib.hid (by unfold change; rw [if_pos hc])
    clear h hf hc
    rw [HE.out]
    go_enter Try.func24, Try.ntmps24
    go_wp2_with fail
    refine HL.out.mono ?_
    rintro e w1 ⟨rfl, hl, ho⟩
    have hq := H.out.sq ho hl (fun y hy => mem_chgL hy)
    have HA := Lib.hid (rfill_any hq HF1.out)
    have HD := Lib.hid (Et.of_only (m := m) (g := g) (r := r) ho (.inr (.inl rfl)))
    clear hq hl ho HL cS
    go_wp2_with fail
    refine HA.out.mono ?_
    rintro e w2 ⟨v, rfl, ho, hq, hd⟩
    have HO := Lib.hid ho
    have HQ := Lib.hid hq
    have HD2 := Lib.hid hd
    clear ho hq hd HA
    go_wp2
    go_ret2
    exact ⟨_, rfl, K.own_base HO.out HD.out.size, HQ.out, HD.out.trans HD2.out⟩
  | false =>
    rw [hc] at HL
    have hS : chgL t.b t.S id pri = t.S := by
      unfold chgOk at hc; unfold chgL
      rw [if_neg (by simpa using hc)]
    rw [hS] at HL
    have HE : Hid (change t id pri = ({ t with R := chgL false t.R id pri }, [], chgOk t.R id pri)) := Lib.hid (by unfold change; rw [if_neg (by simp [hc])])
    cases hc2 : chgOk t.R id pri with
    | true =>
      have HS0 : Hid (t.S = []) := Lib.hid (by
        rcases hf.one with e | e
        · exact e
        · unfold chgOk at hc2; rw [e] at hc2; simp at hc2)
      have HF1 : Hid (Fine { t with R := chgL false t.R id pri }) := Lib.hid ⟨hf.s, hf.r.chgL id pri, .inl HS0.out, hf.m, hf.n, hf.g, hf.gm, hf.w⟩
      rw [hc2] at HE
      clear h hf hc hS
      rw [HE.out]
      go_enter Try.func24, Try.ntmps24
      go_wp2_with fail
      refine HL.out.mono ?_
      rintro e w1 ⟨rfl, hl, ho⟩
      have HQ1 := Lib.hid (H.out.sq ho hl (fun y hy => ⟨y, hy, rfl⟩))
      have HD := Lib.hid (Et.of_only (m := m) (g := g) (r := r) ho (.inr (.inl rfl)))
      have cR := HQ1.out.d.c2
      have HR := Lib.hid (rchange_any r false t.R w1 HQ1.out.q HF.out.r id pri)
      rw [hc2] at HR
      clear hl ho HL cS hc2
      go_wp2_with fail
      refine HR.out.mono ?_
      rintro e w2 ⟨rfl, hl, ho⟩
      have hq := HQ1.out.rq ho hl
      have HA := Lib.hid (rfill_any hq HF1.out)
      have HD2 := Lib.hid (HD.out.trans (Et.of_only (m := m) (g := g) (p := p) ho (.inr (.inr rfl))))
      clear hq hl ho HR cR
      go_wp2_with fail
      refine HA.out.mono ?_
      rintro e w3 ⟨v, rfl, ho, hq, hd⟩
      have HO := Lib.hid ho
      have HQ := Lib.hid hq
      have HD3 := Lib.hid hd
      clear ho hq hd HA
      go_wp2
      go_ret2
      have e0 := fill_none (t := { t with R := chgL false t.R id pri }) HS0.out
      have ho := HO.out
      have hq := HQ.out
      rw [e0] at ho hq
      exact ⟨_, rfl, K.own_base ho HD2.out.size, hq, HD2.out.trans HD3.out⟩
    | false =>
      rw [hc2] at HE
      clear h hf hc hS
      rw [HE.out]
      go_enter Try.func24, Try.ntmps24
      go_wp2_with fail
      refine HL.out.mono ?_
      rintro e w1 ⟨rfl, hl, ho⟩
      have HQ1 := Lib.hid (H.out.sq ho hl (fun y hy => ⟨y, hy, rfl⟩))
      have HD := Lib.hid (Et.of_only (m := m) (g := g) (r := r) ho (.inr (.inl rfl)))
      have cR := HQ1.out.d.c2
      have HR := Lib.hid (rchange_any r false t.R w1 HQ1.out.q HF.out.r id pri)
      rw [hc2] at HR
      clear hl ho HL cS hc2
      go_wp2_with fail
      refine HR.out.mono ?_
      rintro e w2 ⟨rfl, hl, ho⟩
      have HQ2 := Lib.hid (HQ1.out.rq ho hl)
      have HD2 := Lib.hid (HD.out.trans (Et.of_only (m := m) (g := g) (p := p) ho (.inr (.inr rfl))))
      clear hl ho HR cR
      go_wp2
      go_ret2
      exact ⟨_, rfl, ⟨rfl, .inl ⟨rfl, rfl⟩⟩, HQ2.out, HD2.out⟩
end
end Go.Proofs.Ytneimdjgbblaoaa
