/- The document's message buffer (detentref16): TryRecv, Send, Drop, Change. -/
import Derived.Test.YtneimdjgbblaoaaRdB
namespace Go.Proofs.Ytneimdjgbblaoaa
open Go.RowKit
set_option maxRecDepth 100000

/-- what the document's TryRecv and Recv tell -/
def Gd (w0 w : World) (o : Option (List Int)) (outs : List Int) (g : Value) : Prop := ∃ v2, g = .agg #[.string (R.str (o.getD [])), .bool o.isSome, v2] ∧ Ow w w0.heap.size v2 outs
theorem str_nil : R.str [] = ⟨#[]⟩ := rfl
section
variable {w w' : World} {B m g p r : Nat} {t : St}
theorem Rf.nb {i : Nat} {a b c : Value} (h : Rf w B m g p r t) (bx : Box3 w i 46 a b c) : i ≠ m ∧ i ≠ g ∧ i ≠ p ∧ i ≠ r := by
  refine ⟨?_, ?_, ?_, ?_⟩
  · rintro rfl; exact h.d.type (e := 46) (by decide) _ _ bx
  · rintro rfl; exact h.o.type (e := 46) (by decide) _ _ bx
  · rintro rfl; exact h.s.type (e := 46) (by decide) _ _ bx
  · rintro rfl; exact h.q.type (e := 46) (by decide) _ _ bx
theorem Box3.et {i : Nat} {a b c : Value} (bx : Box3 w i 46 a b c) (h : Rf w B m g p r t) (k : Et m g p r w w') : Box3 w' i 46 a b c :=
  bx.keep (k.block i bx.lt (h.nb bx).1 (h.nb bx).2.1 (h.nb bx).2.2.1 (h.nb bx).2.2.2)
theorem Bk.box {b : Nat} {s : ByteArray} {i : Nat} {x y z : Value} (h : R.Bk w b s) (bx : Box3 w i 46 x y z) (k : Only i w w') : R.Bk w' b s :=
  h.keep (k.block b h.lt (by rintro rfl; obtain ⟨cs, fr, hh, _⟩ := h; unfold Box3 at bx; rw [hh] at bx; injection bx with bx; injection bx with _ bx; cases bx))

set_option maxHeartbeats 4000000 in
theorem rtryRecv_any (t' : St) (o : Option (List Int)) (outs : List Int) (h : Rf w B m g p r t) (hf : Fine t) (hs : tryRecv t = (t', o, outs)) :
    Calls Try.prog 19 #[.pointer (some ⟨m, 0, none⟩)] w fun e w' => ∃ v, e = .returned v ∧ Gd w w' o outs v ∧ Rf w' B m g p r t' ∧ Et m g p r w w' := by
  obtain ⟨w0, hw0⟩ : ∃ w0, w.alloc (.cells #[.string ⟨#[]⟩, .bool false, .slice none 0 0] 46) = w0 := ⟨_, rfl⟩
  have hb0 : Below w.heap.size w w0 := by rw [← hw0]; exact (Below.refl _ _).alloc (Nat.le_refl _) _
  have bx : Box3 w0 w.heap.size 46 (.string ⟨#[]⟩) (.bool false) (.slice none 0 0) := by rw [← hw0]; exact box3_new _ _ _ _ _
  have h0 := h.below hb0
  have HB0 := Lib.hid hb0
  have HSZ := Lib.hid (show w.heap.size < w0.heap.size from bx.lt)
  have BX := Lib.hid bx
  have c0 := h0.d.c0
  have H0 := Lib.hid h0
  have HF := Lib.hid hf
  have ho := h0.o
  unfold tryRecv at hs
  cases hG : t.G with
  | cons x G =>
    rw [hG] at hs ho
    simp only [Prod.mk.injEq] at hs
    obtain ⟨g1, g2, g3⟩ := hs
    subst g2 g3
    have hl : G.length ≤ 20000 := by
      have h1 := R.tot_len t.G
      have h2 := hf.g
      have h3 := hf.n
      rw [hG, List.length_cons] at h1; rw [hG] at h2; omega
    have HG := Lib.hid (R.rget_some g t.N x G w0 ho hl)
    have H1 := Lib.hid g1
    have HFG := Lib.hid (hf.get hG)
    clear h hf hG ho g1 h0 bx hb0 hl
    go_enter Try.func19, Try.ntmps19
    go_wp2_with fail
    refine HG.out.mono ?_
    rintro e w1 ⟨gb, k, hgb, rfl, hbk, ho1, honly⟩
    have hq1 := H0.out.lay honly ho1
    have HQ1 := Lib.hid hq1
    have he1 : Et m g p r w0 w1 := .of_ring honly
    have BX1 := Lib.hid (BX.out.et H0.out he1)
    have HK1 := Lib.hid ((Et.of_below (m := m) (g := g) (p := p) (r := r) HB0.out).trans he1)
    have HBK := Lib.hid hbk
    have HLE := Lib.hid (show w.heap.size ≤ w1.heap.size from Nat.le_trans (Nat.le_of_lt HSZ.out) he1.size)
    have HNB := Lib.hid (show gb ≠ m ∧ gb ≠ g ∧ gb ≠ p ∧ gb ≠ r by have h1 := H0.out.d.lt; have h2 := H0.out.o.lt; have h3 := H0.out.s.lt; have h4 := H0.out.q.lt; omega)
    have s1 := R.Bk.str (n := x.length) (cap := k) (w := w1.drew) hbk (R.str_size x)
    clear hbk ho1 honly hq1 HG he1 c0 hgb
    go_wp2
    go_region_held3 (fun W => (convert 31 9 (.slice (some ⟨gb, 0, none⟩) x.length k)).run Try.prog W = .ok (.string (R.str x)) W ∧ True)
      (first | exact ⟨s3, trivial⟩ | exact ⟨s2, trivial⟩ | exact ⟨s1, trivial⟩ | assumption)
      ((go_at_call 52; refine (rfill_any HQ1.out.drew HFG.out).mono ?_; rintro e w2 ⟨v2, rfl, ho2, hq2, hd2⟩
        obtain ⟨X2, n2, K2, rfl⟩ : ∃ X n k, v2 = .slice X n k := by obtain ⟨X, k, e, _⟩ := K.own_form ho2; exact ⟨X, _, k, e⟩
        have BX2 := Lib.hid (Box3.et (w := w1.drew) BX1.out HQ1.out.drew hd2)
        have HBK2 := Lib.hid (HBK.out.keep (hd2.block gb HBK.out.lt HNB.out.1 HNB.out.2.1 HNB.out.2.2.1 HNB.out.2.2.2))
        have s2 := HBK2.out.str (n := x.length) (cap := k) (R.str_size x)
        have z0 := BX2.out.fz 0
        have z1 := BX2.out.fz 1
        have z2 := BX2.out.fz 2
        have b0 := BX2.out.c0
        have b1 := BX2.out.c1
        have b2 := BX2.out.c2
        have HAll := Lib.hid (BX2.out.all (Nat.le_refl _) (.string (R.str x)) (.bool true) (.slice X2 n2 K2))
        have s3 := (Bk.box HBK2.out BX2.out HAll.out.2.2).str (n := x.length) (cap := k) (R.str_size x)))
    have HO2 := Lib.hid ho2
    have HQ2 := Lib.hid hq2
    have HD2 := Lib.hid hd2
    clear ho2 hq2 hd2 s1 s2 s3
    go_wp2
    (try simp only [Exit.inBlock, Exit.then]); refine bodyPost_ret (ret_got46 rfl _ _ _ _ _ _ _ rfl HAll.out.1) rfl ?_
    rw [← H1.out]
    exact ⟨_, rfl, ⟨_, rfl, own_box (K.own_base HO2.out HLE.out) BX2.out (by decide) HAll.out.2.2⟩, HQ2.out.box BX2.out rfl HAll.out.2.2, (HK1.out.trans (Et.un (n := 1) HD2.out)).later HAll.out.2.1⟩
  | nil =>
    rw [hG] at hs ho
    have HG := Lib.hid (R.rget_none g t.N w0 ho)
    have hqs := h0.s
    have cS := h0.d.c1
    cases hS : t.S with
    | cons y S =>
      rw [hS] at hs hqs
      simp only [Prod.mk.injEq] at hs
      obtain ⟨g1, g2, g3⟩ := hs
      have hrng := hf.s.rng y (by rw [hS]; simp)
      have hlen := hf.s.len
      rw [hS] at hlen
      obtain ⟨y1, y2⟩ := y
      obtain ⟨j, rfl⟩ : ∃ j : Nat, y1 = (j : Int) := ⟨y1.toNat, by simp only at hrng; omega⟩
      have hj17 : j < 17 := by simp only at hrng; omega
      have hji : (j : Int) < 17 := by omega
      rw [show ((j : Int), y2).1.toNat = j from rfl] at g2
      simp only at g2 g3
      have hmsg := h0.d.msg (y := ((j : Int), y2)) (by rw [hS]; simp) (k := j) rfl
      have HT := Lib.hid (rtake_some p t.b ((j : Int), y2) S w0 hqs hlen)
      obtain ⟨x, hx⟩ : ∃ x, t.W j = x := ⟨_, rfl⟩
      rw [hx] at g2 hmsg
      subst g2 g3
      have H1 := Lib.hid g1
      have HSS := Lib.hid hS
      have HM := Lib.hid hmsg
      have HGE := Lib.hid hG
      simp only at HT
      clear h hf hG ho g1 h0 bx hb0 hrng hx hmsg hS hqs hlen
      go_enter Try.func19, Try.ntmps19
      go_wp2_with fail
      refine HG.out.mono ?_
      rintro e w1 ⟨rfl, rfl⟩
      go_wp2_with fail
      refine HT.out.mono ?_
      rintro e w1 ⟨rfl, hl1, ho1⟩
      have hq1 := H0.out.sq ho1 hl1 (fun y hy => ⟨y, by rw [HSS.out]; exact List.mem_cons_of_mem _ hy, rfl⟩)
      have hd1 : Et m g p r w0 w1 := .of_only ho1 (.inr (.inl rfl))
      have ax := box_new w1 100 (.int .i64 (j : Int)) (.int .i64 y2)
      have hb2 : Below w1.heap.size w1 (w1.alloc (.cells #[.int .i64 (j : Int), .int .i64 y2] 100)) := (Below.refl _ _).alloc (Nat.le_refl _) _
      have BX2 := Lib.hid ((BX.out.et H0.out hd1).below hb2)
      have HQ2 := Lib.hid (hq1.below hb2)
      have HK2 := Lib.hid (((Et.of_below (m := m) (g := g) (p := p) (r := r) HB0.out).trans hd1).trans (.of_below hb2))
      have q0 := ax.c0
      have d0 := (hb2.cell (p := ⟨m, 3 + j, none⟩) hq1.d.lt).trans ((ho1.cell (q := ⟨m, 3 + j, none⟩) H0.out.d.lt H0.out.np).trans HM.out)
      generalize hw2 : w1.alloc (.cells #[.int .i64 (j : Int), .int .i64 y2] 100) = w2 at *
      obtain ⟨w3, hw3⟩ : ∃ w3, w2.drew.alloc (.cells #[.int .i64 (j : Int)] 3) = w3 := ⟨_, rfl⟩
      have hb3 : Below w2.heap.size w2 w3 := by rw [← hw3]; exact ((Below.refl w2.heap.size w2).drew).alloc (Nat.le_refl _) _
      have HOW := Lib.hid (show w3.ownsRow w.heap.size 3 1 (.slice (some ⟨w2.heap.size, 0, none⟩) 1 1) 1 (K.vals K.ci [(j : Int)]) by rw [← hw3]; exact World.ownsRow_lit w2.drew #[.int .i64 (j : Int)] 1 (show w.heap.size ≤ w2.heap.size from HK2.out.size) (by unfold maxLen; omega) rfl)
      have BX3 := Lib.hid (BX2.out.below hb3)
      have HQ3 := Lib.hid (HQ2.out.below hb3)
      have HK3 := Lib.hid (HK2.out.trans (.of_below hb3))
      have HAll := Lib.hid (BX3.out.all (Nat.le_refl _) (.string (R.str x)) (.bool true) (.slice (some ⟨w2.heap.size, 0, none⟩) 1 1))
      have z0 := BX3.out.fz 0
      have z1 := BX3.out.fz 1
      have z2 := BX3.out.fz 2
      have b0 := BX3.out.c0
      have b1 := BX3.out.c1
      have b2 := BX3.out.c2
      have HL1 := Lib.hid ax.lt
      have HNE := Lib.hid (show w1.heap.size ≠ w.heap.size by have h1 := HSZ.out; have h2 := hd1.size; omega)
      have q3 := (hb3.cell (p := ⟨w1.heap.size, 0, none⟩) ax.lt).trans q0
      have d3 := (hb3.cell (p := ⟨m, 3 + j, none⟩) HQ2.out.d.lt).trans d0
      have q4 := (HAll.out.2.2.cell (q := ⟨w1.heap.size, 0, none⟩) (Nat.lt_of_lt_of_le ax.lt hb3.size) HNE.out).trans q3
      have d4 := (HAll.out.2.2.cell (q := ⟨m, 3 + j, none⟩) HQ3.out.d.lt (Ne.symm (HQ3.out.nb BX3.out).1)).trans d3
      clear hl1 ho1 hq1 hd1 ax hb2 HT HG hb3 c0 cS
      go_wp2
      go_region_held3 (fun W => W.cell? ⟨w1.heap.size, 0, none⟩ = some (.int .i64 (j : Int)) ∧ W.cell? ⟨m, 3 + j, none⟩ = some (.string (R.str x)))
        (first | exact ⟨q4, d4⟩ | exact ⟨q3, d3⟩ | exact ⟨q0, d0⟩ | assumption)
        (fail)
      go_wp2
      (try simp only [Exit.inBlock, Exit.then]); refine bodyPost_ret (ret_got46 rfl _ _ _ _ _ _ _ rfl HAll.out.1) rfl ?_
      rw [← H1.out]
      exact ⟨_, rfl, ⟨_, rfl, own_box HOW.out BX3.out (by decide) HAll.out.2.2⟩, (HQ3.out.box BX3.out rfl HAll.out.2.2).congr (by rw [HGE.out]), HK3.out.later HAll.out.2.1⟩
    | nil =>
      rw [hS] at hs hqs
      simp only [Prod.mk.injEq] at hs
      obtain ⟨g1, g2, g3⟩ := hs
      subst g1 g2 g3
      have HT := Lib.hid (rtake_none p t.b w0 hqs)
      clear h hf hG ho h0 bx hb0 hS hqs
      go_enter Try.func19, Try.ntmps19
      go_wp2_with fail
      refine HG.out.mono ?_
      rintro e w1 ⟨rfl, rfl⟩
      go_wp2_with fail
      refine HT.out.mono ?_
      rintro e w1 ⟨rfl, hb1⟩
      have hb2 := hb1.trans ((Below.refl w0.heap.size w1).alloc hb1.size (.cells #[.int .i64 0, .int .i64 0] 100))
      have HB2 := Lib.hid hb2
      have HQ2 := Lib.hid (H0.out.below hb2)
      have BX2 := Lib.hid (BX.out.below hb2)
      have z0 := BX2.out.fz 0
      have z1 := BX2.out.fz 1
      have z2 := BX2.out.fz 2
      have b0 := BX2.out.c0
      have b1 := BX2.out.c1
      have b2 := BX2.out.c2
      have HAll := Lib.hid (BX2.out.all (Nat.le_refl _) (.string ⟨#[]⟩) (.bool false) (.slice none 0 0))
      clear hb1 hb2 HT HG c0 cS
      go_wp2
      (try simp only [Exit.inBlock, Exit.then]); refine bodyPost_ret (ret_got46 rfl _ _ _ _ _ _ _ rfl HAll.out.1) rfl ?_
      exact ⟨_, rfl, ⟨_, rfl, ⟨rfl, .inl ⟨rfl, rfl⟩⟩⟩, HQ2.out.box BX2.out rfl HAll.out.2.2, ((Et.of_below (below_trans HB0.out HB2.out))).later HAll.out.2.1⟩
end
end Go.Proofs.Ytneimdjgbblaoaa
