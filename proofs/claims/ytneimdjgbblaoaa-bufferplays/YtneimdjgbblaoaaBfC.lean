/- Contracts of package mbf: admit. -/
import Derived.Test.YtneimdjgbblaoaaBfB
namespace Go.Proofs.Ytneimdjgbblaoaa
open Go.RowKit
set_option maxRecDepth 100000

/-- the numbers' own row, all of whose memory lies from block B on -/
abbrev Ow (w : World) (B : Nat) (v : Value) (D : List Int) : Prop := w.ownsRow B 3 1 v D.length (K.vals K.ci D)
def lenV : Value → Nat
  | .slice _ n _ => n
  | _ => 0
theorem own_blk {w : World} {B n z : Nat} {e : TypeId} {v : Value} {xs : List Value} (h : w.ownsRow B e z v n xs) {g : Nat} (hg : v.ownBlock = some g) : ∃ cap cur, v = .slice (some ⟨g, 0, none⟩) n cap ∧ B ≤ g ∧ g < w.heap.size ∧ w.heap[g]? = some (.cells cur e (0, 0)) ∧ n ≤ cap ∧ cap ≤ maxLen ∧ cur.size = cap * z ∧ cur.toList.take (n * z) = xs := by
  rcases h.2 with ⟨rfl, _⟩ | ⟨g', cap, cur, rfl, h1, hh, h2, h3, h4, h5⟩
  · simp [Value.ownBlock] at hg
  · simp [Value.ownBlock] at hg
    subst hg
    exact ⟨cap, cur, rfl, h1, lt_of_heap hh, hh, h2, h3, h4, h5⟩
theorem below_grown {B : Nat} {a w w' : World} {row : Option Nat} (h : Below B a w) (g : w.grownBy w' row) (hB : B ≤ w.heap.size) (hr : ∀ k, row = some k → B ≤ k) : Below B a w' :=
  ⟨g.os.trans h.os, g.tape.trans h.tape, g.output.trans h.output, Nat.le_trans h.size g.size, fun k hk => (g.block k (by omega) (fun e => by have := hr k e.symm; omega)).trans (h.block k hk)⟩
/-- a row of numbers stays when the buffer turns -/
theorem own_dt {w w' : World} {B B' s p m n : Nat} {C : Int} {u : Value} {xs : List Value} {t : St} (h : w.ownsRow B' 3 1 u n xs) (q : Bf w B s p m C t) (k : Dt s p m w w') : w'.ownsRow B' 3 1 u n xs :=
  K.own_keep h fun g cs hg _ => by
    obtain ⟨c, _, _, r⟩ := q.g
    exact k.block g (lt_of_heap hg) (by rintro rfl; exact q.c.type (e := 3) (by decide) _ _ hg) (by rintro rfl; exact r.typep (e := 3) (by decide) _ _ hg) (by rintro rfl; exact r.typem (e := 3) (by decide) _ _ hg)
/-- a row that grew turned nothing that was there before -/
theorem Dt.grown {s p m : Nat} {a w w' : World} {row : Option Nat} (h : Dt s p m a w) (g : w.grownBy w' row) (hr : ∀ k, row = some k → a.heap.size ≤ k) : Dt s p m a w' :=
  ⟨g.os.trans h.os, g.tape.trans h.tape, g.output.trans h.output, Nat.le_trans h.size g.size, fun k hk h1 h2 h3 => (g.block k (Nat.lt_of_lt_of_le hk h.size) (fun e => by have := hr k e.symm; omega)).trans (h.block k hk h1 h2 h3)⟩
/-- a row of numbers that grew is no matter of the buffer's -/
theorem Bf.grown {w w' : World} {B B' s p m n : Nat} {C : Int} {v : Value} {xs : List Value} {t : St} (h : Bf w B s p m C t) (ho : w.ownsRow B' 3 1 v n xs) (g : w.grownBy w' v.ownBlock) : Bf w' B s p m C t := by
  have T : ∀ (i : Nat) (ds : Array Value) (e : TypeId) (fr : Nat × Nat), w.heap[i]? = some (.cells ds e fr) → e ≠ 3 → w'.heap[i]? = w.heap[i]? := fun i ds e fr hi he =>
    g.block i (lt_of_heap hi) (fun e2 => by
      obtain ⟨_, cur, _, _, _, hh, _⟩ := own_blk ho e2.symm
      rw [hi] at hh; injection hh with hh; injection hh with _ hh; exact he hh)
  obtain ⟨c, q1, q2, F, f, ha, hg⟩ := h.g
  obtain ⟨cs, hc, hz⟩ := h.c
  obtain ⟨hX, ⟨kk, hk, rr⟩, cs2, hc2, hrow⟩ := ha
  have ha : R.Ar (R.fields F (R.tot t.G) t.G.length) w p m t.N c f := ⟨hX, ⟨kk, hk, rr⟩, cs2, hc2, hrow⟩
  exact ⟨⟨cs, (T s cs 70 _ hc (by decide)).trans hc, hz⟩, ⟨c, q1, q2, F, f, ha.keep (T p _ 113 _ hk (by decide)) (T m _ 5 _ hc2 (by decide)), hg⟩, h.bs, h.bp, h.bm⟩
theorem pos_head (y : It) (S : List It) : pos (y :: S) y.1 = 0 := by unfold pos; simp [List.findIdx_cons]

theorem put_bf {B s p m : Nat} {C : Int} {t : St} {A : Option Addr} {n cap : Nat} {q : Nat → Int} {w : World} (h : Bf w B s p m C t) (hN : t.N ≤ 65536) (hs : R.Src w p m A n q) (hcap : n ≤ cap) (hC : C ≤ 10000000000) (ok : Bool) (hok : R.fits t.N (R.tot t.G) (n : Int) = ok) :
    Calls Try.prog 41 #[.pointer (some ⟨p, 0, none⟩), .slice A n cap] w fun e w' => e = .returned (.bool ok) ∧ Bf w' B s p m (C + 2000) { t with G := if ok = true then t.G ++ [R.mkm n q] else t.G } ∧ Dt s p m w w' := by
  obtain ⟨c, h0, h1, r⟩ := h.g
  refine (R.put_any p m t.N n cap c t.G q A w r hs hcap hN h0 (by omega)).mono ?_
  rintro e w' ⟨c', k1, k2, rfl, k4, k5⟩
  unfold R.putL at k4
  rw [R.mkm_len, hok] at k4
  rw [R.mkm_len, hok]
  exact ⟨rfl, h.lay k5 (by omega) (by omega) k4, .of_ring k5⟩

/-- what admit keeps while it goes round -/
def Adm (w : World) (B s p m : Nat) (C : Int) (t : St) (o : Value) (wr : World) : Prop :=
  ∃ (S : List It) (G : List (List Int)) (outs rest : List Int), fillL t.N t.W S G = ((fillL t.N t.W t.S t.G).1, (fillL t.N t.W t.S t.G).2.1, rest) ∧ (fillL t.N t.W t.S t.G).2.2 = outs ++ rest ∧ outs.length + S.length = t.S.length ∧
    Ow wr w.heap.size o outs ∧ Bf wr B s p m (C + 4000 * (outs.length : Int)) { t with S := S, G := G } ∧ Fine { t with S := S, G := G } ∧ Dt s p m w wr

theorem adm_done {t : St} {S : List It} {G : List (List Int)} {outs rest : List Int} (he : fillL t.N t.W S G = ((fillL t.N t.W t.S t.G).1, (fillL t.N t.W t.S t.G).2.1, rest) ∧ (fillL t.N t.W t.S t.G).2.2 = outs ++ rest) (hs : fillL t.N t.W S G = (S, G, [])) : (fill t).2 = outs ∧ (fill t).1 = { t with S := S, G := G } := by
  obtain ⟨q, q4⟩ := he
  rw [hs] at q
  injection q with q1 q2
  injection q2 with q2 q3
  unfold fill
  simp only [q4, ← q1, ← q2, ← q3, List.append_nil, and_self]
theorem adm_next {t : St} {y : It} {S : List It} {G : List (List Int)} {outs rest : List Int} (he : fillL t.N t.W (y :: S) G = ((fillL t.N t.W t.S t.G).1, (fillL t.N t.W t.S t.G).2.1, rest) ∧ (fillL t.N t.W t.S t.G).2.2 = outs ++ rest) (hf : R.fits t.N (R.tot G) ((t.W y.1.toNat).length : Int) = true) :
    ∃ rest', fillL t.N t.W S (G ++ [t.W y.1.toNat]) = ((fillL t.N t.W t.S t.G).1, (fillL t.N t.W t.S t.G).2.1, rest') ∧ (fillL t.N t.W t.S t.G).2.2 = (outs ++ [y.1]) ++ rest' := by
  obtain ⟨q, q4⟩ := he
  rw [fillL_yes hf] at q
  injection q with q1 q2
  injection q2 with q2 q3
  refine ⟨(fillL t.N t.W S (G ++ [t.W y.1.toNat])).2.2, ?_, ?_⟩
  · rw [← q1, ← q2]
  · rw [q4, ← q3]; simp

set_option maxHeartbeats 4000000 in
theorem admit_any (B s p m : Nat) (C : Int) (t : St) (w : World) (h : Bf w B s p m C t) (hf : Fine t) (hC : C ≤ 1000000000) :
    Calls Try.prog 47 #[.pointer (some ⟨s, 0, none⟩)] w fun e w' => ∃ v, e = .returned v ∧ Ow w' w.heap.size v (fill t).2 ∧ Bf w' B s p m (C + 80000) (fill t).1 ∧ Dt s p m w w' := by
  have HN := Lib.hid hf.s.len
  have H0 : Hid (Adm w B s p m C t (.slice none 0 0) w) := Lib.hid ⟨t.S, t.G, [], (fillL t.N t.W t.S t.G).2.2, rfl, rfl, by simp, ⟨rfl, .inl ⟨rfl, rfl⟩⟩, by simpa using h, hf, Dt.refl _ _ _ _⟩
  clear h hf
  go_enter Try.func47, Try.ntmps47
  go_wp2
  go_loopw [3] (fun o wr => ∃ vo : Value, vo = o ∧ Hid (Adm w B s p m C t vo wr)) (fun o _ => 17 - lenV o)
  case atStart =>
    exact ⟨_, rfl, H0⟩
  case round =>
    obtain ⟨vo, rfl, hrel⟩ := hrel
    obtain ⟨S, G, outs, rest, e1, e2, hlen, hown, hbf, hfi, hdt⟩ := hrel.out
    have HREL := hrel
    clear hrel
    have HE := Lib.hid (And.intro e1 e2)
    have HL := Lib.hid hlen
    have HOW := Lib.hid hown
    have HB := Lib.hid hbf
    have HF := Lib.hid hfi
    have HD := Lib.hid hdt
    obtain ⟨X, hl, _⟩ := hbf.c.sq
    clear e1 e2 hlen hown hbf hfi hdt HREL
    obtain ⟨XO, KO, rfl, _, _⟩ := K.own_form HOW.out
    cases S with
    | nil =>
      have HT := Lib.hid (first_none s 70 t.b wr hl)
      clear hl
      go_wp2_with fail
      refine HT.out.mono ?_
      rintro e w1 ⟨rfl, hb1⟩
      have HB1 := Lib.hid (hb1.trans ((Below.refl wr.heap.size w1).alloc hb1.size (.cells #[.int .i64 0, .int .i64 0] 60)))
      clear hb1 HT
      go_wp2
      go_quiet (fail)
      go_wp2
      go_ret
      obtain ⟨z1, z2⟩ := adm_done HE.out (fillL_nil _ _ _)
      rw [z1, z2]
      have hl0 := HL.out
      have hb := below_trans HB1.out (below_drewN _ nq)
      exact ⟨_, rfl, K.own_below HOW.out hb, ((HB.out.below hb).le (by simp at hl0; have := HN.out; omega)), HD.out.trans (.of_below hb)⟩
    | cons y S =>
      have hrng := HF.out.s.rng y (by simp)
      have hwy := HF.out.w y (by simp)
      obtain ⟨y1, y2⟩ := y
      obtain ⟨j, rfl⟩ : ∃ j : Nat, y1 = (j : Int) := ⟨y1.toNat, by simp only at hrng; omega⟩
      have hj17 : j < 17 := by simp only at hrng; omega
      have hji : (j : Int) < 17 := by omega
      rw [show ((j : Int), y2).1.toNat = j from rfl] at hwy
      simp only at hwy
      have hmsg := HB.out.c.msg (y := ((j : Int), y2)) (by simp) (k := j) rfl
      have HT := Lib.hid (first_some s 70 t.b ((j : Int), y2) S wr hl)
      obtain ⟨x, hx⟩ : ∃ x, t.W j = x := ⟨_, rfl⟩
      have HX := Lib.hid hx
      simp only [hx] at hmsg hwy
      have HW := Lib.hid hwy
      simp only at HT
      have HNE := Lib.hid (And.intro HB.out.lt (And.intro HB.out.ltp HB.out.ltm))
      have HC := Lib.hid (show C + 4000 * (outs.length : Int) ≤ 10000000000 by have h1 := HL.out; have h2 := HN.out; simp only [List.length_cons] at h1; omega)
      clear hl hrng hwy hx
      go_wp2_with fail
      refine HT.out.mono ?_
      rintro e w1 ⟨rfl, hb1⟩
      have bx := box_new w1 60 (.int .i64 (j : Int)) (.int .i64 y2)
      have hb2 := hb1.trans ((Below.refl wr.heap.size w1).alloc hb1.size (.cells #[.int .i64 (j : Int), .int .i64 y2] 60))
      have hbf2 := HB.out.below hb2
      have hm2 := (hb2.cell (p := ⟨s, 36 + j, none⟩) HB.out.lt).trans hmsg
      have c0 := hbf2.c.ring
      have q0 := bx.c0
      have HB2 := Lib.hid hb2
      have HB1 := Lib.hid hb1.size
      have HBF2 := Lib.hid hbf2
      have HBX := Lib.hid bx
      have HM2 := Lib.hid hm2
      clear hb1 hb2 hbf2 HT bx hmsg hm2
      go_wp2
      have HNE2 := Lib.hid (show w1.heap.size ≠ s ∧ w1.heap.size ≠ p ∧ w1.heap.size ≠ m by have h1 := HNE.out; have h2 := HB1.out; omega)
      cases hfit : R.fits t.N (R.tot G) (x.length : Int) with
      | false =>
        go_region_held3 (fun W => W.cell? ⟨s, 0, none⟩ = some (.pointer (some ⟨p, 0, none⟩)) ∧ W.cell? ⟨w1.heap.size, 0, none⟩ = some (.int .i64 (j : Int)))
          (first | exact ⟨c4, q4⟩ | exact ⟨c3, q3⟩ | exact ⟨c0, q0⟩ | assumption)
          (first
            | (go_at_call 41; refine (put_bf HB3.out HF.out.n HSB3.out.src hcap HC.out false hfit).mono ?_; rintro e w4 ⟨rfl, hbf4, hd4⟩; have c4 := hbf4.c.ring; have q4 := (hd4.cell (q := ⟨w1.heap.size, 0, none⟩) hl3 HNE2.out.1 HNE2.out.2.1 HNE2.out.2.2).trans q3)
            | (go_at_call 49; refine (message_any (w := (w1.alloc _).drew) hj17 HM2.out _ rfl).mono ?_; rintro e w3 ⟨g3, cap, rfl, hg3, hcap, hbk3, hb3⟩; have HB3 := Lib.hid (HBF2.out.drew.below hb3); have HSB3 := Lib.hid (bk_sb hbk3 HW.out.2 (Nat.ne_of_gt (Nat.lt_of_lt_of_le HBF2.out.lt hg3)) (Nat.ne_of_gt (Nat.lt_of_lt_of_le HBF2.out.ltp hg3)) (Nat.ne_of_gt (Nat.lt_of_lt_of_le HBF2.out.ltm hg3))); have c3 := HB3.out.c.ring; have q3 := (hb3.cell (p := ⟨w1.heap.size, 0, none⟩) HBX.out.lt).trans q0; have hl3 : w1.heap.size < w3.heap.size := Nat.lt_of_lt_of_le HBX.out.lt hb3.size))
        have HB4 := Lib.hid hbf4
        have HD4 := Lib.hid hd4
        have HBW := Lib.hid hb3
        clear hbf4 hd4 hb3 hbk3 c3 c4 q3 q4 c0 q0 hl3
        go_wp2
        go_ret
        obtain ⟨z1, z2⟩ := adm_done HE.out (fillL_no (by show ¬ R.fits t.N (R.tot G) ((t.W j).length : Int) = true; rw [HX.out, hfit]; simp))
        rw [z1, z2]
        have hb := below_trans HB2.out (below_trans (Below.refl _ _).drew HBW.out)
        have hl0 := HL.out
        have hn0 := HN.out
        refine ⟨_, rfl, own_dt (K.own_below HOW.out hb) HB3.out HD4.out, ?_, (HD.out.trans (.of_below hb)).trans HD4.out⟩
        have h4 := HB4.out
        simp only [List.length_cons] at hl0
        exact Bf.congr (h4.le (by omega)) (by simp)
      | true =>
        go_region_held3 (fun W => W.cell? ⟨s, 0, none⟩ = some (.pointer (some ⟨p, 0, none⟩)) ∧ W.cell? ⟨w1.heap.size, 0, none⟩ = some (.int .i64 (j : Int)))
          (first | exact ⟨c4, q4⟩ | exact ⟨c3, q3⟩ | exact ⟨c0, q0⟩ | assumption)
          (first
            | (go_at_call 41; refine (put_bf HB3.out HF.out.n HSB3.out.src hcap HC.out true hfit).mono ?_; rintro e w4 ⟨rfl, hbf4, hd4⟩; have c4 := hbf4.c.ring; have q4 := (hd4.cell (q := ⟨w1.heap.size, 0, none⟩) hl3 HNE2.out.1 HNE2.out.2.1 HNE2.out.2.2).trans q3)
            | (go_at_call 49; refine (message_any (w := (w1.alloc _).drew) hj17 HM2.out _ rfl).mono ?_; rintro e w3 ⟨g3, cap, rfl, hg3, hcap, hbk3, hb3⟩; have HB3 := Lib.hid (HBF2.out.drew.below hb3); have HSB3 := Lib.hid (bk_sb hbk3 HW.out.2 (Nat.ne_of_gt (Nat.lt_of_lt_of_le HBF2.out.lt hg3)) (Nat.ne_of_gt (Nat.lt_of_lt_of_le HBF2.out.ltp hg3)) (Nat.ne_of_gt (Nat.lt_of_lt_of_le HBF2.out.ltm hg3))); have c3 := HB3.out.c.ring; have q3 := (hb3.cell (p := ⟨w1.heap.size, 0, none⟩) HBX.out.lt).trans q0; have hl3 : w1.heap.size < w3.heap.size := Nat.lt_of_lt_of_le HBX.out.lt hb3.size))
        have hb := below_trans HB2.out (below_trans (Below.refl _ _).drew hb3)
        have HB4 := Lib.hid (Bf.congr (t' := { t with S := ((j : Int), y2) :: S, G := G ++ [x] }) hbf4 (by simp only [R.mkm_nth, if_true]))
        have HOW4 := Lib.hid (own_dt (K.own_below HOW.out hb) HB3.out hd4)
        have HD4 := Lib.hid ((HD.out.trans (.of_below hb)).trans hd4)
        have hf4 : Fine { t with S := ((j : Int), y2) :: S, G := G ++ [x] } := HF.out.put (x := x) hfit
        have hlt4 : w1.heap.size < w4.heap.size := Nat.lt_of_lt_of_le hl3 hd4.size
        have HF4 := Lib.hid hf4
        clear hbf4 hd4 hb3 hbk3 c3 c4 q3 c0 q0 hl3 hb hf4
        go_wp2
        go_region_held3 (fun W => W.cell? ⟨w1.heap.size, 0, none⟩ = some (.int .i64 (j : Int)) ∧ True)
          (first | exact ⟨q5, trivial⟩ | exact ⟨q4, trivial⟩ | assumption)
          ((go_at_call 50; refine (leave_any B s p m _ _ (j : Int) w4.drew HB4.out.drew HF4.out true (by show decide (pos (((j : Int), y2) :: S) (j : Int) < _) = true; rw [pos_head ((j : Int), y2) S]; simp)).mono ?_; rintro e w5 ⟨rfl, hbf5, hd5⟩; have q5 := (hd5.cell (q := ⟨w1.heap.size, 0, none⟩) hlt4 HNE2.out.1 HNE2.out.2.1 HNE2.out.2.2).trans q4))
        have hbf6 : Bf w5 B s p m (C + 4000 * (outs.length : Int) + 2000) { t with S := S, G := G ++ [x] } := Bf.congr hbf5 (by rw [show pos (((j : Int), y2) :: S) (j : Int) = 0 from pos_head ((j : Int), y2) S]; rfl)
        have hf6 : Fine { t with S := S, G := G ++ [x] } := Fine.lose (t := { t with S := ((j : Int), y2) :: S, G := G ++ [x] }) HF4.out (List.sublist_cons_self _ _)
        have how5 := own_dt HOW4.out HB4.out (Dt.un (n := 1) hd5)
        have HD5 := Lib.hid (HD4.out.trans (Dt.un (n := 1) hd5))
        obtain ⟨rest', e1', e2'⟩ := adm_next HE.out (by show R.fits t.N (R.tot G) ((t.W j).length : Int) = true; rw [HX.out, hfit])
        have HE6 := Lib.hid (And.intro e1' e2')
        obtain ⟨wb, hwb⟩ : ∃ wb, w5.alloc (.cells #[.int .i64 (j : Int)] 3) = wb := ⟨_, rfl⟩
        have HWB := Lib.hid (show Below w5.heap.size w5 wb by rw [← hwb]; exact (Below.refl _ _).alloc (Nat.le_refl _) _)
        have src := K.sr_one K.ci w5 3 (j : Int)
        rw [show (K.ci (j : Int)).toArray = #[.int .i64 (j : Int)] from rfl, hwb] at src
        have hownb := K.own_below how5 HWB.out
        have hbs : w.heap.size ≤ wb.heap.size := Nat.le_trans HD5.out.size HWB.out.size
        have HB6 := Lib.hid (hbf6.below HWB.out)
        have HF6 := Lib.hid hf6
        have HD6 := Lib.hid (HD5.out.trans (.of_below HWB.out))
        obtain ⟨L, hLL⟩ : ∃ L, outs.length = L := ⟨_, rfl⟩
        have HLL := Lib.hid hLL
        have b2 : L + 1 ≤ 100000 := by have h1 := HL.out; have h2 := HN.out; omega
        unfold Ow at hownb
        rw [hLL] at hownb
        have HOWB := Lib.hid hownb
        clear hbf5 hd5 hbf6 hf6 how5 e1' e2' q4 hLL
        rw [HLL.out]
        have HBS := Lib.hid hbs
        clear hbs
        go_wp2_with (first
          | (refine K.wpList_append_one K.ki (by decide) rfl _ _ rfl w.heap.size (.slice XO L KO) outs (j : Int) L HLL.out rfl hownb _ 1 rfl src b2 HBS.out ?_
             intro X7 k7 w7 hown7 hgr7 hwh7
             have HO7 := Lib.hid hown7
             have HG7 := Lib.hid hgr7
             clear hown7 hgr7 hwh7 hownb src q5 hwb))
        have hlen : (outs ++ [(j : Int)]).length = L + 1 := by rw [List.length_append, HLL.out]; rfl
        have h1 := HL.out
        have h2 := HN.out
        have h3 := HLL.out
        simp only [List.length_cons] at h1
        refine ⟨⟨_, rfl, Lib.hid ⟨S, G ++ [x], outs ++ [(j : Int)], rest', by have := HE6.out.1; rw [show t.W (((j : Int), y2) : It).1.toNat = x from HX.out] at this; exact this, HE6.out.2, by rw [hlen]; omega, by unfold Ow; rw [hlen]; exact HO7.out, ?_, HF6.out, HD6.out.grown HG7.out (fun k hk => by obtain ⟨_, _, _, q, _⟩ := own_blk HOWB.out hk; exact q)⟩⟩, by simp only [lenV]; omega⟩
        exact (HB6.out.grown HOWB.out HG7.out).le (by rw [hlen, h3]; omega)
end Go.Proofs.Ytneimdjgbblaoaa
