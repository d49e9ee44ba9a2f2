/- The document's eventflag: IDs and Raise. -/
import Derived.Test.YthgcmjiebdnnfaaFgR
namespace Go.Proofs.Ythgcmjiebdnnfaa
open Go.RowKit
set_option maxRecDepth 100000

/-- a row of numbers to be read -/
def Nr (w : World) (X : Option Addr) (n : Nat) (l : List Int) : Prop :=
  l.length = n ∧ (0 < n → ∃ (g : Nat) (cs : Array Value), X = some ⟨g, 0, none⟩ ∧ w.heap[g]? = some (.cells cs 3 (0, 0)) ∧ ∀ (j : Nat) (z : Int), l[j]? = some z → cs[j]? = some (.int .i64 z))
theorem Nr.keep {w w' : World} {X : Option Addr} {n : Nat} {l : List Int} (h : Nr w X n l) (k : ∀ (g : Nat) (cs : Array Value), w.heap[g]? = some (.cells cs 3 (0, 0)) → w'.heap[g]? = w.heap[g]?) : Nr w' X n l := by
  refine ⟨h.1, fun h0 => ?_⟩
  obtain ⟨g, cs, h1, h2, h3⟩ := h.2 h0
  exact ⟨g, cs, h1, (k g cs h2).trans h2, h3⟩
theorem Nr.below {w w' : World} {X : Option Addr} {n : Nat} {l : List Int} (h : Nr w X n l) (k : Below w.heap.size w w') : Nr w' X n l := h.keep fun g _ hg => k.block g (lt_of_heap hg)
theorem nr_of {w : World} {B : Nat} {v : Value} {l : List Int} {n : Nat} (hn : l.length = n) (h : w.ownsRow B 3 1 v n (K.vals K.ci l)) : ∃ X k, v = .slice X n k ∧ Nr w X n l := by
  rcases h.2 with ⟨rfl, h0⟩ | ⟨g, cap, cur, rfl, _, hh, h1, h2, h3, h4⟩
  · exact ⟨none, 0, by rw [h0], hn, fun h => by omega⟩
  · refine ⟨_, cap, rfl, hn, fun _ => ⟨g, cur, rfl, hh, fun j z hz => ?_⟩⟩
    have hj := (List.getElem?_eq_some_iff.1 hz).1
    have a := K.vals_get K.ci_len l j 0 z (by omega) hz
    rw [Nat.mul_one, Nat.add_zero] at a
    rw [← h4, List.getElem?_take, if_pos (by omega)] at a
    have a2 : cur.toList[j]? = some (.int .i64 z) := a
    rw [← a2]; simp
theorem ids_take {L : List It} {t : Nat} {y : It} (h : L[t]? = some y) : (L.map Prod.fst).take (t + 1) = (L.map Prod.fst).take t ++ [y.1] := by
  rw [List.take_add_one, List.getElem?_map, h]; rfl

set_option maxHeartbeats 1600000 in
theorem rids_ok (q : Nat) (b : Bool) (L : List It) (w : World) (hl : Rq w q b L) (hn : L.length ≤ 16) :
    Calls Try.prog 38 #[.pointer (some ⟨q, 0, none⟩)] w fun e w' => ∃ X k, e = .returned (.slice X L.length k) ∧ Nr w' X L.length (L.map Prod.fst) ∧ Below w.heap.size w w' := by
  obtain ⟨n, hlen⟩ : ∃ n, L.length = n := ⟨_, rfl⟩
  have HLN := Lib.hid hlen
  have HQ := Lib.hid hl
  rw [hlen] at hn
  clear hl hlen
  go_enter Try.func38, Try.ntmps38
  go_wp2
  go_loopw [3, 4] (fun v i wr => ∃ (t : Nat) (vo : Value), t ≤ n ∧ vo = v ∧ i = .int .i64 (t : Int) ∧ wr.ownsRow w.heap.size 3 1 vo t (K.vals K.ci ((L.map Prod.fst).take t)) ∧ Below w.heap.size w wr) (fun _ i _ => n - (intOf i).toNat)
  case atStart => exact ⟨0, _, Nat.zero_le _, rfl, rfl, ⟨rfl, .inl ⟨rfl, rfl⟩⟩, Below.refl _ _⟩
  case round =>
    obtain ⟨t, vo, ht, rfl, rfl, hown, hb⟩ := hrel
    obtain ⟨X, k, _, c1, hs, hk1, hk2, _⟩ := (HQ.out.below hb).open
    rw [HLN.out] at c1 hs
    by_cases hlt : t < n
    · have hlt' : (t : Int) < (n : Int) := by omega
      obtain ⟨y, hy⟩ : ∃ y, L[t]? = some y := ⟨_, List.getElem?_eq_getElem (by rw [HLN.out]; exact hlt)⟩
      obtain ⟨g, o, rfl, hcl⟩ := slo hs (by rw [HLN.out]; omega)
      have hc0 := (hcl t y hy).1
      have HT := Lib.hid (ids_take hy)
      have HLT : Hid (((L.map Prod.fst).take t).length = t) := Lib.hid (by rw [List.length_take, List.length_map, HLN.out]; omega)
      have HOW := Lib.hid hown
      have HB := Lib.hid hb
      obtain ⟨yi, hyi⟩ : ∃ yi, y.1 = yi := ⟨_, rfl⟩
      rw [hyi] at hc0 HT
      have b2 : t + 1 ≤ 100000 := by omega
      clear hs hk1 hcl hown hb hyi hy hk2
      go_wp2_with (first
        | (at_builtin; refine K.wpList_append_row K.ki (by decide) rfl _ _ rfl w.heap.size vo ((L.map Prod.fst).take t) [yi] t HLT.out rfl (K.own_below HOW.out ((Below.refl _ _).alloc (Nat.le_refl _) _)) _ 1 1 rfl rfl (K.sr_one K.ci wr 3 yi) b2 (Nat.le_trans HB.out.size ((Below.refl wr.heap.size wr).alloc (Nat.le_refl _) _).size) (t + 1) rfl ?_; intro X8 k8 w8 hown8 hgrow8; have HB8 := Lib.hid ((HB.out.alloc HB.out.size _).grown hgrow8 (Nat.le_trans HB.out.size ((Below.refl wr.heap.size wr).alloc (Nat.le_refl _) _).size) (fun k hk => ((K.own_below HOW.out ((Below.refl _ _).alloc (Nat.le_refl _) (.cells (K.ci yi).toArray 3))).lt k hk).1)); have HO8 := Lib.hid hown8; clear hown8 hgrow8))
      refine ⟨⟨t + 1, _, by omega, rfl, by go_num, ?_, HB8.out⟩, by simp [intOf]; omega⟩
      rw [HT.out]; exact HO8.out
    · obtain rfl : t = n := by omega
      clear hk1 hk2
      go_wp2
      go_ret
      have e : (L.map Prod.fst).take t = L.map Prod.fst := List.take_of_length_le (by rw [List.length_map, HLN.out]; omega)
      rw [e] at hown
      obtain ⟨X8, k8, rfl, hnr⟩ := nr_of (by rw [List.length_map]; exact HLN.out) hown
      rw [HLN.out]
      exact ⟨_, _, rfl, hnr, hb⟩

/-- who was woken, in a row of the document's own -/
abbrev Or (w : World) (B : Nat) (v : Value) (o : List (Int × Int)) : Prop := w.ownsRow B 85 2 v o.length (K.vals K.cw o)
theorem or_on2 {w w' : World} {B s q n : Nat} {v : Value} {xs : List Value} {S : St} (h : w.ownsRow B 85 2 v n xs) (g : Rs w s q S) (k : On2 s q w w') : w'.ownsRow B 85 2 v n xs := by
  obtain ⟨f, q1, _, q3⟩ := g
  refine K.own_keep h fun g cs hg _ => k.block g (lt_of_heap hg) ?_ ?_
  · rintro rfl; exact q1.type (e := 85) (by decide) _ _ hg
  · rintro rfl; exact q3.type (e := 85) (by decide) _ _ hg
theorem nr_on2 {w w' : World} {s q n : Nat} {X : Option Addr} {l : List Int} {S : St} (h : Nr w X n l) (g : Rs w s q S) (k : On2 s q w w') : Nr w' X n l := by
  obtain ⟨f, q1, _, q3⟩ := g
  refine h.keep fun g cs hg => k.block g (lt_of_heap hg) ?_ ?_
  · rintro rfl; exact q1.type (e := 3) (by decide) _ _ hg
  · rintro rfl; exact q3.type (e := 3) (by decide) _ _ hg
theorem nr_grown {w w' : World} {B n m : Nat} {X : Option Addr} {vo : Value} {xs : List Value} {l : List Int} (h : Nr w X m l) (q : w.ownsRow B 85 2 vo n xs) (k : w.grownBy w' vo.ownBlock) : Nr w' X m l :=
  h.keep fun g cs hg => k.block g (lt_of_heap hg) (fun e => ow_type q hg (by decide) e.symm)
theorem rs_grown {w w' : World} {B n s q : Nat} {vo : Value} {xs : List Value} {S : St} (h : Rs w s q S) (o : w.ownsRow B 85 2 vo n xs) (k : w.grownBy w' vo.ownBlock) : Rs w' s q S := by
  obtain ⟨f, ⟨a, cs, hh, r⟩, q2, ⟨X, c, h1, h2, h3⟩⟩ := h
  exact ⟨f, ⟨a, cs, (k.block s (lt_of_heap hh) (fun e => ow_type o hh (by decide) e.symm)).trans hh, r⟩, q2, ⟨X, c, (k.block q (lt_of_heap h1) (fun e => ow_type o h1 (by decide) e.symm)).trans h1, h2.keep (fun g cs hg => k.block g (lt_of_heap hg) (fun e => ow_type o hg (by decide) e.symm)), h3⟩⟩
theorem or_alloc {w : World} {B n : Nat} {v : Value} {xs : List Value} (h : w.ownsRow B 85 2 v n xs) (o : Obj) : (w.alloc o).ownsRow B 85 2 v n xs := K.own_below h ((Below.refl _ _).alloc (Nat.le_refl _) o)
theorem cell_only {w w' : World} {s g t : Nat} {v : Value} (k : Only s w w') (hg : g ≠ s) (h : w.cell? ⟨g, t, none⟩ = some v ∧ g < w.heap.size) : w'.cell? ⟨g, t, none⟩ = some v ∧ g < w'.heap.size :=
  ⟨(k.cell (q := ⟨g, t, none⟩) h.2 hg).trans h.1, Nat.lt_of_lt_of_le h.2 k.size⟩
theorem cell_alloc {w : World} {g t : Nat} {v : Value} {o : Obj} (h : w.cell? ⟨g, t, none⟩ = some v ∧ g < w.heap.size) : (w.alloc o).cell? ⟨g, t, none⟩ = some v ∧ g < (w.alloc o).heap.size := by
  have hb := (Below.refl w.heap.size w).alloc (Nat.le_refl _) o
  exact ⟨(hb.cell (p := ⟨g, t, none⟩) h.2).trans h.1, Nat.lt_of_lt_of_le h.2 hb.size⟩
theorem cell_grown {w w' : World} {row : Option Nat} {g t : Nat} {v : Value} (k : w.grownBy w' row) (hne : row ≠ some g) (h : w.cell? ⟨g, t, none⟩ = some v ∧ g < w.heap.size) : w'.cell? ⟨g, t, none⟩ = some v ∧ g < w'.heap.size :=
  ⟨(World.cell?_of_block (w := w) (a := ⟨g, t, none⟩) (k.block g h.2 (fun e => hne e.symm))).trans h.1, Nat.lt_of_lt_of_le h.2 k.size⟩
theorem two_only {w w' : World} {s q g t : Nat} {u v : Value} (k : Only q w w') (hs : s ≠ q) (hg : g ≠ q) (h : w.cell? ⟨s, 0, none⟩ = some u ∧ w.cell? ⟨g, t, none⟩ = some v) : w'.cell? ⟨s, 0, none⟩ = some u ∧ w'.cell? ⟨g, t, none⟩ = some v :=
  ⟨(k.cell (q := ⟨s, 0, none⟩) (block_lt_of_cell h.1) hs).trans h.1, (k.cell (q := ⟨g, t, none⟩) (block_lt_of_cell h.2) hg).trans h.2⟩

set_option maxHeartbeats 4000000 in
theorem rraise_any (s q : Nat) (S S' : St) (out : List (Int × Int)) (A : Option Addr) (ys : List Int) (n cap : Nat) (w : World) (h : Rs w s q S) (hf : Fine S) (hu : Us w A s ys) (hn : ys.length = n) (hz : n ≤ 9223372036854775807) (hs : raise S ys = (S', out)) :
    Calls Try.prog 18 #[.pointer (some ⟨s, 0, none⟩), .slice A n cap] w fun e w' => ∃ v, e = .returned v ∧ Or w' w.heap.size v out ∧ Rs w' s q S' ∧ On2 s q w w' := by
  have HF := Lib.hid hf
  have HU := Lib.hid hu
  have HN := Lib.hid hn
  have HSP := Lib.hid h.ne
  have HS := Lib.hid hs
  have HQ := Lib.hid h
  clear h hf hu hn hs
  go_enter Try.func18, Try.ntmps18
  go_wp2
  go_loopw [5] (fun i wr => ∃ t : Nat, t ≤ n ∧ i = .int .i64 (t : Int) ∧ Rs wr s q (setx S (ors S.x (ys.take t))) ∧ Only s w wr) (fun i _ => n - (intOf i).toNat)
  case atStart => exact ⟨0, Nat.zero_le _, rfl, HQ.out, Only.refl _ _⟩
  case round =>
    obtain ⟨t, ht, rfl, hq, ho⟩ := hrel
    have HO := Lib.hid ho
    by_cases hlt : t < n
    · have hlt' : (t : Int) < (n : Int) := by omega
      obtain ⟨y, hy⟩ : ∃ y, ys[t]? = some y := ⟨_, List.getElem?_eq_getElem (by rw [HN.out]; exact hlt)⟩
      obtain ⟨b, o, rfl, hb1, hb2, hb3⟩ := (HU.out.only ho) (by rw [HN.out]; omega)
      have hc := hb3 t y hy
      have HX := Lib.hid (ors_take (x := S.x) hy)
      have hcx := hq.cx
      have z1 := hq.fz 35
      obtain ⟨X, hX⟩ : ∃ X, ors S.x (ys.take t) = X := ⟨_, rfl⟩
      simp only [setx, hX] at hcx
      rw [hX] at HX
      obtain ⟨u, hU⟩ : ∃ u, bits .or .u32 X y = u := ⟨_, rfl⟩
      have HU2 := Lib.hid hU
      have HS2 := Lib.hid (hq.drew.setX u)
      have HO2 := Lib.hid (ho.drew.setCell (q := ⟨s, 35, none⟩) (.inl rfl) (.int .u32 u))
      clear hq ho hb3 hy hX hb1
      go_wp2
      go_region
      go_wp2
      refine ⟨⟨t + 1, by omega, by go_num, ?_, HO2.out⟩, by simp [intOf]; omega⟩
      rw [HX.out, HU2.out]
      exact HS2.out
    · obtain rfl : t = n := by omega
      have HSW := Lib.hid (show wake (setx S (ors S.x ys)) = (S', out) from HS.out)
      rw [ors_all HN.out] at hq
      have HF1 := Lib.hid (HF.out.setx (ors S.x ys))
      obtain ⟨S1, h1⟩ : ∃ S1, setx S (ors S.x ys) = S1 := ⟨_, rfl⟩
      rw [h1] at hq HSW HF1
      clear h1 HS HF HU HQ
      obtain ⟨f0, q1, q2, q3⟩ := hq
      have HQ := Lib.hid (show Rs wr s q S1 from ⟨f0, q1, q2, q3⟩)
      have d0 := q1.c0
      have HR := Lib.hid (rids_ok q S1.b S1.L wr q3 HF1.out.q.len)
      clear q1 q2 q3 ho
      go_wp2_with fail
      refine HR.out.mono ?_
      rintro en w2 ⟨X, k, rfl, hsl, hb⟩
      obtain ⟨m, hm⟩ : ∃ m, S1.L.length = m := ⟨_, rfl⟩
      rw [hm] at hsl ⊢
      have HM := Lib.hid hm
      have hm16 : (m : Int) ≤ 16 := by have := HF1.out.q.len; omega
      have HQ2 := Lib.hid (HQ.out.below hb)
      have HO2 := Lib.hid ((On2.fst (p := q) HO.out).below2 (hb.mono HO.out.size))
      have HSL := Lib.hid hsl
      clear hsl hb hm HQ HO d0 HR
      go_wp2
      go_loopw [8, 6] (fun i o wr => ∃ (t : Nat) (vo : Value), t ≤ m ∧ i = .int .i64 (t : Int) ∧ vo = o ∧ (S1.c = true → none' S1 t) ∧ Or wr w.heap.size vo (outs S1 t) ∧ Rs wr s q (setl S1 (keep S1 t)) ∧ On2 s q w wr ∧ Nr wr X m (S1.L.map Prod.fst)) (fun i _ _ => m - (intOf i).toNat)
      case atStart =>
        refine ⟨0, _, Nat.zero_le _, rfl, rfl, fun _ => none_zero _, ?_, ?_, HO2.out, HSL.out⟩
        · rw [outs_zero]; exact ⟨rfl, .inl ⟨rfl, rfl⟩⟩
        · rw [keep_zero]; exact HQ2.out
      case round =>
        obtain ⟨t, vo, ht, rfl, rfl, hno, hown, hq, ho, hsl⟩ := hrel
        have HNO := Lib.hid hno
        have HOW := Lib.hid hown
        have HO := Lib.hid ho
        have HSL2 := Lib.hid hsl
        by_cases hlt : t < m
        · have hlt' : (t : Int) < (m : Int) := by omega
          obtain ⟨y, hy⟩ : ∃ y, S1.L[t]? = some y := ⟨_, List.getElem?_eq_getElem (by rw [HM.out]; exact hlt)⟩
          obtain ⟨g, cs, rfl, hgc, hcl⟩ := hsl.2 (by omega)
          have hc1 : wr.cell? ⟨g, t, none⟩ = some (.int .i64 y.1) := by
            rw [cell_of_row wr g t cs 3 (0, 0) hgc]; exact hcl t y.1 (by rw [List.getElem?_map, hy]; rfl)
          have hrng := HF1.out.q.rng y (List.mem_of_getElem? hy)
          have hper := HF1.out.per y (List.mem_of_getElem? hy)
          obtain ⟨j, hj⟩ : ∃ j : Nat, y.1 = (j : Int) := ⟨y.1.toNat, by omega⟩
          have hj17 : j < 17 := by omega
          have hji : (j : Int) < 17 := by omega
          rw [hj] at hc1
          have HY := Lib.hid hy
          have HJ := Lib.hid hj
          have hymem : y ∈ keep S1 t := List.mem_of_getElem? (keep_at hy)
          have HQ3 := Lib.hid hq
          obtain ⟨f0, q1, q2, q3⟩ := hq
          have hw := q2 y hymem
          have hcw := q1.cw hj17
          rw [hj] at hw
          rw [show (j : Int).toNat = j from rfl] at hw
          rw [hw] at hcw
          obtain ⟨hcw1, hcw2⟩ := hcw
          obtain ⟨v1, v2, hv⟩ : ∃ v1 v2, S1.W y.1 = (v1, v2) := ⟨_, _, rfl⟩
          rw [show (setl S1 (keep S1 t)).W (j : Int) = S1.W y.1 from by rw [hj]; rfl, hv] at hcw1 hcw2
          have hcx := q1.cx
          rw [show (setl S1 (keep S1 t)).x = S1.x from rfl] at hcx
          have hh : hit S1 y = met S1.x (v1, v2) := by unfold hit; rw [hv]
          rw [hv] at hper
          have HPER := Lib.hid hper
          have hgs : g ≠ s := by rintro rfl; exact q1.type (e := 3) (by decide) _ _ hgc
          have hgq : g ≠ q := by rintro rfl; exact q3.type (e := 3) (by decide) _ _ hgc
          have hglt := lt_of_heap hgc
          clear q1 q2 q3 hw hv hymem hrng hno hown ho hsl hy hj hcl hper
          have HGC := Lib.hid hgc
          clear hgc
          cases hm : hit S1 y with
          | false =>
            have HM2 := Lib.hid (fun W hx => rmeets_any s S1.x v1 v2 false W hx HPER.out (hh.symm.trans hm))
            go_wp2_with fail
            go_region_held3 (fun W => W.cell? ⟨g, t, none⟩ = some (.int .i64 (j : Int)) ∧ W.cell? ⟨s, 1 + j * 2, none⟩ = some (.int .u32 v1) ∧ W.cell? ⟨s, 1 + j * 2 + 1, none⟩ = some (.int .i64 v2) ∧ W.cell? ⟨s, 35, none⟩ = some (.int .u32 S1.x))
              (first | exact ⟨hc1, hcw1, hcw2, hcx⟩ | exact four_below hb5 (by assumption) | assumption)
              (first
                | (go_at_call 35; refine (HM2.out _ (And.right (And.right (And.right (by assumption))))).mono ?_; rintro en w5 ⟨rfl, hb5⟩))
            have hb6 : Below wr.heap.size wr w5 := ⟨hb5.os, hb5.tape, hb5.output, hb5.size, hb5.block⟩
            have HQ5 := Lib.hid (HQ3.out.below hb6)
            have HO5 := Lib.hid (HO.out.below2 (hb6.mono HO.out.size))
            have HSL5 := Lib.hid (HSL2.out.below hb6)
            have HOW5 := Lib.hid (K.own_below HOW.out hb6)
            clear hb5 hb6 hc1 hcw1 hcw2 hcx HM2
            go_wp2
            refine ⟨⟨t + 1, _, by omega, by go_num, rfl, fun hc => none_no (HNO.out hc) HY.out hm, ?_, ?_, HO5.out, HSL5.out⟩, by simp [intOf]; omega⟩
            · rw [outs_no HY.out hm]; exact HOW5.out
            · rw [keep_no HY.out hm]; exact HQ5.out
          | true =>
            have HM2 := Lib.hid (fun W hx => rmeets_any s S1.x v1 v2 true W hx HPER.out (hh.symm.trans hm))
            go_wp2_with fail
            go_region_held3 (fun W => W.cell? ⟨g, t, none⟩ = some (.int .i64 (j : Int)) ∧ W.cell? ⟨s, 1 + j * 2, none⟩ = some (.int .u32 v1) ∧ W.cell? ⟨s, 1 + j * 2 + 1, none⟩ = some (.int .i64 v2) ∧ W.cell? ⟨s, 35, none⟩ = some (.int .u32 S1.x))
              (first | exact ⟨hc1, hcw1, hcw2, hcx⟩ | exact four_below hb5 (by assumption) | assumption)
              (first
                | (go_at_call 35; refine (HM2.out _ (And.right (And.right (And.right (by assumption))))).mono ?_; rintro en w5 ⟨rfl, hb5⟩))
            have hb6 : Below wr.heap.size wr w5 := ⟨hb5.os, hb5.tape, hb5.output, hb5.size, hb5.block⟩
            have HQ5 := Lib.hid (HQ3.out.below hb6)
            have HO5 := Lib.hid (HO.out.below2 (hb6.mono HO.out.size))
            have HSL5 := Lib.hid (HSL2.out.below hb6)
            have HOW5 := Lib.hid (K.own_below HOW.out hb6)
            have q5 : w5.cell? ⟨g, t, none⟩ = some (.int .i64 (j : Int)) := (hb6.cell (p := ⟨g, t, none⟩) hglt).trans hc1
            have hglt5 : g < w5.heap.size := Nat.lt_of_lt_of_le hglt hb6.size
            have hgc5 : w5.heap[g]? = _ := (hb6.block g hglt).trans HGC.out
            have HGC5 := Lib.hid hgc5
            have d0 := HQ5.out.c0
            obtain ⟨rd, hrd⟩ : ∃ rd, decide (pos (keep S1 t) (j : Int) < (keep S1 t).length) = rd := ⟨_, rfl⟩
            have hrq5 : Rq w5 q S1.b (keep S1 t) := by obtain ⟨f, _, _, h3⟩ := HQ5.out; exact h3
            have HD := Lib.hid (rremove_any q S1.b (keep S1 t) w5.drew hrq5 (Nat.le_trans (keep_sub S1 t).length_le HF1.out.q.len) (j : Int))
            rw [hrd] at HD
            have hkey := (keep_yes HF1.out.q HY.out hm).1
            rw [HJ.out] at hkey
            rw [hkey] at HD
            clear hb5 hb6 hc1 hcw1 hcw2 hcx HM2 hrd hkey hgc5 hrq5 hglt HGC
            go_wp2_with fail
            go_region_held3 (fun W => W.cell? ⟨s, 0, none⟩ = some (.pointer (some ⟨q, 0, none⟩)) ∧ W.cell? ⟨g, t, none⟩ = some (.int .i64 (j : Int)))
              (first | exact ⟨d0, q5⟩ | exact two_only ho6 HSP.out hgq (by assumption) | assumption)
              (first
                | (go_at_call 21; refine HD.out.mono ?_; rintro en w6 ⟨rfl, h6, ho6⟩))
            have ho7 : On2 s q w5 w6 := (On2.refl s q w5).drew.trans (On2.one ho6)
            have HSL6 := Lib.hid (nr_on2 HSL5.out HQ5.out ho7)
            have HOW6 := Lib.hid (or_on2 HOW5.out HQ5.out ho7)
            have HO6 := Lib.hid (HO5.out.trans ho7)
            have q6 : w6.cell? ⟨g, t, none⟩ = some (.int .i64 (j : Int)) := (ho7.cell (q := ⟨g, t, none⟩) hglt5 hgs hgq).trans q5
            have hglt6 : g < w6.heap.size := Nat.lt_of_lt_of_le hglt5 ho7.size
            have hgc6 : w6.heap[g]? = _ := (ho7.block g hglt5 hgs hgq).trans HGC5.out
            have HNE := Lib.hid (ow_type HOW6.out hgc6 (by decide))
            have HQ6 : Hid (Rs w6 s q (setl S1 (keep S1 (t + 1)))) := Lib.hid (by
              obtain ⟨f, q1, q2, _⟩ := HQ5.out
              refine ⟨f, q1.drew.only ho6 HSP.out, fun z hz => q2 z ?_, h6⟩
              have := (keep_yes HF1.out.q HY.out hm).1
              have hz2 : z ∈ keep S1 (t + 1) := hz
              rw [← this] at hz2
              exact List.mem_of_mem_eraseIdx hz2)
            clear h6 ho6 ho7 q5 d0 HSL5 HOW5 HO5 HQ5 HD HGC5 hgc6 hglt5
            go_wp2_with fail
            have HG := Lib.hid (rgot_any s q (setl S1 (keep S1 (t + 1))) w6.drew HQ6.out.drew)
            rw [show (setl S1 (keep S1 (t + 1))).x = S1.x from rfl] at HG
            obtain ⟨n1, hn1⟩ : ∃ n1, (outs S1 t).length = n1 := ⟨_, rfl⟩
            have b2 : n1 + 1 ≤ 100000 := by
              have h1 : (outs S1 t).length ≤ S1.L.length := by unfold outs; rw [List.length_map]; exact Nat.le_trans (List.length_filter_le _ _) (by rw [List.length_take]; omega)
              have := HF1.out.q.len
              omega
            have HN1 := Lib.hid hn1
            have HOWd : Hid (w6.drew.ownsRow w.heap.size 85 2 vo n1 (K.vals K.cw (outs S1 t))) := Lib.hid (by rw [← hn1]; exact HOW6.out)
            clear hn1
            go_region_held3 (fun W => W.cell? ⟨g, t, none⟩ = some (.int .i64 (j : Int)) ∧ g < W.heap.size)
              (first | exact ⟨q6, hglt6⟩ | exact cell_only ho8 hgs (by assumption) | exact cell_alloc (by assumption) | exact cell_grown hgrow8 HNE.out (by assumption) | assumption)
              (first
                | (go_at_call 36; refine HG.out.mono ?_; rintro en w7 ⟨rfl, h7, ho8⟩; have hown7 := or_on2 HOWd.out HQ6.out.drew (On2.fst ho8))
                | (refine K.step_append_row K.kv (by decide) rfl _ _ rfl w.heap.size vo (outs S1 t) [((j : Int), S1.x)] n1 HN1.out rfl (or_alloc hown7 _) _ 1 1 rfl rfl (K.sr_one K.cw _ 85 ((j : Int), S1.x)) b2 (size7 HO6.out ho8 _) (n1 + 1) rfl ?_; intro X8 k8 w8 hown8 hgrow8))
            all_goals
              have HQ8 := Lib.hid (rs_grown (h7.alloc _) (or_alloc hown7 _) hgrow8)
              have HO8 := Lib.hid (((HO6.out.drew.trans (On2.fst ho8)).alloc _).grown hgrow8 (fun k hk => ((or_alloc hown7 (.cells (K.cw ((j : Int), S1.x)).toArray 85)).lt k hk).1))
              have HSL8 := Lib.hid (nr_grown ((nr_on2 HSL6.out HQ6.out ((On2.refl s q w6).drew.trans (On2.fst ho8))).below ((Below.refl _ _).alloc (Nat.le_refl _) _)) (or_alloc hown7 _) hgrow8)
              have hlen8 : (outs S1 (t + 1)).length = n1 + 1 := by rw [outs_yes HY.out hm, List.length_append, HN1.out]; rfl
              have HOW8 : Hid (Or w8 w.heap.size (.slice X8 (n1 + 1) k8) (outs S1 (t + 1))) := Lib.hid (by
                show w8.ownsRow w.heap.size 85 2 _ (outs S1 (t + 1)).length _
                rw [hlen8, outs_yes HY.out hm, HJ.out]; exact hown8)
              have d3 := HQ8.out.cc
              rw [show (got (setl S1 (keep S1 (t + 1)))).c = S1.c from rfl] at d3
              clear h7 ho8 hown7 hown8 hgrow8 q6 hglt6 HOWd HO6 HSL6 HOW6 HQ6 HG HNE hlen8 b2
              cases hcc : S1.c with
              | true =>
                rw [hcc] at d3
                go_wp2
                go_ret
                obtain ⟨e1, e2⟩ := wake_cut HSW.out HF1.out.q hcc (HNO.out hcc) HY.out hm
                subst e1 e2
                refine ⟨_, rfl, HOW8.out, ?_, HO8.out⟩
                have := HQ8.out
                unfold got setx at this
                rw [show (setl S1 (keep S1 (t + 1))).c = true from hcc] at this
                rw [hcc]
                exact this
              | false =>
                rw [hcc] at d3
                go_wp2
                refine ⟨⟨t + 1, _, by omega, by go_num, rfl, fun hc => (by rw [hcc] at hc; cases hc), HOW8.out, ?_, HO8.out, HSL8.out⟩, by simp [intOf]; omega⟩
                have := HQ8.out
                unfold got setx at this
                rw [show (setl S1 (keep S1 (t + 1))).c = false from hcc] at this
                unfold setl
                rw [hcc]
                exact this
        · obtain rfl : t = m := by omega
          have HQ3 := Lib.hid hq
          clear hno hown hq ho hsl
          go_wp2
          go_ret
          have hwe := wake_end HSW.out (fun hc => by rw [HM.out]; exact HNO.out hc)
          rw [HM.out] at hwe
          obtain ⟨e1, e2⟩ := hwe
          subst e1 e2
          exact ⟨_, rfl, HOW.out, HQ3.out, HO.out⟩
end Go.Proofs.Ythgcmjiebdnnfaa
