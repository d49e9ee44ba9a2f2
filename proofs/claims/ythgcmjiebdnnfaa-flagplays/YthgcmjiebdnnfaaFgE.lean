/- Contracts of package flag: Raise. -/
import Derived.Test.YthgcmjiebdnnfaaFgD
namespace Go.Proofs.Ythgcmjiebdnnfaa
open Go.RowKit
set_option maxRecDepth 100000

/-- numbers handed in, that lie elsewhere than block s -/
def Us (w : World) (A : Option Addr) (s : Nat) (ys : List Int) : Prop :=
  0 < ys.length → ∃ b o : Nat, A = some ⟨b, o, none⟩ ∧ b < w.heap.size ∧ b ≠ s ∧ ∀ (j : Nat) (y : Int), ys[j]? = some y → w.cell? ⟨b, o + j, none⟩ = some (.int .u32 y)
theorem Us.only {w w' : World} {A : Option Addr} {s : Nat} {ys : List Int} (h : Us w A s ys) (k : Only s w w') : Us w' A s ys := fun h0 => by
  obtain ⟨b, o, h1, h2, h3, h4⟩ := h h0
  exact ⟨b, o, h1, Nat.lt_of_lt_of_le h2 k.size, h3, fun j y hy => (k.cell (q := ⟨b, o + j, none⟩) h2 h3).trans (h4 j y hy)⟩
theorem Us.below {w w' : World} {A : Option Addr} {s : Nat} {ys : List Int} (h : Us w A s ys) (k : Below w.heap.size w w') : Us w' A s ys := h.only (Only.of_below k)
theorem ors_take {x : Int} {ys : List Int} {t : Nat} {y : Int} (h : ys[t]? = some y) : ors x (ys.take (t + 1)) = bits .or .u32 (ors x (ys.take t)) y := by
  unfold ors; rw [List.take_add_one, h, List.foldl_append]; rfl
theorem ors_zero (x : Int) (ys : List Int) : ors x (ys.take 0) = x := rfl
theorem ors_all {x : Int} {ys : List Int} {n : Nat} (h : ys.length = n) : ors x (ys.take n) = ors x ys := by rw [List.take_of_length_le (by omega)]

theorem On2.grown {s p : Nat} {a w w' : World} {row : Option Nat} (h : On2 s p a w) (g : w.grownBy w' row) (hr : ∀ k, row = some k → a.heap.size ≤ k) : On2 s p a w' :=
  ⟨g.os.trans h.os, g.tape.trans h.tape, g.output.trans h.output, Nat.le_trans h.size g.size, fun k hk h1 h2 => (g.block k (Nat.lt_of_lt_of_le hk h.size) (fun e => by have := hr k e.symm; omega)).trans (h.block k hk h1 h2)⟩

theorem slf {w : World} {e : TypeId} {v : Value} {L : List It} (h : Sl w e v L) : ∃ (X : Option Addr) (k : Nat), v = .slice X L.length k ∧ L.length ≤ k ∧ k ≤ 9223372036854775807 := by
  rcases h with ⟨rfl, rfl⟩ | ⟨g, o, k, cs, h1, h2, h3, h4, h5⟩
  · exact ⟨none, 0, rfl, by simp, by omega⟩
  · exact ⟨_, k, h1, h2, h3⟩

theorem slo {w : World} {e : TypeId} {X : Option Addr} {m k : Nat} {L : List It} (h : Sl w e (.slice X m k) L) (h0 : 0 < L.length) : ∃ g o : Nat, X = some ⟨g, o, none⟩ ∧ ∀ (j : Nat) (x : It), L[j]? = some x → w.cell? ⟨g, o + j * 2, none⟩ = some (.int .i64 x.1) ∧ w.cell? ⟨g, o + j * 2 + 1, none⟩ = some (.int .i64 x.2) := by
  rcases h with ⟨_, h⟩ | ⟨g, o, k, cs, h1, h2, h3, h4, h5⟩
  · subst h; simp at h0
  · injection h1 with h1
    exact ⟨g, o, h1, fun j x hx => Sl.cell h4 h5 hx⟩

/-- who was woken, in a row of one's own -/
abbrev Ow (w : World) (B : Nat) (v : Value) (o : List (Int × Int)) : Prop := w.ownsRow B 74 2 v o.length (K.vals K.cw o)
theorem ow_type {w : World} {B e z n : Nat} {v : Value} {xs : List Value} (h : w.ownsRow B e z v n xs) {g : Nat} {cs : Array Value} {f : TypeId} {fr : Nat × Nat} (hg : w.heap[g]? = some (.cells cs f fr)) (he : f ≠ e) : v.ownBlock ≠ some g := by
  rcases h.2 with ⟨rfl, _⟩ | ⟨g', cap, cur, rfl, _, hh, _⟩
  · simp [Value.ownBlock]
  · intro e1
    simp [Value.ownBlock] at e1
    subst e1
    rw [hh] at hg; injection hg with hg; injection hg with _ h3; exact he h3.symm

theorem four_below {a b c d : Addr} {x y z u : Value} {W W' : World} (hb : Below W.heap.size W W') (h : W.cell? a = some x ∧ W.cell? b = some y ∧ W.cell? c = some z ∧ W.cell? d = some u) :
    W'.cell? a = some x ∧ W'.cell? b = some y ∧ W'.cell? c = some z ∧ W'.cell? d = some u :=
  ⟨(hb.cell (p := a) (block_lt_of_cell h.1)).trans h.1, (hb.cell (p := b) (block_lt_of_cell h.2.1)).trans h.2.1, (hb.cell (p := c) (block_lt_of_cell h.2.2.1)).trans h.2.2.1, (hb.cell (p := d) (block_lt_of_cell h.2.2.2)).trans h.2.2.2⟩

theorem ow_on2 {w w' : World} {B s p : Nat} {v : Value} {o : List (Int × Int)} {S : St} (h : Ow w B v o) (q : Sq w s p S) (k : On2 s p w w') : Ow w' B v o := by
  obtain ⟨f, q1, _, q3⟩ := q
  refine K.own_keep h fun g cs hg _ => k.block g (lt_of_heap hg) ?_ ?_
  · rintro rfl; exact q1.type (e := 74) (by decide) _ _ hg
  · rintro rfl; exact q3.type (e := 74) (by decide) _ _ hg
theorem sl_on2 {w w' : World} {s p : Nat} {v : Value} {L : List It} {S : St} (h : Sl w 65 v L) (q : Sq w s p S) (k : On2 s p w w') : Sl w' 65 v L := by
  obtain ⟨f, q1, _, q3⟩ := q
  refine h.keep fun g cs hg => k.block g (lt_of_heap hg) ?_ ?_
  · rintro rfl; exact q1.type (e := 65) (by decide) _ _ hg
  · rintro rfl; exact q3.type (e := 65) (by decide) _ _ hg
theorem sl_grown {w w' : World} {B n : Nat} {v vo : Value} {xs : List Value} {L : List It} (h : Sl w 65 v L) (q : w.ownsRow B 74 2 vo n xs) (k : w.grownBy w' vo.ownBlock) : Sl w' 65 v L :=
  h.keep fun g cs hg => k.block g (lt_of_heap hg) (fun e => ow_type q hg (by decide) e.symm)
theorem sq_grown {w w' : World} {B n s p : Nat} {vo : Value} {xs : List Value} {S : St} (h : Sq w s p S) (q : w.ownsRow B 74 2 vo n xs) (k : w.grownBy w' vo.ownBlock) : Sq w' s p S := by
  obtain ⟨f, ⟨a, cs, hh, r⟩, q2, ⟨f3, ⟨cs3, hh3, r3⟩, r4⟩⟩ := h
  exact ⟨f, ⟨a, cs, (k.block s (lt_of_heap hh) (fun e => ow_type q hh (by decide) e.symm)).trans hh, r⟩, q2, ⟨f3, ⟨cs3, (k.block p (lt_of_heap hh3) (fun e => ow_type q hh3 (by decide) e.symm)).trans hh3, r3⟩, r4⟩⟩

theorem ow_only {w w' : World} {B s p n : Nat} {v : Value} {o : List (Int × Int)} {S : St} (h : w.ownsRow B 74 2 v n (K.vals K.cw o)) (q : Sq w s p S) (k : Only s w w') : w'.ownsRow B 74 2 v n (K.vals K.cw o) := by
  obtain ⟨f, q1, _, q3⟩ := q
  exact K.own_keep h fun g cs hg _ => k.block g (lt_of_heap hg) (by rintro rfl; exact q1.type (e := 74) (by decide) _ _ hg)
theorem own_alloc7 {w : World} {B n : Nat} {v : Value} {xs : List Value} (h : w.ownsRow B 74 2 v n xs) (o : Obj) : (w.alloc o).ownsRow B 74 2 v n xs := K.own_below h ((Below.refl _ _).alloc (Nat.le_refl _) o)
theorem size7 {w w6 w7 : World} {s p : Nat} (h : On2 s p w w6) (k : Only s w6.drew w7) (o : Obj) : w.heap.size ≤ (w7.alloc o).heap.size := by
  have h1 := h.size
  have h2 : w6.heap.size ≤ w7.heap.size := k.size
  have h3 : (w7.alloc o).heap.size = w7.heap.size + 1 := by show (w7.heap.push o).size = _; simp
  omega
theorem box_only {w w' : World} {s g : Nat} {v : Value} (k : Only s w w') (hg : g ≠ s) (h : w.cell? ⟨g, 0, none⟩ = some v ∧ g < w.heap.size) : w'.cell? ⟨g, 0, none⟩ = some v ∧ g < w'.heap.size :=
  ⟨(k.cell (q := ⟨g, 0, none⟩) h.2 hg).trans h.1, Nat.lt_of_lt_of_le h.2 k.size⟩
theorem box_alloc {w : World} {g : Nat} {v : Value} {o : Obj} (h : w.cell? ⟨g, 0, none⟩ = some v ∧ g < w.heap.size) : (w.alloc o).cell? ⟨g, 0, none⟩ = some v ∧ g < (w.alloc o).heap.size := by
  have hb := (Below.refl w.heap.size w).alloc (Nat.le_refl _) o
  exact ⟨(hb.cell (p := ⟨g, 0, none⟩) h.2).trans h.1, Nat.lt_of_lt_of_le h.2 hb.size⟩

theorem box_grown {w w' : World} {row : Option Nat} {g : Nat} {v : Value} (k : w.grownBy w' row) (hne : row ≠ some g) (h : w.cell? ⟨g, 0, none⟩ = some v ∧ g < w.heap.size) : w'.cell? ⟨g, 0, none⟩ = some v ∧ g < w'.heap.size :=
  ⟨(World.cell?_of_block (w := w) (a := ⟨g, 0, none⟩) (k.block g h.2 (fun e => hne e.symm))).trans h.1, Nat.lt_of_lt_of_le h.2 k.size⟩

set_option maxHeartbeats 4000000 in
theorem raise_any (s p : Nat) (S S' : St) (out : List (Int × Int)) (A : Option Addr) (ys : List Int) (n cap : Nat) (w : World) (h : Sq w s p S) (hf : Fine S) (hu : Us w A s ys) (hn : ys.length = n) (hz : n ≤ 9223372036854775807) (hs : raise S ys = (S', out)) :
    Calls Try.prog 17 #[.pointer (some ⟨s, 0, none⟩), .slice A n cap] w fun e w' => ∃ v, e = .returned v ∧ Ow w' w.heap.size v out ∧ Sq w' s p S' ∧ On2 s p w w' := by
  have HE := Lib.hid (ensure_ok s p S w h)
  have HF := Lib.hid hf
  have HU := Lib.hid hu
  have HN := Lib.hid hn
  have HSP := Lib.hid h.ne
  have HS := Lib.hid hs
  have HQ := Lib.hid h
  clear h hf hu hn hs
  go_enter Try.func17, Try.ntmps17
  go_wp2_with fail
  refine HE.out.mono ?_
  rintro en w1 ⟨rfl, rfl⟩
  clear HE
  go_wp2
  go_loopw [14] (fun i wr => ∃ t : Nat, t ≤ n ∧ i = .int .i64 (t : Int) ∧ Sq wr s p (setx S (ors S.x (ys.take t))) ∧ Only s w wr) (fun i _ => n - (intOf i).toNat)
  case atStart => exact ⟨0, Nat.zero_le _, rfl, HQ.out, Only.refl _ _⟩
  case round =>
    obtain ⟨t, ht, rfl, hq, ho⟩ := hrel
    have HO := Lib.hid ho
    by_cases hlt : t < n
    · have hlt' : (t : Int) < (n : Int) := by omega
      obtain ⟨y, hy⟩ : ∃ y, ys[t]? = some y := ⟨_, List.getElem?_eq_getElem (by rw [HN.out]; exact hlt)⟩
      obtain ⟨b, o, rfl, hb1, hb2, hb3⟩ := (HU.out.only ho) (by rw [HN.out]; omega)
      have hc := hb3 t y hy
      have HX := Lib.hid (ors_take (x := S.x) hy)
      have hcx := hq.c1
      have z1 := hq.fz 1
      obtain ⟨X, hX⟩ : ∃ X, ors S.x (ys.take t) = X := ⟨_, rfl⟩
      simp only [setx, hX] at hcx
      rw [hX] at HX
      obtain ⟨u, hU⟩ : ∃ u, bits .or .u32 X y = u := ⟨_, rfl⟩
      have HU2 := Lib.hid hU
      have HS2 := Lib.hid (hq.setX u)
      have HO2 := Lib.hid (ho.setCell (q := ⟨s, 1, none⟩) (.inl rfl) (.int .u32 u))
      clear hq ho hb3 hy hX hb1
      go_wp2
      refine ⟨⟨t + 1, by omega, by go_num, ?_, HO2.out⟩, by simp [intOf]; omega⟩
      rw [HX.out, HU2.out]
      exact HS2.out
    · obtain rfl : t = n := by omega
      have HSW := Lib.hid (show wake (setx S (ors S.x ys)) = (S', out) from HS.out)
      rw [ors_all HN.out] at hq
      have HF1 := Lib.hid (HF.out.setx (ors S.x ys))
      obtain ⟨S1, h1⟩ : ∃ S1, setx S (ors S.x ys) = S1 := ⟨_, rfl⟩
      rw [h1] at hq HSW HF1
      clear h1 HS HF HU HQ
      obtain ⟨f0, q1, q2, q3⟩ := hq
      have HQ := Lib.hid (show Sq wr s p S1 from ⟨f0, q1, q2, q3⟩)
      have d0 := q1.c0
      have HR := Lib.hid (row_ok p 70 S1.b S1.L wr q3 HF1.out.q.len)
      clear q1 q2 q3 ho
      go_wp2_with fail
      refine HR.out.mono ?_
      rintro en w2 ⟨v, rfl, hsl, hb⟩
      obtain ⟨X, k, rfl, hk1, hk2⟩ := slf hsl
      obtain ⟨m, hm⟩ : ∃ m, S1.L.length = m := ⟨_, rfl⟩
      rw [hm] at hsl hk1 ⊢
      have HM := Lib.hid hm
      have HQ2 := Lib.hid (HQ.out.below hb)
      have HO2 := Lib.hid ((On2.fst (p := p) HO.out).below2 (hb.mono HO.out.size))
      have HSL := Lib.hid hsl
      clear hsl hb hm HQ HO d0 HR
      go_wp2
      go_loopw [35, 7] (fun i o wr => ∃ (t : Nat) (vo : Value), t ≤ m ∧ i = .int .i64 (t : Int) ∧ vo = o ∧ (S1.c = true → none' S1 t) ∧ Ow wr w.heap.size vo (outs S1 t) ∧ Sq wr s p (setl S1 (keep S1 t)) ∧ On2 s p w wr ∧ Sl wr 65 (.slice X m k) S1.L) (fun i _ _ => m - (intOf i).toNat)
      case atStart =>
        refine ⟨0, _, Nat.zero_le _, rfl, rfl, fun _ => none_zero _, ?_, ?_, HO2.out, HSL.out⟩
        · rw [outs_zero]; exact ⟨rfl, .inl ⟨rfl, rfl⟩⟩
        · rw [keep_zero]; exact HQ2.out
      case round =>
        obtain ⟨t, vo, ht, rfl, rfl, hno, hown, hq, ho, hsl⟩ := hrel
        have HNO := Lib.hid hno
        have HOW := Lib.hid hown
        have HO := Lib.hid ho
        have HSL2 := Lib.hid hsl
        by_cases hlt : t < m
        · have hlt' : (t : Int) < (m : Int) := by omega
          obtain ⟨y, hy⟩ : ∃ y, S1.L[t]? = some y := ⟨_, List.getElem?_eq_getElem (by rw [HM.out]; exact hlt)⟩
          obtain ⟨g, oo, rfl, hcl⟩ := slo hsl (by rw [HM.out]; omega)
          obtain ⟨hc1, hc2⟩ := hcl t y hy
          have hrng := HF1.out.q.rng y (List.mem_of_getElem? hy)
          obtain ⟨j, hj⟩ : ∃ j : Nat, y.1 = (j : Int) := ⟨y.1.toNat, by omega⟩
          have hj17 : j < 17 := by omega
          have hji : (j : Int) < 17 := by omega
          rw [hj] at hc1
          have HY := Lib.hid hy
          have HJ := Lib.hid hj
          have hymem : y ∈ keep S1 t := List.mem_of_getElem? (keep_at hy)
          have HQ3 := Lib.hid hq
          obtain ⟨f0, q1, q2, q3⟩ := hq
          have hw := q2 y hymem
          have hcw := q1.cw hj17
          rw [hj] at hw
          rw [show (j : Int).toNat = j from rfl] at hw
          rw [hw] at hcw
          obtain ⟨hcw1, hcw2⟩ := hcw
          obtain ⟨v1, v2, hv⟩ : ∃ v1 v2, S1.W y.1 = (v1, v2) := ⟨_, _, rfl⟩
          rw [show (setl S1 (keep S1 t)).W (j : Int) = S1.W y.1 from by rw [hj]; rfl, hv] at hcw1 hcw2
          have hcx := q1.cx
          rw [show (setl S1 (keep S1 t)).x = S1.x from rfl] at hcx
          have hh : hit S1 y = met S1.x (v1, v2) := by unfold hit; rw [hv]
          have hs0 := q1.lt
          have HWR := Lib.hid (show Below wr.heap.size wr (wr.alloc (.cells #[.int .i64 (j : Int), .int .i64 y.2] 65)) from (Below.refl _ _).alloc (Nat.le_refl _) _)
          have bx := box_new wr 65 (.int .i64 (j : Int)) (.int .i64 y.2)
          have hbs : s ≠ wr.heap.size := by omega
          have hp0 := q3.lt
          have hbp : p ≠ wr.heap.size := by omega
          clear hcl q1 q2 q3 hw hv hymem hrng hno hown ho hsl hy hj
          go_wp2
          have HQ4 := Lib.hid (HQ3.out.below HWR.out)
          have HO4 := Lib.hid (HO.out.below2 (HWR.out.mono HO.out.size))
          have HSL4 := Lib.hid (HSL2.out.below HWR.out)
          have HOW4 := Lib.hid (K.own_below HOW.out HWR.out)
          have q0 := bx.c0
          have hcw1 := (HWR.out.cell (p := ⟨s, 4 + j * 2, none⟩) hs0).trans hcw1
          have hcw2 := (HWR.out.cell (p := ⟨s, 4 + j * 2 + 1, none⟩) hs0).trans hcw2
          have hcx := (HWR.out.cell (p := ⟨s, 1, none⟩) hs0).trans hcx
          have HBX := Lib.hid bx
          obtain ⟨gb, hgb⟩ : ∃ gb, wr.heap.size = gb := ⟨_, rfl⟩
          rw [hgb] at hbs hbp q0 HBX ⊢
          clear hgb hc1 hc2 bx HWR HQ3 HO HSL2 HOW
          generalize wr.alloc (.cells #[.int .i64 (j : Int), .int .i64 y.2] 65) = wa at *
          cases hm : hit S1 y with
          | false =>
            have HM2 := Lib.hid (fun W => metBy_any S1.x v1 v2 false W (hh.symm.trans hm))
            go_region_held3 (fun W => W.cell? ⟨gb, 0, none⟩ = some (.int .i64 (j : Int)) ∧ W.cell? ⟨s, 4 + j * 2, none⟩ = some (.int .u32 v1) ∧ W.cell? ⟨s, 4 + j * 2 + 1, none⟩ = some (.int .i64 v2) ∧ W.cell? ⟨s, 1, none⟩ = some (.int .u32 S1.x))
              (first | exact ⟨q0, hcw1, hcw2, hcx⟩ | exact four_below hb5 (by assumption) | assumption)
              (first
                | (go_at_call 33; refine (HM2.out _).mono ?_; rintro en w5 ⟨rfl, hb5⟩))
            have hb6 : Below wa.heap.size wa w5 := ⟨hb5.os, hb5.tape, hb5.output, hb5.size, hb5.block⟩
            have HQ5 := Lib.hid (HQ4.out.below hb6)
            have HO5 := Lib.hid (HO4.out.below2 (hb6.mono HO4.out.size))
            have HSL5 := Lib.hid (HSL4.out.below hb6)
            have HOW5 := Lib.hid (K.own_below HOW4.out hb6)
            clear hb5 hb6 q0 hcw1 hcw2 hcx HM2
            go_wp2
            refine ⟨⟨t + 1, _, by omega, by go_num, rfl, fun hc => none_no (HNO.out hc) HY.out hm, ?_, ?_, HO5.out, HSL5.out⟩, by simp [intOf]; omega⟩
            · rw [outs_no HY.out hm]; exact HOW5.out
            · rw [keep_no HY.out hm]; exact HQ5.out
          | true =>
            have HM2 := Lib.hid (fun W => metBy_any S1.x v1 v2 true W (hh.symm.trans hm))
            go_region_held3 (fun W => W.cell? ⟨gb, 0, none⟩ = some (.int .i64 (j : Int)) ∧ W.cell? ⟨s, 4 + j * 2, none⟩ = some (.int .u32 v1) ∧ W.cell? ⟨s, 4 + j * 2 + 1, none⟩ = some (.int .i64 v2) ∧ W.cell? ⟨s, 1, none⟩ = some (.int .u32 S1.x))
              (first | exact ⟨q0, hcw1, hcw2, hcx⟩ | exact four_below hb5 (by assumption) | assumption)
              (first
                | (go_at_call 33; refine (HM2.out _).mono ?_; rintro en w5 ⟨rfl, hb5⟩))
            have hb6 : Below wa.heap.size wa w5 := ⟨hb5.os, hb5.tape, hb5.output, hb5.size, hb5.block⟩
            have HQ5 := Lib.hid (HQ4.out.below hb6)
            have HO5 := Lib.hid (HO4.out.below2 (hb6.mono HO4.out.size))
            have HSL5 := Lib.hid (HSL4.out.below hb6)
            have HOW5 := Lib.hid (K.own_below HOW4.out hb6)
            have q5 : w5.cell? ⟨gb, 0, none⟩ = some (.int .i64 (j : Int)) := (hb6.cell (p := ⟨gb, 0, none⟩) HBX.out.lt).trans q0
            have HBX5 := Lib.hid (HBX.out.below hb6)
            obtain ⟨rd, hrd⟩ : ∃ rd, decide (pos (keep S1 t) (j : Int) < (keep S1 t).length) = rd := ⟨_, rfl⟩
            have HD := Lib.hid (drop_any s p (setl S1 (keep S1 t)) (j : Int) w5 HQ5.out (HF1.out.q.sub (keep_sub S1 t)))
            rw [show decide (pos (setl S1 (keep S1 t)).L (j : Int) < (setl S1 (keep S1 t)).L.length) = rd from hrd] at HD
            have hkey : drop (setl S1 (keep S1 t)) (j : Int) = setl S1 (keep S1 (t + 1)) := by
              have := (keep_yes HF1.out.q HY.out hm).1
              rw [HJ.out] at this
              unfold drop
              rw [show (setl S1 (keep S1 t)).L = keep S1 t from rfl, this]; rfl
            rw [hkey] at HD
            clear hb5 hb6 q0 hcw1 hcw2 hcx HM2 HQ4 HO4 HSL4 HOW4 HBX hrd hkey
            go_wp2_with fail
            refine HD.out.mono ?_
            rintro en w6 ⟨rfl, h6, ho6⟩
            have HSL6 := Lib.hid (sl_on2 HSL5.out HQ5.out ho6)
            have HOW6 := Lib.hid (ow_on2 HOW5.out HQ5.out ho6)
            have HO6 := Lib.hid (HO5.out.trans ho6)
            have q6 : w6.cell? ⟨gb, 0, none⟩ = some (.int .i64 (j : Int)) := (ho6.cell (q := ⟨gb, 0, none⟩) HBX5.out.lt (Ne.symm hbs) (Ne.symm hbp)).trans q5
            have HQ6 := Lib.hid h6
            have hbx6 : w6.heap[gb]? = _ := (ho6.block gb HBX5.out.lt (Ne.symm hbs) (Ne.symm hbp)).trans HBX5.out
            have HNE := Lib.hid (ow_type HOW6.out hbx6 (by decide))
            clear h6 ho6 q5 HSL5 HOW5 HO5 HQ5 HD HBX5 hbx6
            go_wp2_with fail
            have HG := Lib.hid (give_any s p (setl S1 (keep S1 (t + 1))) w6.drew HQ6.out.drew)
            rw [show (setl S1 (keep S1 (t + 1))).x = S1.x from rfl] at HG
            obtain ⟨n1, hn1⟩ : ∃ n1, (outs S1 t).length = n1 := ⟨_, rfl⟩
            have hn16 : n1 ≤ 16 := by
              have h1 : (outs S1 t).length ≤ S1.L.length := by unfold outs; rw [List.length_map]; exact Nat.le_trans (List.length_filter_le _ _) (by rw [List.length_take]; omega)
              have := HF1.out.q.len
              omega
            have b2 : n1 + 1 ≤ 100000 := by omega
            have HN1 := Lib.hid hn1
            have HOWd : Hid (w6.drew.ownsRow w.heap.size 74 2 vo n1 (K.vals K.cw (outs S1 t))) := Lib.hid (by rw [← hn1]; exact HOW6.out)
            have hlt6 := block_lt_of_cell q6
            clear hn1
            go_region_held3 (fun W => W.cell? ⟨gb, 0, none⟩ = some (.int .i64 (j : Int)) ∧ gb < W.heap.size)
              (first | exact ⟨q6, hlt6⟩ | exact box_only ho7 (Ne.symm hbs) (by assumption) | exact box_alloc (by assumption) | exact box_grown hgrow8 HNE.out (by assumption) | assumption)
              (first
                | (go_at_call 34; refine HG.out.mono ?_; rintro en w7 ⟨rfl, h7, ho7⟩; have hown7 := ow_only HOWd.out HQ6.out.drew ho7)
                | (refine K.step_append_row K.kw (by decide) rfl _ _ rfl w.heap.size vo (outs S1 t) [((j : Int), S1.x)] n1 HN1.out rfl (own_alloc7 hown7 _) _ 1 1 rfl rfl (K.sr_one K.cw _ 74 ((j : Int), S1.x)) b2 (size7 HO6.out ho7 _) (n1 + 1) rfl ?_; intro X8 k8 w8 hown8 hgrow8))
            all_goals
              have HQ8 := Lib.hid (sq_grown (h7.alloc _) (own_alloc7 hown7 _) hgrow8)
              have HO8 := Lib.hid (((HO6.out.drew.trans (On2.fst ho7)).alloc _).grown hgrow8 (fun k hk => ((own_alloc7 hown7 (.cells (K.cw ((j : Int), S1.x)).toArray 74)).lt k hk).1))
              have HSL8 := Lib.hid (sl_grown ((sl_on2 (p := p) HSL6.out HQ6.out ((On2.refl s p w6).drew.trans (On2.fst ho7))).below ((Below.refl _ _).alloc (Nat.le_refl _) _)) (own_alloc7 hown7 _) hgrow8)
              have hlen8 : (outs S1 (t + 1)).length = n1 + 1 := by rw [outs_yes HY.out hm, List.length_append, HN1.out]; rfl
              have HOW8 : Hid (Ow w8 w.heap.size (.slice X8 (n1 + 1) k8) (outs S1 (t + 1))) := Lib.hid (by
                show w8.ownsRow w.heap.size 74 2 _ (outs S1 (t + 1)).length _
                rw [hlen8, outs_yes HY.out hm, HJ.out]; exact hown8)
              have d3 := HQ8.out.c3
              rw [show (got (setl S1 (keep S1 (t + 1)))).c = S1.c from rfl] at d3
              clear h7 ho7 hown7 hown8 hgrow8 q6 hlt6 HOWd HO6 HSL6 HOW6 HQ6 HG HNE hlen8 b2 hn16
              cases hcc : S1.c with
              | true =>
                rw [hcc] at d3
                go_wp2
                go_ret
                obtain ⟨e1, e2⟩ := wake_cut HSW.out HF1.out.q hcc (HNO.out hcc) HY.out hm
                subst e1 e2
                refine ⟨_, rfl, HOW8.out, ?_, HO8.out⟩
                have := HQ8.out
                unfold got setx at this
                rw [show (setl S1 (keep S1 (t + 1))).c = true from hcc] at this
                rw [hcc]
                exact this
              | false =>
                rw [hcc] at d3
                go_wp2
                refine ⟨⟨t + 1, _, by omega, by go_num, rfl, fun hc => (by rw [hcc] at hc; cases hc), HOW8.out, ?_, HO8.out, HSL8.out⟩, by simp [intOf]; omega⟩
                have := HQ8.out
                unfold got setx at this
                rw [show (setl S1 (keep S1 (t + 1))).c = false from hcc] at this
                unfold setl
                rw [hcc]
                exact this
        · obtain rfl : t = m := by omega
          have HQ3 := Lib.hid hq
          clear hno hown hq ho hsl
          go_wp2
          go_ret
          have hwe := wake_end HSW.out (fun hc => by rw [HM.out]; exact HNO.out hc)
          rw [HM.out] at hwe
          obtain ⟨e1, e2⟩ := hwe
          subst e1 e2
          exact ⟨_, rfl, HOW.out, HQ3.out, HO.out⟩
end Go.Proofs.Ythgcmjiebdnnfaa
