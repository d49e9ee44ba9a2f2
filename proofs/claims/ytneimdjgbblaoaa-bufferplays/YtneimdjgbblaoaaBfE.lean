/- Contracts of package mbf: what was got; TryRecv, Recv. -/
import Derived.Test.YtneimdjgbblaoaaBfD
namespace Go.Proofs.Ytneimdjgbblaoaa
open Go.RowKit
set_option maxRecDepth 100000

theorem ret_gotT (T : TypeId) (hu : ∃ fs, Try.prog.underlying T = some (.struct fs)) (hi : (Try.prog.info? T).map (·.size) = some 3) {fn : Func} {s : Tmp} (h : fn.results = #[.cell s T]) (tmps : Array Value) (w : World) (g : Nat) (a b c : Value) (fr : Nat × Nat)
    (hp : tmps.getD s undef = .pointer (some ⟨g, 0, none⟩)) (hg : w.heap[g]? = some (.cells #[a, b, c] T fr)) : (results fn tmps).run Try.prog w = .ok (.agg #[a, b, c]) w := by
  obtain ⟨fs, h1⟩ := hu
  exact results_cell_row h tmps w g T #[a, b, c] fr (.struct fs) hp hg h1 rfl hi
theorem ret_gotT2 (T : TypeId) (hu : ∃ fs, Try.prog.underlying T = some (.struct fs)) (hi : (Try.prog.info? T).map (·.size) = some 3) {fn : Func} {s u : Tmp} (h : fn.results = #[.cell s T, .tmp u]) (tmps : Array Value) (w : World) (g : Nat) (a b c : Value) (fr : Nat × Nat)
    (hp : tmps.getD s undef = .pointer (some ⟨g, 0, none⟩)) (hg : w.heap[g]? = some (.cells #[a, b, c] T fr)) : (results fn tmps).run Try.prog w = .ok (.tuple #[.agg #[a, b, c], tmps.getD u undef]) w := by
  obtain ⟨fs, h1⟩ := hu
  have hl := run_loadVar_row (P := Try.prog) w g T T #[a, b, c] fr (.struct fs) hg h1 rfl hi
  rw [results_cell_tmp h, hp]
  simp [asAddr, hl]
theorem ug42 : ∃ fs, Try.prog.underlying 42 = some (.struct fs) := struct_of (by kernel_rfl)
theorem ig42 : (Try.prog.info? 42).map (·.size) = some 3 := by kernel_rfl
theorem ug46 : ∃ fs, Try.prog.underlying 46 = some (.struct fs) := struct_of (by kernel_rfl)
theorem ig46 : (Try.prog.info? 46).map (·.size) = some 3 := by kernel_rfl
theorem ret_got42 {fn : Func} {s : Tmp} (h : fn.results = #[.cell s 42]) (tmps : Array Value) (w : World) (g : Nat) (a b c : Value) (fr : Nat × Nat)
    (hp : tmps.getD s undef = .pointer (some ⟨g, 0, none⟩)) (hg : w.heap[g]? = some (.cells #[a, b, c] 42 fr)) : (results fn tmps).run Try.prog w = .ok (.agg #[a, b, c]) w := ret_gotT 42 ug42 ig42 h tmps w g a b c fr hp hg
theorem ret_got42b {fn : Func} {s u : Tmp} (h : fn.results = #[.cell s 42, .tmp u]) (tmps : Array Value) (w : World) (g : Nat) (a b c : Value) (fr : Nat × Nat)
    (hp : tmps.getD s undef = .pointer (some ⟨g, 0, none⟩)) (hg : w.heap[g]? = some (.cells #[a, b, c] 42 fr)) : (results fn tmps).run Try.prog w = .ok (.tuple #[.agg #[a, b, c], tmps.getD u undef]) w := ret_gotT2 42 ug42 ig42 h tmps w g a b c fr hp hg
theorem ret_got46 {fn : Func} {s : Tmp} (h : fn.results = #[.cell s 46]) (tmps : Array Value) (w : World) (g : Nat) (a b c : Value) (fr : Nat × Nat)
    (hp : tmps.getD s undef = .pointer (some ⟨g, 0, none⟩)) (hg : w.heap[g]? = some (.cells #[a, b, c] 46 fr)) : (results fn tmps).run Try.prog w = .ok (.agg #[a, b, c]) w := ret_gotT 46 ug46 ig46 h tmps w g a b c fr hp hg
theorem ret_got46b {fn : Func} {s u : Tmp} (h : fn.results = #[.cell s 46, .tmp u]) (tmps : Array Value) (w : World) (g : Nat) (a b c : Value) (fr : Nat × Nat)
    (hp : tmps.getD s undef = .pointer (some ⟨g, 0, none⟩)) (hg : w.heap[g]? = some (.cells #[a, b, c] 46 fr)) : (results fn tmps).run Try.prog w = .ok (.tuple #[.agg #[a, b, c], tmps.getD u undef]) w := ret_gotT2 46 ug46 ig46 h tmps w g a b c fr hp hg

/-- a variable of three cells -/
def Box3 (w : World) (g : Nat) (T : TypeId) (a b c : Value) : Prop := w.heap[g]? = some (.cells #[a, b, c] T (0, 0))
section
variable {w w' : World} {g : Nat} {T : TypeId} {a b c : Value}
theorem Box3.c0 (h : Box3 w g T a b c) : w.cell? ⟨g, 0, none⟩ = some a := by rw [cell_of_row w g 0 _ T (0, 0) h]; rfl
theorem Box3.c1 (h : Box3 w g T a b c) : w.cell? ⟨g, 1, none⟩ = some b := by rw [cell_of_row w g 1 _ T (0, 0) h]; rfl
theorem Box3.c2 (h : Box3 w g T a b c) : w.cell? ⟨g, 2, none⟩ = some c := by rw [cell_of_row w g 2 _ T (0, 0) h]; rfl
theorem Box3.fz (h : Box3 w g T a b c) (i : Nat) : w.frozen? ⟨g, i, none⟩ = false := frozen_of_row w g i _ T h
theorem Box3.lt (h : Box3 w g T a b c) : g < w.heap.size := lt_of_heap h
theorem Box3.keep (h : Box3 w g T a b c) (k : w'.heap[g]? = w.heap[g]?) : Box3 w' g T a b c := k.trans h
theorem Box3.below (h : Box3 w g T a b c) (k : Below w.heap.size w w') : Box3 w' g T a b c := h.keep (k.block g h.lt)
theorem Box3.set0 (h : Box3 w g T a b c) (u : Value) : Box3 (w.setCell ⟨g, 0, none⟩ u) g T u b c := heap_setCell_same w g 0 #[a, b, c] T u h
theorem Box3.set1 (h : Box3 w g T a b c) (u : Value) : Box3 (w.setCell ⟨g, 1, none⟩ u) g T a u c := heap_setCell_same w g 1 #[a, b, c] T u h
theorem Box3.set2 (h : Box3 w g T a b c) (u : Value) : Box3 (w.setCell ⟨g, 2, none⟩ u) g T a b u := heap_setCell_same w g 2 #[a, b, c] T u h
end
theorem box3_new (w : World) (T : TypeId) (a b c : Value) : Box3 (w.alloc (.cells #[a, b, c] T)) w.heap.size T a b c := heap_alloc_new w _
/-- all of it laid anew: a block of the call's own -/
theorem Box3.all {w : World} {g B : Nat} {T : TypeId} {a b c : Value} (h : Box3 w g T a b c) (hB : B ≤ g) (x y z : Value) : Box3 (((w.setCell ⟨g, 0, none⟩ x).setCell ⟨g, 1, none⟩ y).setCell ⟨g, 2, none⟩ z) g T x y z ∧
    Below B w (((w.setCell ⟨g, 0, none⟩ x).setCell ⟨g, 1, none⟩ y).setCell ⟨g, 2, none⟩ z) ∧ Only g w (((w.setCell ⟨g, 0, none⟩ x).setCell ⟨g, 1, none⟩ y).setCell ⟨g, 2, none⟩ z) :=
  ⟨((h.set0 x).set1 y).set2 z, (((Below.refl B w).setCell (p := ⟨g, 0, none⟩) hB x).setCell (p := ⟨g, 1, none⟩) hB y).setCell (p := ⟨g, 2, none⟩) hB z,
   (((Only.refl g w).setCell (q := ⟨g, 0, none⟩) (.inl rfl) x).setCell (q := ⟨g, 1, none⟩) (.inl rfl) y).setCell (q := ⟨g, 2, none⟩) (.inl rfl) z⟩

/-- bytes to be read: none, or a message -/
def Tx (w : World) (v : Value) (x : List Int) : Prop :=
  (x = [] ∧ v = .slice none 0 0) ∨ ∃ g cap : Nat, v = .slice (some ⟨g, 0, none⟩) x.length cap ∧ x.length ≤ cap ∧ R.Bk w g (R.str x)
theorem Tx.keep {w w' : World} {v : Value} {x : List Int} (h : Tx w v x) (k : ∀ (g : Nat) (cs : Array Value) (fr : Nat × Nat), v.ownBlock = some g → w.heap[g]? = some (.cells cs 5 fr) → w'.heap[g]? = w.heap[g]?) : Tx w' v x := by
  rcases h with h | ⟨g, cap, rfl, h2, cs, fr, h3, h4⟩
  · exact .inl h
  · exact .inr ⟨g, cap, rfl, h2, cs, fr, (k g cs fr rfl h3).trans h3, h4⟩
theorem Tx.below {w w' : World} {v : Value} {x : List Int} (h : Tx w v x) (k : Below w.heap.size w w') : Tx w' v x := h.keep fun g _ _ _ hg => k.block g (lt_of_heap hg)
theorem Tx.str {w : World} {v : Value} {x : List Int} (h : Tx w v x) : (convert 31 9 v).run Try.prog w = .ok (.string (R.str x)) w := by
  rcases h with ⟨rfl, rfl⟩ | ⟨g, cap, rfl, h2, h3⟩
  · have := R.run_str (A := none) (n := 0) (cap := 0) (p := 0) (m := 0) (f := R.nth []) (W := w) (fun h => absurd h (Nat.lt_irrefl 0))
    exact this
  · exact h3.str (R.str_size x)
theorem Tx.box {w w' : World} {v : Value} {x : List Int} {g : Nat} {T : TypeId} {a b c : Value} (h : Tx w v x) (bx : Box3 w g T a b c) (hT : T ≠ 5) (k : Only g w w') : Tx w' v x :=
  h.keep fun i cs fr _ hi => k.block i (lt_of_heap hi) (by rintro rfl; unfold Box3 at bx; rw [hi] at bx; injection bx with bx; injection bx with _ bx; exact hT bx.symm)
theorem own_box {w w' : World} {B n g : Nat} {T : TypeId} {v a b c : Value} {xs : List Value} (h : w.ownsRow B 3 1 v n xs) (bx : Box3 w g T a b c) (hT : T ≠ 3) (k : Only g w w') : w'.ownsRow B 3 1 v n xs :=
  K.own_keep h fun i cs hi _ => k.block i (lt_of_heap hi) (by rintro rfl; unfold Box3 at bx; rw [hi] at bx; injection bx with bx; injection bx with _ bx; exact hT bx.symm)
theorem Bf.box {w w' : World} {B s p m g : Nat} {C : Int} {T : TypeId} {a b c : Value} {t : St} (h : Bf w B s p m C t) (bx : Box3 w g T a b c) (hT : T ≠ 70 ∧ T ≠ 113 ∧ T ≠ 5) (k : Only g w w') : Bf w' B s p m C t := by
  have ne : ∀ (i : Nat) (ds : Array Value) (e : TypeId) (fr : Nat × Nat), w.heap[i]? = some (.cells ds e fr) → e ≠ T → i ≠ g := fun i ds e fr hi he hg => by
    subst hg; unfold Box3 at bx; rw [hi] at bx; injection bx with bx; injection bx with _ bx; exact he bx
  obtain ⟨c, q1, q2, F, f, ha, hg⟩ := h.g
  obtain ⟨cs, hc, hz⟩ := h.c
  obtain ⟨hX, ⟨kk, hk, rr⟩, cs2, hc2, hrow⟩ := ha
  have ha : R.Ar (R.fields F (R.tot t.G) t.G.length) w p m t.N c f := ⟨hX, ⟨kk, hk, rr⟩, cs2, hc2, hrow⟩
  exact ⟨⟨cs, (k.block s (lt_of_heap hc) (ne s _ _ _ hc (Ne.symm hT.1))).trans hc, hz⟩, ⟨c, q1, q2, F, f, ha.keep (k.block p (lt_of_heap hk) (ne p _ 113 _ hk (Ne.symm hT.2.1))) (k.block m (lt_of_heap hc2) (ne m _ 5 _ hc2 (Ne.symm hT.2.2))), hg⟩, h.bs, h.bp, h.bm⟩
theorem Row.bk {w : World} {g : Nat} {x : List Int} (h : R.Row w g x.length (R.nth x)) : R.Bk w g (R.str x) := by
  obtain ⟨cs, hh, hc⟩ := h
  refine ⟨cs, (0, 0), hh, fun j hj => ?_⟩
  have hl : (R.str x).data.toList.length = x.length := by rw [Array.length_toList]; exact R.str_size x
  obtain ⟨h1, h2⟩ := hc j (by rw [← hl]; exact hj)
  rw [h1]
  have e : (R.str x).data.toList[j]'hj = UInt8.ofNat (R.nth x j).toNat := by simp [R.str, R.strOf]
  rw [e]
  congr 2
  simp
  omega

/-- what TryRecv and Recv tell: the message (or none), whether there was one, who was released -/
def Gt (w0 w : World) (o : Option (List Int)) (outs : List Int) (g : Value) : Prop := ∃ v1 v2, g = .agg #[v1, .bool o.isSome, v2] ∧ Tx w v1 (o.getD []) ∧ Ow w w0.heap.size v2 outs ∧ ∀ i, v1.ownBlock = some i → w0.heap.size ≤ i

set_option maxHeartbeats 1600000 in
theorem tryRecv_any (B s p m : Nat) (C : Int) (t t' : St) (o : Option (List Int)) (outs : List Int) (w : World) (h : Bf w B s p m C t) (hf : Fine t) (hC : C ≤ 900000000) (hs : tryRecv t = (t', o, outs)) :
    Calls Try.prog 18 #[.pointer (some ⟨s, 0, none⟩)] w fun e w' => ∃ v, e = .returned v ∧ Gt w w' o outs v ∧ Bf w' B s p m (C + 90000) t' ∧ Dt s p m w w' := by
  obtain ⟨w0, hw0⟩ : ∃ w0, w.alloc (.cells #[.slice none 0 0, .bool false, .slice none 0 0] 42) = w0 := ⟨_, rfl⟩
  have hb0 : Below w.heap.size w w0 := by rw [← hw0]; exact (Below.refl _ _).alloc (Nat.le_refl _) _
  have bx : Box3 w0 w.heap.size 42 (.slice none 0 0) (.bool false) (.slice none 0 0) := by rw [← hw0]; exact box3_new _ _ _ _ _
  have HN := Lib.hid (show w.heap.size ≠ s ∧ w.heap.size ≠ p ∧ w.heap.size ≠ m by have := h.lt; have := h.ltp; have := h.ltm; omega)
  have h0 := h.below hb0
  have HB0 := Lib.hid hb0
  have HSZ := Lib.hid (show w.heap.size < w0.heap.size from bx.lt)
  have HE := Lib.hid (ensure_any h0.c)
  have BX := Lib.hid bx
  have c0 := h0.c.ring
  have H0 := Lib.hid h0
  have HF := Lib.hid hf
  obtain ⟨c, q1, q2, rg⟩ := h0.g
  unfold tryRecv at hs
  cases hG : t.G with
  | cons x G =>
    rw [hG] at hs rg
    simp only [Prod.mk.injEq] at hs
    obtain ⟨g1, g2, g3⟩ := hs
    subst g2 g3
    have HG := Lib.hid (R.get_some p m t.N c x G w0 rg hf.n q1 (by omega))
    have H1 := Lib.hid g1
    have HFG := Lib.hid (hf.get hG)
    have HQ12 := Lib.hid (And.intro q1 q2)
    clear h hf hG rg g1 h0 bx hb0 q1 q2
    go_enter Try.func18, Try.ntmps18
    go_wp2_with fail
    refine HE.out.mono ?_
    rintro e w1 ⟨rfl, rfl⟩
    go_wp2_with fail
    refine HG.out.mono ?_
    rintro e w1 ⟨g, k, c', k1, k2, hg, hk, hk2, rfl, rg1, hrow, honly⟩
    have hq1 := H0.out.lay (D := C + 2000) honly (by have := HQ12.out; omega) (by have := HQ12.out; omega) rg1
    have HA := Lib.hid (admit_any B s p m (C + 2000) _ w1 hq1 HFG.out (by omega))
    have BX1 := Lib.hid (BX.out.keep (honly.block _ HSZ.out HN.out.2.1 HN.out.2.2))
    have HBK := Lib.hid (Row.bk hrow)
    have HNG := Lib.hid (show g ≠ s ∧ g ≠ p ∧ g ≠ m by have h1 := H0.out.lt; have h2 := H0.out.ltp; have h3 := H0.out.ltm; omega)
    have HS1 := Lib.hid (Nat.lt_of_lt_of_le HSZ.out honly.size)
    have HO1 := Lib.hid ((Dt.of_below (s := s) (p := p) (m := m) HB0.out).trans (.of_ring honly))
    have HK := Lib.hid hk
    have HG0 := Lib.hid (show w.heap.size ≤ g by have := HSZ.out; omega)
    clear rg1 hrow honly hq1 HG HE HQ12 c0 hg hk hk2
    go_wp2_with fail
    refine HA.out.mono ?_
    rintro e w2 ⟨v2, rfl, ho, hq, hd⟩
    have HO := Lib.hid ho
    obtain ⟨X2, n2, K2, rfl⟩ : ∃ X n k, v2 = .slice X n k := by obtain ⟨X, k, e, _⟩ := K.own_form ho; exact ⟨X, _, k, e⟩
    have HQ := Lib.hid hq
    have HD := Lib.hid hd
    have HBK2 := Lib.hid (HBK.out.keep (hd.block g HBK.out.lt HNG.out.1 HNG.out.2.1 HNG.out.2.2))
    have BX2 := Lib.hid (BX1.out.keep (hd.block _ HS1.out HN.out.1 HN.out.2.1 HN.out.2.2))
    have z0 := BX2.out.fz 0
    have z1 := BX2.out.fz 1
    have z2 := BX2.out.fz 2
    have b0 := BX2.out.c0
    have b1 := BX2.out.c1
    have b2 := BX2.out.c2
    have HAll := Lib.hid (BX2.out.all (Nat.le_refl _) (.slice (some ⟨g, 0, none⟩) x.length k) (.bool true) (.slice X2 n2 K2))
    clear ho hq hd HA
    go_wp2
    (try simp only [Exit.inBlock, Exit.then]); refine bodyPost_ret (ret_got42 rfl _ _ _ _ _ _ _ rfl HAll.out.1) rfl ?_
    rw [← H1.out]
    have hTx : Tx w2 (.slice (some ⟨g, 0, none⟩) x.length k) x := .inr ⟨g, k, rfl, HK.out, HBK2.out⟩
    exact ⟨_, rfl, ⟨_, _, rfl, hTx.box BX2.out (by decide) HAll.out.2.2, own_box (K.own_base HO.out (Nat.le_of_lt HS1.out)) BX2.out (by decide) HAll.out.2.2, fun i hi => by have hi : (some g : Option Nat) = some i := hi; injection hi with hi; rw [← hi]; exact HG0.out⟩, (HQ.out.box BX2.out (by decide) HAll.out.2.2).le (by omega), (HO1.out.trans HD.out).later HAll.out.2.1⟩
  | nil =>
    rw [hG] at hs rg
    have HG := Lib.hid (R.get_nil p m t.N c w0 rg)
    obtain ⟨X, hl, _⟩ := h0.c.sq
    cases hS : t.S with
    | cons y S =>
      rw [hS] at hs hl
      simp only [Prod.mk.injEq] at hs
      obtain ⟨g1, g2, g3⟩ := hs
      have hrng := hf.s.rng y (by rw [hS]; simp)
      have hwy := hf.w y (by rw [hS]; simp)
      obtain ⟨y1, y2⟩ := y
      obtain ⟨j, rfl⟩ : ∃ j : Nat, y1 = (j : Int) := ⟨y1.toNat, by simp only at hrng; omega⟩
      have hj17 : j < 17 := by simp only at hrng; omega
      have hji : (j : Int) < 17 := by omega
      rw [show ((j : Int), y2).1.toNat = j from rfl] at hwy g2
      simp only at hwy g2 g3
      have hmsg := h0.c.msg (y := ((j : Int), y2)) (by rw [hS]; simp) (k := j) rfl
      have HT := Lib.hid (first_some s 70 t.b ((j : Int), y2) S w0 hl)
      obtain ⟨x, hx⟩ : ∃ x, t.W j = x := ⟨_, rfl⟩
      rw [hx] at g2 hmsg hwy
      subst g2 g3
      have HW := Lib.hid hwy
      have hpos : decide (pos t.S (j : Int) < t.S.length) = true := by rw [hS, show pos (((j : Int), y2) :: S) (j : Int) = 0 from pos_head ((j : Int), y2) S]; simp
      have hst : ({ t with S := t.S.eraseIdx (pos t.S (j : Int)) } : St) = t' := by rw [← g1, hS, show pos (((j : Int), y2) :: S) (j : Int) = 0 from pos_head ((j : Int), y2) S, hG]; rfl
      have HP := Lib.hid hpos
      have HST := Lib.hid hst
      have HM := Lib.hid hmsg
      simp only at HT
      clear h hf hG rg g1 h0 bx hb0 q1 q2 hl hrng hwy hx hmsg hpos hst hS
      go_enter Try.func18, Try.ntmps18
      go_wp2_with fail
      refine HE.out.mono ?_
      rintro e w1 ⟨rfl, rfl⟩
      go_wp2_with fail
      refine HG.out.mono ?_
      rintro e w1 ⟨rfl, rfl⟩
      go_wp2_with fail
      refine HT.out.mono ?_
      rintro e w1 ⟨rfl, hb1⟩
      have ax := box_new w1 60 (.int .i64 (j : Int)) (.int .i64 y2)
      have hb2 := hb1.trans ((Below.refl w0.heap.size w1).alloc hb1.size (.cells #[.int .i64 (j : Int), .int .i64 y2] 60))
      have HB2 := Lib.hid hb2
      have HQ2 := Lib.hid (H0.out.below hb2)
      have HM2 := Lib.hid ((hb2.cell (p := ⟨s, 36 + j, none⟩) H0.out.lt).trans HM.out)
      have BX2 := Lib.hid (BX.out.below hb2)
      have HNE2 := Lib.hid (show w1.heap.size ≠ s ∧ w1.heap.size ≠ p ∧ w1.heap.size ≠ m by have h1 := H0.out.lt; have h2 := H0.out.ltp; have h3 := H0.out.ltm; have h4 := hb1.size; omega)
      have HAX := Lib.hid ax
      have q0 := ax.c0
      clear hb1 hb2 ax HT HG HE
      go_wp2
      go_region_held3 (fun W => W.cell? ⟨w1.heap.size, 0, none⟩ = some (.int .i64 (j : Int)) ∧ True)
        (first | exact ⟨q3, trivial⟩ | exact ⟨q0, trivial⟩ | assumption)
        ((go_at_call 49; refine (message_any (w := (w1.alloc _).drew) hj17 HM2.out _ rfl).mono ?_; rintro e w3 ⟨g3, cap, rfl, hg3, hcap, hbk3, hb3⟩; have q3 := (hb3.cell (p := ⟨w1.heap.size, 0, none⟩) HAX.out.lt).trans q0))
      have HQ3 := Lib.hid (HQ2.out.drew.below hb3)
      have BX3 := Lib.hid (BX2.out.below (below_trans (Below.refl _ _).drew hb3))
      have HBK := Lib.hid hbk3
      have HCAP := Lib.hid hcap
      have HNG := Lib.hid (show g3 ≠ s ∧ g3 ≠ p ∧ g3 ≠ m by have h1 := HQ2.out.lt; have h2 := HQ2.out.ltp; have h3 := HQ2.out.ltm; have h4 : (w1.alloc (Obj.cells #[Value.int IntKind.i64 ↑j, Value.int IntKind.i64 y2] 60)).heap.size ≤ g3 := hg3; omega)
      have HB3 := Lib.hid (below_trans HB2.out (below_trans (Below.refl _ _).drew hb3))
      have HL3 := Lib.hid (Nat.lt_of_lt_of_le HAX.out.lt hb3.size)
      have HG0 := Lib.hid (show w.heap.size ≤ g3 by have h1 := HSZ.out; have h2 := HB2.out.size; have h4 : (w1.alloc (Obj.cells #[Value.int IntKind.i64 ↑j, Value.int IntKind.i64 y2] 60)).heap.size ≤ g3 := hg3; omega)
      clear hbk3 hb3 hcap hg3 q0 c0
      go_wp2
      go_region_held3 (fun W => W.cell? ⟨w1.heap.size, 0, none⟩ = some (.int .i64 (j : Int)) ∧ True)
        (first | exact ⟨q4, trivial⟩ | exact ⟨q3, trivial⟩ | assumption)
        ((go_at_call 50; refine (leave_any B s p m C t (j : Int) w3.drew HQ3.out.drew HF.out true HP.out).mono ?_; rintro e w4 ⟨rfl, hq4, hd4⟩; have q4 := (hd4.cell (q := ⟨w1.heap.size, 0, none⟩) HL3.out HNE2.out.1 HNE2.out.2.1 HNE2.out.2.2).trans q3))
      have HQ4 := Lib.hid (hq4.congr HST.out)
      have HD4 := Lib.hid (Dt.un (n := 1) hd4)
      have BX4 := Lib.hid (BX3.out.keep (hd4.block _ (Nat.lt_of_lt_of_le HSZ.out HB3.out.size) HN.out.1 HN.out.2.1 HN.out.2.2))
      have HBK4 := Lib.hid (HBK.out.keep (hd4.block g3 HBK.out.lt HNG.out.1 HNG.out.2.1 HNG.out.2.2))
      obtain ⟨w5, hw5⟩ : ∃ w5, w4.alloc (.cells #[.int .i64 (j : Int)] 3) = w5 := ⟨_, rfl⟩
      have hb5 : Below w4.heap.size w4 w5 := by rw [← hw5]; exact (Below.refl _ _).alloc (Nat.le_refl _) _
      have HOW := Lib.hid (show w5.ownsRow w.heap.size 3 1 (.slice (some ⟨w4.heap.size, 0, none⟩) 1 1) 1 (K.vals K.ci [(j : Int)]) by rw [← hw5]; exact World.ownsRow_lit w4 #[.int .i64 (j : Int)] 1 (Nat.le_trans (Nat.le_of_lt HSZ.out) (Nat.le_trans HB3.out.size HD4.out.size)) (by unfold maxLen; omega) rfl)
      have HB5 := Lib.hid hb5
      have BX5 := Lib.hid (BX4.out.below hb5)
      have HQ5 := Lib.hid (HQ4.out.below hb5)
      have HBK5 := Lib.hid (HBK4.out.below hb5)
      have z0 := BX5.out.fz 0
      have z1 := BX5.out.fz 1
      have z2 := BX5.out.fz 2
      have b0 := BX5.out.c0
      have b1 := BX5.out.c1
      have b2 := BX5.out.c2
      have HAll := Lib.hid (BX5.out.all (Nat.le_refl _) (.slice (some ⟨g3, 0, none⟩) x.length cap) (.bool true) (.slice (some ⟨w4.heap.size, 0, none⟩) 1 1))
      clear hq4 hd4 q3 hb5
      go_wp2
      (try simp only [Exit.inBlock, Exit.then]); refine bodyPost_ret (ret_got42 rfl _ _ _ _ _ _ _ rfl HAll.out.1) rfl ?_
      have hTx : Tx w5 (.slice (some ⟨g3, 0, none⟩) x.length cap) x := .inr ⟨g3, cap, rfl, HCAP.out, HBK5.out⟩
      exact ⟨_, rfl, ⟨_, _, rfl, hTx.box BX5.out (by decide) HAll.out.2.2, own_box HOW.out BX5.out (by decide) HAll.out.2.2, fun i hi => by have hi : (some g3 : Option Nat) = some i := hi; injection hi with hi; rw [← hi]; exact HG0.out⟩, (HQ5.out.box BX5.out (by decide) HAll.out.2.2).le (by omega), (((Dt.of_below (below_trans HB0.out HB3.out)).trans HD4.out).later (HB5.out.mono (Nat.le_trans (Nat.le_of_lt HSZ.out) (Nat.le_trans HB3.out.size HD4.out.size)))).later HAll.out.2.1⟩
    | nil =>
      rw [hS] at hs hl
      simp only [Prod.mk.injEq] at hs
      obtain ⟨g1, g2, g3⟩ := hs
      subst g1 g2 g3
      have HT := Lib.hid (first_none s 70 t.b w0 hl)
      clear h hf hG rg h0 bx hb0 q1 q2 hl hS
      go_enter Try.func18, Try.ntmps18
      go_wp2_with fail
      refine HE.out.mono ?_
      rintro e w1 ⟨rfl, rfl⟩
      go_wp2_with fail
      refine HG.out.mono ?_
      rintro e w1 ⟨rfl, rfl⟩
      go_wp2_with fail
      refine HT.out.mono ?_
      rintro e w1 ⟨rfl, hb1⟩
      have hb2 := hb1.trans ((Below.refl w0.heap.size w1).alloc hb1.size (.cells #[.int .i64 0, .int .i64 0] 60))
      have HB2 := Lib.hid hb2
      have HQ2 := Lib.hid (H0.out.below hb2)
      have BX2 := Lib.hid (BX.out.below hb2)
      have z0 := BX2.out.fz 0
      have z1 := BX2.out.fz 1
      have z2 := BX2.out.fz 2
      have b0 := BX2.out.c0
      have b1 := BX2.out.c1
      have b2 := BX2.out.c2
      have HAll := Lib.hid (BX2.out.all (Nat.le_refl _) (.slice none 0 0) (.bool false) (.slice none 0 0))
      clear hb1 hb2 HT HG HE c0
      go_wp2
      (try simp only [Exit.inBlock, Exit.then]); refine bodyPost_ret (ret_got42 rfl _ _ _ _ _ _ _ rfl HAll.out.1) rfl ?_
      exact ⟨_, rfl, ⟨_, _, rfl, .inl ⟨rfl, rfl⟩, ⟨rfl, .inl ⟨rfl, rfl⟩⟩, fun i hi => by have hi : (none : Option Nat) = some i := hi; cases hi⟩, (HQ2.out.box BX2.out (by decide) HAll.out.2.2).le (by omega), ((Dt.of_below (below_trans HB0.out HB2.out))).later HAll.out.2.1⟩

theorem gt_form {w0 w : World} {o : Option (List Int)} {outs : List Int} {g : Value} (h : Gt w0 w o outs g) : ∃ v1 X n k, g = .agg #[v1, .bool o.isSome, .slice X n k] ∧ (∃ Y i j, v1 = .slice Y i j) ∧ Tx w v1 (o.getD []) ∧ Ow w w0.heap.size (.slice X n k) outs ∧ ∀ i, v1.ownBlock = some i → w0.heap.size ≤ i := by
  obtain ⟨v1, v2, rfl, h1, h2, h3⟩ := h
  obtain ⟨X, k, rfl, _, _⟩ := K.own_form h2
  refine ⟨v1, X, _, k, rfl, ?_, h1, h2, h3⟩
  rcases h1 with ⟨_, rfl⟩ | ⟨g, cap, rfl, _⟩ <;> exact ⟨_, _, _, rfl⟩

set_option maxHeartbeats 1600000 in
theorem recv_any (B s p m : Nat) (C : Int) (t t' : St) (id pri e : Int) (o : Option (List Int)) (outs : List Int) (w : World) (h : Bf w B s p m C t) (hf : Fine t) (hC : C ≤ 900000000) (hs : recv t id pri = (t', o, outs, e)) :
    Calls Try.prog 15 #[.pointer (some ⟨s, 0, none⟩), .int .i64 id, .int .i64 pri] w fun en w' => ∃ v, en = .returned (.tuple #[v, .int .i64 e]) ∧ Gt w w' o outs v ∧ Bf w' B s p m (C + 90000) t' ∧ Dt s p m w w' := by
  obtain ⟨w0, hw0⟩ : ∃ w0, w.alloc (.cells #[.slice none 0 0, .bool false, .slice none 0 0] 42) = w0 := ⟨_, rfl⟩
  have hb0 : Below w.heap.size w w0 := by rw [← hw0]; exact (Below.refl _ _).alloc (Nat.le_refl _) _
  have bx : Box3 w0 w.heap.size 42 (.slice none 0 0) (.bool false) (.slice none 0 0) := by rw [← hw0]; exact box3_new _ _ _ _ _
  have HN := Lib.hid (show w.heap.size ≠ s ∧ w.heap.size ≠ p ∧ w.heap.size ≠ m by have := h.lt; have := h.ltp; have := h.ltm; omega)
  have h0 := h.below hb0
  have HB0 := Lib.hid hb0
  have HSZ := Lib.hid (show w.heap.size < w0.heap.size from bx.lt)
  have BX := Lib.hid bx
  obtain ⟨t1, o1, outs1, h2⟩ : ∃ t1 o1 outs1, tryRecv t = (t1, o1, outs1) := ⟨_, _, _, rfl⟩
  have HT := Lib.hid (tryRecv_any B s p m C t t1 o1 outs1 w0 h0 hf hC h2)
  have HF := Lib.hid (hf.tryRecv)
  unfold recv at hs
  rw [h2] at hs
  cases o1 with
  | some x =>
    simp only [Prod.mk.injEq] at hs
    obtain ⟨g1, g2, g3, g4⟩ := hs
    subst g1 g2 g3 g4
    clear h hf h2 h0 bx hb0
    go_enter Try.func15, Try.ntmps15
    go_wp2_with fail
    refine HT.out.mono ?_
    rintro en w1 ⟨gv, rfl, hgt, hq1, hd1⟩
    obtain ⟨v1, X, n, k, rfl, ⟨Y, i, j, rfl⟩, htx, how, hnew⟩ := gt_form hgt
    have HNEW := Lib.hid hnew
    have BX1 := Lib.hid (BX.out.keep (hd1.block _ HSZ.out HN.out.1 HN.out.2.1 HN.out.2.2))
    have HB2 := Lib.hid (show Below w1.heap.size w1 (w1.alloc (.cells #[.slice Y i j, .bool true, .slice X n k] 42)) from (Below.refl _ _).alloc (Nat.le_refl _) _)
    have ax := box3_new w1 42 (.slice Y i j) (.bool true) (.slice X n k)
    have BX2 := Lib.hid (BX1.out.below HB2.out)
    have HQ2 := Lib.hid (hq1.below HB2.out)
    have HTX := Lib.hid (htx.below HB2.out)
    have HOW := Lib.hid (K.own_below how HB2.out)
    have HD := Lib.hid (((Dt.of_below (s := s) (p := p) (m := m) HB0.out).trans hd1).trans (.of_below HB2.out))
    have HLE := Lib.hid (Nat.le_of_lt HSZ.out)
    have a0 := ax.c0
    have a1 := ax.c1
    have a2 := ax.c2
    have z0 := BX2.out.fz 0
    have z1 := BX2.out.fz 1
    have z2 := BX2.out.fz 2
    have b0 := BX2.out.c0
    have b1 := BX2.out.c1
    have b2 := BX2.out.c2
    have HE := Lib.hid (BX2.out.all (Nat.le_refl _) (.slice Y i j) (.bool true) (.slice X n k))
    clear hq1 hd1 HT BX ax hgt htx how hnew
    go_wp2
    (try simp only [Exit.inBlock, Exit.then]); refine bodyPost_ret (ret_got42b rfl _ _ _ _ _ _ _ rfl HE.out.1) rfl ?_
    exact ⟨_, rfl, ⟨_, _, rfl, HTX.out.box BX2.out (by decide) HE.out.2.2, own_box (K.own_base HOW.out HLE.out) BX2.out (by decide) HE.out.2.2, fun i hi => Nat.le_trans HLE.out (HNEW.out i hi)⟩, HQ2.out.box BX2.out (by decide) HE.out.2.2, HD.out.later HE.out.2.1⟩
  | none =>
    obtain ⟨g1, g2, g3, g4⟩ := tryRecv_none h2
    subst g1 g2
    simp only [Prod.mk.injEq] at hs
    obtain ⟨g5, g6, g7, g8⟩ := hs
    subst g6 g7
    have H5 := Lib.hid g5
    have H8 := Lib.hid g8
    clear h h2 h0 bx hb0 g5 g8 g3 g4
    go_enter Try.func15, Try.ntmps15
    go_wp2_with fail
    refine HT.out.mono ?_
    rintro en w1 ⟨gv, rfl, hgt, hq1, hd1⟩
    obtain ⟨v1, X, n, k, rfl, ⟨Y, i, j, rfl⟩, _, _, _⟩ := gt_form hgt
    have BX1 := Lib.hid (BX.out.keep (hd1.block _ HSZ.out HN.out.1 HN.out.2.1 HN.out.2.2))
    have HB2 := Lib.hid (show Below w1.heap.size w1 (w1.alloc (.cells #[.slice Y i j, .bool false, .slice X n k] 42)) from (Below.refl _ _).alloc (Nat.le_refl _) _)
    have ax := box3_new w1 42 (.slice Y i j) (.bool false) (.slice X n k)
    have BX2 := Lib.hid (BX1.out.below HB2.out)
    have hq2 := hq1.below HB2.out
    obtain ⟨XL, hl, hX⟩ := hq2.c.rq
    have HA := Lib.hid (add_any s 70 false t1.R _ hl hf.r id pri)
    have HX := Lib.hid hX
    have HQ2 := Lib.hid hq2
    have HD := Lib.hid (((Dt.of_below (s := s) (p := p) (m := m) HB0.out).trans hd1).trans (.of_below HB2.out))
    have HSZ2 := Lib.hid (Nat.lt_of_lt_of_le HSZ.out (Nat.le_trans hd1.size HB2.out.size))
    have a1 := ax.c1
    clear hq1 hd1 HT BX ax hgt hq2 hl hX hf
    go_wp2_with fail
    refine HA.out.mono ?_
    rintro en w3 ⟨rfl, hl3, ho3⟩
    have HQ3 := Lib.hid (HQ2.out.turn ho3 (HX.out _ _ hl3) rfl rfl)
    have BX3 := Lib.hid (BX2.out.keep (ho3.block _ HSZ2.out HN.out.1))
    have HD3 := Lib.hid (HD.out.trans (.of_only ho3))
    have z0 := BX3.out.fz 0
    have z1 := BX3.out.fz 1
    have z2 := BX3.out.fz 2
    have b0 := BX3.out.c0
    have b1 := BX3.out.c1
    have b2 := BX3.out.c2
    have HE := Lib.hid (BX3.out.all (Nat.le_refl _) (.slice none 0 0) (.bool false) (.slice none 0 0))
    clear hl3 ho3 HX HA a1
    go_wp2
    (try simp only [Exit.inBlock, Exit.then]); refine bodyPost_ret (ret_got42b rfl _ _ _ _ _ _ _ rfl HE.out.1) rfl ?_
    refine ⟨_, ?_, ⟨_, _, rfl, .inl ⟨rfl, rfl⟩, ⟨rfl, .inl ⟨rfl, rfl⟩⟩, fun i hi => by have hi : (none : Option Nat) = some i := hi; cases hi⟩, ?_, HD3.out.later HE.out.2.1⟩
    · rw [← H8.out]; rfl
    · rw [← H5.out]; exact HQ3.out.box BX3.out (by decide) HE.out.2.2

/-- what was got, to be read -/
theorem gt_open {w0 w : World} {o : Option (List Int)} {outs : List Int} {g : Value} (h : Gt w0 w o outs g) {n : Nat} (hn : outs.length = n) : ∃ v1 X k, g = .agg #[v1, .bool o.isSome, .slice X n k] ∧ (∃ Y i j, v1 = .slice Y i j) ∧ Tx w v1 (o.getD []) ∧ Nr w (.slice X n k) outs ∧ ∀ i, v1.ownBlock = some i → w0.heap.size ≤ i := by
  subst hn
  obtain ⟨v1, v2, rfl, h1, h2, h3⟩ := h
  have hN := Nr.of_own h2
  obtain ⟨X, k, rfl, _, _⟩ := K.own_form h2
  refine ⟨v1, X, k, rfl, ?_, h1, hN, h3⟩
  rcases h1 with ⟨_, rfl⟩ | ⟨g, cap, rfl, _⟩ <;> exact ⟨_, _, _, rfl⟩
theorem Nr.at_ {w : World} {X : Option Addr} {n k : Nat} {L : List Int} (h : Nr w (.slice X n k) L) {j : Nat} {x : Int} (hx : L[j]? = some x) : ∃ g o, X = some ⟨g, o, none⟩ ∧ g < w.heap.size ∧ w.cell? ⟨g, o + j, none⟩ = some (.int .i64 x) := by
  obtain ⟨Y, c, h1, h2, h3⟩ := h
  injection h1 with h1 _ _
  obtain ⟨g, o, h4, h5, h6⟩ := h3 (by have := (List.getElem?_eq_some_iff.1 hx).1; omega)
  exact ⟨g, o, h1.trans h4, h5, h6 j x hx⟩
theorem Tx.dt {w0 w w' : World} {s p m : Nat} {v : Value} {x : List Int} (h : Tx w v x) (hn : ∀ i, v.ownBlock = some i → w0.heap.size ≤ i) (k : Dt s p m w w') (h1 : s < w0.heap.size) (h2 : p < w0.heap.size) (h3 : m < w0.heap.size) : Tx w' v x :=
  h.keep fun i cs fr hi hc => by have := hn i hi; exact k.block i (lt_of_heap hc) (by omega) (by omega) (by omega)
end Go.Proofs.Ytneimdjgbblaoaa
