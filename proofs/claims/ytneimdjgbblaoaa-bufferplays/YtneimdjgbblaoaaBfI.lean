/- Rows of numbers: what is read, detentlaw3's Same, the tasks that wait: package mbf's, the document's. -/
import Derived.Test.YtneimdjgbblaoaaBfC
import Derived.Test.YtneimdjgbblaoaaRdA
import Derived.OwnWalk
namespace Go.Proofs.Ytneimdjgbblaoaa
open Go.RowKit
set_option maxRecDepth 100000

theorem vals_ci (D : List Int) : K.vals K.ci D = D.map (Value.int .i64) := by
  unfold K.vals K.ci; induction D with
  | nil => rfl
  | cons d D ih => rw [List.flatMap_cons, ih]; rfl
theorem slf {w : World} {e : TypeId} {v : Value} {L : List It} (h : Sl w e v L) : ∃ (X : Option Addr) (k : Nat), v = .slice X L.length k ∧ L.length ≤ k ∧ k ≤ 9223372036854775807 := by
  rcases h with ⟨rfl, rfl⟩ | ⟨g, o, k, cs, h1, h2, h3, h4, h5⟩
  · exact ⟨none, 0, rfl, by simp, by omega⟩
  · exact ⟨_, k, h1, h2, h3⟩
theorem slo {w : World} {e : TypeId} {X : Option Addr} {m k : Nat} {L : List It} (h : Sl w e (.slice X m k) L) (h0 : 0 < L.length) : ∃ g o : Nat, X = some ⟨g, o, none⟩ ∧ g < w.heap.size ∧ ∀ (j : Nat) (x : It), L[j]? = some x → w.cell? ⟨g, o + j * 2, none⟩ = some (.int .i64 x.1) ∧ w.cell? ⟨g, o + j * 2 + 1, none⟩ = some (.int .i64 x.2) := by
  rcases h with ⟨_, h⟩ | ⟨g, o, k, cs, h1, h2, h3, h4, h5⟩
  · subst h; simp at h0
  · injection h1 with h1
    exact ⟨g, o, h1, lt_of_heap h4, fun j x hx => Sl.cell h4 h5 hx⟩

/-- numbers that are read -/
def Nr (w : World) (v : Value) (L : List Int) : Prop :=
  ∃ (X : Option Addr) (k : Nat), v = .slice X L.length k ∧ L.length ≤ 9223372036854775807 ∧ (0 < L.length → ∃ g o : Nat, X = some ⟨g, o, none⟩ ∧ g < w.heap.size ∧ ∀ (j : Nat) (x : Int), L[j]? = some x → w.cell? ⟨g, o + j, none⟩ = some (.int .i64 x))
theorem Nr.below {w w' : World} {v : Value} {L : List Int} (h : Nr w v L) (k : Below w.heap.size w w') : Nr w' v L := by
  obtain ⟨X, c, h1, h2, h3⟩ := h
  exact ⟨X, c, h1, h2, fun h0 => by
    obtain ⟨g, o, h4, h5, h6⟩ := h3 h0
    exact ⟨g, o, h4, Nat.lt_of_lt_of_le h5 k.size, fun j x hx => (k.cell (p := ⟨g, o + j, none⟩) h5).trans (h6 j x hx)⟩⟩
theorem Nr.of_own {w : World} {B : Nat} {v : Value} {L : List Int} (h : Ow w B v L) : Nr w v L := by
  obtain ⟨X, k, rfl, h1, h2⟩ := K.own_form h
  refine ⟨X, k, rfl, by omega, fun h0 => ?_⟩
  rcases K.own_src rfl h with ⟨_, e, _⟩ | ⟨b, o, e, hb, hc⟩
  · rw [e] at h0; simp at h0
  · exact ⟨b, o, e, hb, fun j x hx => hc j _ (by rw [vals_ci, List.getElem?_map, hx]; rfl)⟩

theorem below_dn {a w : World} (h : Below a.heap.size a w) (n : Nat) : Below a.heap.size a (w.drewN n) := below_trans h (below_drewN w n)
set_option maxHeartbeats 1600000 in
theorem same_any (va vb : Value) (L M : List Int) (r : Bool) (w : World) (ha : Nr w va L) (hb : Nr w vb M) (hr : decide (L = M) = r) :
    Calls Try.prog 20 #[va, vb] w fun e w' => e = .returned (.bool r) ∧ Below w.heap.size w w' := by
  obtain ⟨XA, ka, rfl, la, fa⟩ := ha
  obtain ⟨XB, kb, rfl, lb, fb⟩ := hb
  obtain ⟨n, hn⟩ : ∃ n, L.length = n := ⟨_, rfl⟩
  obtain ⟨m, hm⟩ : ∃ m, M.length = m := ⟨_, rfl⟩
  rw [hn] at la fa ⊢
  rw [hm] at lb fb ⊢
  have HN := Lib.hid hn
  have HM := Lib.hid hm
  have HR := Lib.hid hr
  have FA := Lib.hid fa
  have FB := Lib.hid fb
  by_cases c : n = m
  · subst c
    have t1 : ((n : Int) != (n : Int)) = false := by simp
    clear hn hm hr fa fb
    go_enter Try.func20, Try.ntmps20
    go_wp2
    go_loopw [5] (fun i wr => ∃ t : Nat, t ≤ n ∧ i = .int .i64 (t : Int) ∧ L.take t = M.take t ∧ Below w.heap.size w wr) (fun i _ => n - (intOf i).toNat)
    case atStart => exact ⟨0, Nat.zero_le _, rfl, by simp, Below.refl _ _⟩
    case round =>
      obtain ⟨t, ht, rfl, he, hb⟩ := hrel
      have HE := Lib.hid he
      have HB := Lib.hid hb
      by_cases hlt : t < n
      · have hlt' : (t : Int) < (n : Int) := by omega
        obtain ⟨x, hx⟩ : ∃ x, L[t]? = some x := ⟨_, List.getElem?_eq_getElem (by rw [HN.out]; exact hlt)⟩
        obtain ⟨y, hy⟩ : ∃ y, M[t]? = some y := ⟨_, List.getElem?_eq_getElem (by rw [HM.out]; exact hlt)⟩
        obtain ⟨g1, o1, rfl, hg1, hc1⟩ := FA.out (by omega)
        obtain ⟨g2, o2, rfl, hg2, hc2⟩ := FB.out (by omega)
        have d1 := (hb.cell (p := ⟨g1, o1 + t, none⟩) hg1).trans (hc1 t x hx)
        have d2 := (hb.cell (p := ⟨g2, o2 + t, none⟩) hg2).trans (hc2 t y hy)
        have HX := Lib.hid hx
        have HY := Lib.hid hy
        clear he hb hx hy hc1 hc2
        by_cases hxy : x = y
        · subst hxy
          have t2 : (x != x) = false := by simp
          go_wp2
          go_quiet (fail)
          go_wp2
          refine ⟨⟨t + 1, by omega, by go_num, ?_, below_dn HB.out _⟩, by simp [intOf]; omega⟩
          rw [List.take_add_one, List.take_add_one, HE.out, HX.out, HY.out]
        · have t2 : (x != y) = true := by simpa using hxy
          have HXY := Lib.hid hxy
          clear hxy
          go_wp2
          go_quiet (fail)
          go_wp2
          go_ret
          refine ⟨?_, below_dn HB.out _⟩
          rw [← HR.out, decide_eq_false (fun e => by
            have h1 := HX.out
            rw [e, HY.out] at h1
            injection h1 with h1
            exact HXY.out h1.symm)]
          rfl
      · obtain rfl : t = n := by omega
        clear he hb
        go_wp2
        go_ret
        refine ⟨?_, HB.out⟩
        have e := HE.out
        rw [List.take_of_length_le (by rw [HN.out]; exact Nat.le_refl _), List.take_of_length_le (by rw [HM.out]; exact Nat.le_refl _)] at e
        rw [← HR.out, decide_eq_true e]
        rfl
  · have t1 : ((n : Int) != (m : Int)) = true := by simp; omega
    have HC := Lib.hid c
    clear hn hm hr fa fb c
    go_enter Try.func20, Try.ntmps20
    go_wp2
    go_ret
    refine ⟨?_, Below.refl _ _⟩
    rw [← HR.out, decide_eq_false (fun e => by subst e; exact HC.out (HN.out.symm.trans HM.out))]
    rfl

set_option maxHeartbeats 400000 in
theorem len_any (O : Nat) (X : Nat → Option Value) (p T : Nat) (b : Bool) (L : List It) (w : World) (hl : Ln O X w p T b L) :
    Calls Try.prog 40 #[.pointer (some ⟨p, O, none⟩)] w fun e w' => e = .returned (.int .i64 (L.length : Int)) ∧ w = w' := by
  obtain ⟨f, hl, r⟩ := hl
  have h0 := hl.count
  clear hl r
  go_enter Try.func40, Try.ntmps40
  go_wp2
  go_ret
  exact ⟨rfl, rfl⟩

set_option maxHeartbeats 1600000 in
theorem ids_ok (q : Nat) (b : Bool) (L : List It) (w : World) (h : Rq w q b L) (hn : L.length ≤ 16) :
    Calls Try.prog 30 #[.pointer (some ⟨q, 0, none⟩)] w fun e w' => ∃ v', e = .returned v' ∧ Ow w' w.heap.size v' (L.map Prod.fst) ∧ Below w.heap.size w w' := by
  obtain ⟨m, hm⟩ : ∃ m, L.length = m := ⟨_, rfl⟩
  have HM := Lib.hid hm
  have HQ := Lib.hid h
  rw [hm] at hn
  clear h hm
  go_enter Try.func30, Try.ntmps30
  go_wp2
  go_loopw [4, 3] (fun i o wr => ∃ (t : Nat) (vo : Value), t ≤ m ∧ i = .int .i64 (t : Int) ∧ vo = o ∧ Ow wr w.heap.size vo ((L.take t).map Prod.fst) ∧ Below w.heap.size w wr) (fun i _ _ => m - (intOf i).toNat)
  case atStart =>
    exact ⟨0, _, Nat.zero_le _, rfl, rfl, ⟨rfl, .inl ⟨rfl, rfl⟩⟩, Below.refl _ _⟩
  case round =>
    obtain ⟨t, vo, ht, rfl, rfl, hown, hb⟩ := hrel
    have HB := Lib.hid hb
    obtain ⟨X, k, _, c1, hs, hk1, hk2, _⟩ := (HQ.out.below hb).open
    rw [HM.out] at c1 hs hk1
    by_cases hlt : t < m
    · have hlt' : (t : Int) < (m : Int) := by omega
      obtain ⟨y, hy⟩ : ∃ y, L[t]? = some y := ⟨_, List.getElem?_eq_getElem (by rw [HM.out]; exact hlt)⟩
      obtain ⟨g, oo, rfl, hgl, hcl⟩ := slo hs (by rw [HM.out]; omega)
      obtain ⟨hc1, hc2⟩ := hcl t y hy
      have HO := Lib.hid hown
      have hlen : ((L.take t).map Prod.fst).length = t := by simp; rw [HM.out]; omega
      have HL := Lib.hid hlen
      have HY := Lib.hid hy
      have HWB := Lib.hid (show Below wr.heap.size wr (wr.alloc (.cells #[.int .i64 y.1] 3)) from (Below.refl _ _).alloc (Nat.le_refl _) _)
      have src := K.sr_one K.ci wr 3 y.1
      rw [show (K.ci y.1).toArray = #[.int .i64 y.1] from rfl] at src
      have hownb := K.own_below HO.out HWB.out
      unfold Ow at hownb
      rw [hlen] at hownb
      have HBS := Lib.hid (show w.heap.size ≤ (wr.alloc (.cells #[.int .i64 y.1] 3)).heap.size by have := HB.out.size; have := HWB.out.size; omega)
      have b2 : t + 1 ≤ 100000 := by omega
      clear hcl hown hb hlen hy hgl hs
      go_wp2_with (first
        | (refine K.wpList_append_one K.ki (by decide) rfl _ _ rfl w.heap.size vo ((L.take t).map Prod.fst) y.1 t HL.out rfl hownb _ 1 rfl src b2 HBS.out ?_
           intro X7 k7 w7 hown7 hgr7 hwh7
           have HO7 := Lib.hid hown7
           have HB7 := Lib.hid (below_grown (HB.out.trans (HWB.out.mono HB.out.size)) hgr7 HBS.out (fun q hq => by obtain ⟨_, _, _, h1, _⟩ := own_blk HO.out hq; exact h1))
           clear hown7 hgr7 hwh7 hownb src hc1 hc2 c1))
      have e1 : (L.take (t + 1)).map Prod.fst = (L.take t).map Prod.fst ++ [y.1] := by rw [List.take_add_one, HY.out]; simp
      have e2 : ((L.take (t + 1)).map Prod.fst).length = t + 1 := by rw [e1, List.length_append, HL.out]; rfl
      exact ⟨⟨t + 1, _, by omega, by go_num, rfl, by unfold Ow; rw [e2, e1]; exact HO7.out, HB7.out⟩, by simp [intOf]; omega⟩
    · obtain rfl : t = m := by omega
      have HO := Lib.hid hown
      clear hown hb hs
      go_wp2
      go_ret
      refine ⟨_, rfl, ?_, HB.out⟩
      have := HO.out
      rw [List.take_of_length_le (by rw [HM.out]; exact Nat.le_refl _)] at this
      exact this


theorem info3' : (Try.prog.info? 3).map (fun i => (i.zero, i.size, i.bytes)) = some (some (.int .i64 0), 1, 8) := by kernel_rfl
theorem run_make_ints (n : Nat) (hn : n ≤ 65536) (W : World) :
    (Instr.makeSlice 40 (.int .i64 (n : Int)) (.int .i64 (n : Int))).run Try.prog W = .ok (.slice (some ⟨W.heap.size, 0, none⟩) n n) (W.alloc (.cells (madeCells #[.int .i64 0] n) 3)) := by
  obtain ⟨i0, hi0, hz0, hz1, hz2⟩ := info_parts info3'
  have h := run_make (P := Try.prog) W 40 3 i0 _ Try.underlying40 hi0 hz0 .i64 .i64 n n (by omega) (by omega) (by rw [hz2]; omega) (by omega)
  simpa [hz1, Value.cells] using h

/-- the row of the numbers while it is filled -/
def Tk (w : World) (g n : Nat) (L : List Int) (t : Nat) : Prop :=
  ∃ cs : Array Value, w.heap[g]? = some (.cells cs 3 (0, 0)) ∧ cs.size = n ∧ ∀ j, j < n → cs[j]? = some (.int .i64 (if j < t then L.getD j 0 else 0))
theorem Tk.lt {w : World} {g n t : Nat} {L : List Int} (h : Tk w g n L t) : g < w.heap.size := by obtain ⟨cs, h, _⟩ := h; exact lt_of_heap h
theorem Tk.keep {w w' : World} {g n t : Nat} {L : List Int} (h : Tk w g n L t) (k : w'.heap[g]? = w.heap[g]?) : Tk w' g n L t := by obtain ⟨cs, h, r⟩ := h; exact ⟨cs, k.trans h, r⟩
theorem Tk.cell {w : World} {g n t : Nat} {L : List Int} (h : Tk w g n L t) {j : Nat} (hj : j < n) : w.cell? ⟨g, j, none⟩ = some (.int .i64 (if j < t then L.getD j 0 else 0)) ∧ w.frozen? ⟨g, j, none⟩ = false := by
  obtain ⟨cs, h, _, r⟩ := h; exact ⟨by rw [cell_of_row w g j cs 3 (0, 0) h]; exact r j hj, frozen_of_row w g j cs 3 h⟩
theorem Tk.set {w : World} {g n t : Nat} {L : List Int} (h : Tk w g n L t) (ht : t < n) (x : Int) (hx : L.getD t 0 = x) : Tk (w.setCell ⟨g, t, none⟩ (.int .i64 x)) g n L (t + 1) := by
  obtain ⟨cs, h, hs, r⟩ := h
  refine ⟨_, heap_setCell_same w g t cs 3 _ h, by simpa using hs, fun j hj => ?_⟩
  by_cases c : j = t
  · subst c; rw [Array.getElem?_setIfInBounds_self_of_lt (by omega), if_pos (by omega), hx]
  · rw [Array.getElem?_setIfInBounds_ne (Ne.symm c), r j hj]
    by_cases c2 : j < t
    · rw [if_pos c2, if_pos (by omega)]
    · rw [if_neg c2, if_neg (by omega)]
theorem Tk.own {w : World} {B g n : Nat} {L : List Int} (h : Tk w g n L n) (hL : L.length = n) (hB : B ≤ g) (hn : n ≤ 16) : Ow w B (.slice (some ⟨g, 0, none⟩) n n) L := by
  obtain ⟨cs, h, hs, r⟩ := h
  refine ⟨by rw [vals_ci]; simp, .inr ⟨g, n, cs, by rw [hL], hB, h, by omega, by unfold maxLen; omega, by omega, ?_⟩⟩
  rw [vals_ci, hL, Nat.mul_one]
  apply List.ext_getElem?
  intro j
  rw [List.getElem?_take]
  by_cases c : j < n
  · rw [if_pos c, Array.getElem?_toList, r j c, if_pos c, List.getElem?_map, List.getElem?_eq_getElem (by omega)]
    simp [List.getD_eq_getElem?_getD, List.getElem?_eq_getElem (show j < L.length by omega)]
  · rw [if_neg c, List.getElem?_eq_none (by simp; omega)]

set_option maxHeartbeats 1600000 in
theorem tasks_ok (v : Value) (L : List It) (w : World) (h : Sl w 60 v L) (hn : L.length ≤ 16) :
    Calls Try.prog 61 #[v] w fun e w' => ∃ v', e = .returned v' ∧ Ow w' w.heap.size v' (L.map Prod.fst) ∧ Below w.heap.size w w' := by
  obtain ⟨X, k, rfl, hk1, hk2⟩ := slf h
  obtain ⟨m, hm⟩ : ∃ m, L.length = m := ⟨_, rfl⟩
  rw [hm] at h hk1 hn ⊢
  have HM := Lib.hid hm
  have HS := Lib.hid h
  have hmk := run_make_ints m (by omega) w
  have HT : Hid (Tk (w.alloc (.cells (madeCells #[.int .i64 0] m) 3)) w.heap.size m (L.map Prod.fst) 0) := Lib.hid ⟨_, heap_alloc_new w _, by simp [madeCells], fun j hj => by rw [← Array.getElem?_toList, toList_madeCells_one, List.getElem?_replicate, if_pos hj]; rfl⟩
  have HB0 := Lib.hid ((Below.refl w.heap.size w).alloc (Nat.le_refl _) (.cells (madeCells #[.int .i64 0] m) 3))
  clear h hm
  go_enter Try.func61, Try.ntmps61
  go_wp2
  clear hmk
  go_loopw [11] (fun i wr => ∃ (t : Nat), t ≤ m ∧ i = .int .i64 (t : Int) ∧ Tk wr w.heap.size m (L.map Prod.fst) t ∧ Below w.heap.size w wr) (fun i _ => m - (intOf i).toNat)
  case atStart =>
    exact ⟨0, Nat.zero_le _, rfl, HT.out, HB0.out⟩
  case round =>
    obtain ⟨t, ht, rfl, hown, hb⟩ := hrel
    have HB := Lib.hid hb
    by_cases hlt : t < m
    · have hlt' : (t : Int) < (m : Int) := by omega
      obtain ⟨y, hy⟩ : ∃ y, L[t]? = some y := ⟨_, List.getElem?_eq_getElem (by rw [HM.out]; exact hlt)⟩
      obtain ⟨g, oo, rfl, hgl, hcl⟩ := slo (HS.out.below hb) (by rw [HM.out]; omega)
      obtain ⟨hc1, hc2⟩ := hcl t y hy
      have hba : Below wr.heap.size wr (wr.alloc (.cells #[.int .i64 y.1, .int .i64 y.2] 60)) := (Below.refl _ _).alloc (Nat.le_refl _) _
      have bx := box_new wr 60 (.int .i64 y.1) (.int .i64 y.2)
      have q0 := bx.c0
      have hown2 := hown.keep (hba.block _ hown.lt)
      obtain ⟨r1, r2⟩ := hown2.cell hlt
      have HO := Lib.hid (hown2.set hlt y.1 (by simp [List.getD_eq_getElem?_getD, hy]))
      have HBA := Lib.hid hba
      clear hcl hown hb bx hy hgl hown2 hba
      go_wp2
      exact ⟨⟨t + 1, by omega, by go_num, HO.out, (below_trans HB.out HBA.out).setCell (p := ⟨w.heap.size, t, none⟩) (Nat.le_refl _) _⟩, by simp [intOf]; omega⟩
    · obtain rfl : t = m := by omega
      have HO := Lib.hid hown
      clear hown hb
      go_wp2
      go_ret
      exact ⟨_, rfl, HO.out.own (by rw [List.length_map]; exact HM.out) (Nat.le_refl _) hn, HB.out⟩
end Go.Proofs.Ytneimdjgbblaoaa
