/- Contracts of package mtx: wouldCircle, settle, pass. -/
import Derived.Test.YtmicinenggkmlaaMtB
import Derived.Test.YtmicinenggkmlaaConD
import Derived.Test.YtmicinenggkmlaaConK
namespace Go.Proofs.Ytmicinenggkmlaa
open Go.RowKit
set_option linter.unusedVariables false
set_option maxRecDepth 100000

/-- how far the way is yet -/
def far (S : St) (rk : Int → Nat) (v : Value) : Nat := if intOf v = 0 then 0 else 18 - rk (S.O (ix (intOf v)))
theorem far_int (S : St) (rk : Int → Nat) (N : Int) : far S rk (.int .i64 N) = if N = 0 then 0 else 18 - rk (S.O (ix N)) := rfl

set_option maxHeartbeats 3200000 in
theorem circle_any (a g : Nat) (q : Nat → Nat) (S : St) (m t : Int) (w : World) (h : Mx w a g q S) (hf : Fine0 S) (hm : isM S m) (h0 : S.O (ix m) ≠ 0) (ht : t ≠ 0) (r : Bool) (hr : circ S (S.O (ix m)) t = r) :
    Calls Try.prog 36 #[PtrV a, .int .i64 m, .int .i64 t] w fun e w' => e = .returned (.bool r) ∧ Below w.heap.size w w' := by
  obtain ⟨rk, hr1, hr2⟩ := hf.ac
  have HR1 := Lib.hid hr1
  have HR2 := Lib.hid hr2
  have HR := Lib.hid hr
  have HF := Lib.hid hf
  have HH := Lib.hid h
  have HT := Lib.hid ht
  have HM := Lib.hid hm
  have H0 := Lib.hid h0
  clear hr1 hr2 hr hf h ht hm h0
  obtain ⟨o, ho⟩ : ∃ o, S.O (ix m) = o := ⟨_, rfl⟩
  rw [ho] at HR H0
  have HO := Lib.hid ho
  clear ho
  go_enter Try.func36, Try.ntmps36
  go_wp2
  go_loopw [1] (fun i wr => ∃ M : Int, i = .int .i64 M ∧ Below w.heap.size w wr ∧ ((M = 0 ∧ ∀ j, itr S o j ≠ t) ∨ (M ≠ 0 ∧ isM S M ∧ ∃ k, S.O (ix M) = itr S o k ∧ itr S o k ≠ 0 ∧ ∀ j, j < k → itr S o j ≠ t))) (fun i _ => far S rk i)
  case atStart => exact ⟨m, rfl, Below.refl _ _, .inr ⟨by have := HM.out; unfold isM at this; omega, HM.out, 0, HO.out, H0.out, fun j hj => absurd hj (by omega)⟩⟩
  case round =>
    obtain ⟨M, rfl, hb, ⟨hM0, hno⟩ | ⟨hM0, hM, k, hk, hk0, hno⟩⟩ := hrel
    · have HB := Lib.hid hb
      have HNO := Lib.hid hno
      subst hM0
      clear hb hno
      go_wp2
      go_ret
      refine ⟨?_, HB.out⟩
      rw [← HR.out, circ_no fun k _ => HNO.out k]
      rfl
    · have tM : (M != 0) = true := by simpa using hM0
      have HB := Lib.hid hb
      have HNO := Lib.hid hno
      have HK := Lib.hid hk
      have HK0 := Lib.hid hk0
      have HMM := Lib.hid hM
      have HM0 := Lib.hid hM0
      have HW := Lib.hid (HH.out.below hb)
      have HOW := Lib.hid (owner_any a g q S M wr HW.out (itr S o k) (by unfold owns; rw [if_pos hM, hk]))
      have hlen := itr_len HF.out HR1.out (o := o) k hk0
      have hle := HR2.out (itr S o k)
      have HLEN := Lib.hid (show k ≤ 16 by omega)
      clear hb hno hk hk0 hM hM0 hlen hle
      obtain ⟨x, hx⟩ : ∃ x, itr S o k = x := ⟨_, rfl⟩
      have HX := Lib.hid hx
      rw [hx] at HOW
      clear hx
      by_cases c : x = t
      · subst c
        have te : (x != x) = false := by simp
        go_wp2_with fail
        refine HOW.out.mono ?_
        rintro e w1 ⟨rfl, rfl⟩
        go_wp2
        go_ret
        refine ⟨?_, HB.out⟩
        rw [← HR.out, circ_yes HLEN.out HX.out]
        rfl
      · have te : (x != t) = true := by simpa using c
        have HC := Lib.hid c
        clear c
        have HWA := Lib.hid (waits_any a g q S x wr HW.out HF.out _ rfl)
        go_wp2_with fail
        refine HOW.out.mono ?_
        rintro e w1 ⟨rfl, rfl⟩
        go_wp2_with fail
        refine HOW.out.mono ?_
        rintro e w1 ⟨rfl, rfl⟩
        go_wp2_with fail
        refine HWA.out.mono ?_
        rintro e w1 ⟨rfl, hb1⟩
        have HB1 := Lib.hid (below_trans HB.out hb1)
        clear hb1
        have hnext : ∀ N : Int, (if fi S x < S.n then ((fi S x + 1 : Nat) : Int) else 0) = N → ((N = 0 ∧ ∀ j, itr S o j ≠ t) ∨ (N ≠ 0 ∧ isM S N ∧ ∃ k, S.O (ix N) = itr S o k ∧ itr S o k ≠ 0 ∧ ∀ j, j < k → itr S o j ≠ t)) ∧ far S rk (.int .i64 N) < far S rk (.int .i64 M) := by
          intro N hN
          have hfar : far S rk (.int .i64 M) = 18 - rk x := by
            rw [far_int, if_neg HM0.out, HK.out, HX.out]
          have hnos : ∀ j, j ≤ k → itr S o j ≠ t := fun j hj => by
            by_cases e : j = k
            · subst e; rw [HX.out]; exact HC.out
            · exact HNO.out j (by omega)
          have hx16 := HR2.out x
          rw [hfar]
          by_cases cf : fi S x < S.n
          · rw [if_pos cf] at hN
            subst hN
            have hix : ix ((fi S x + 1 : Nat) : Int) = fi S x := by unfold ix; omega
            obtain ⟨y, hy, ey⟩ := fi_at cf
            have ho0 : S.O (fi S x) ≠ 0 := fun e => by rw [(HF.out.ow _ cf).2.2 e] at hy; cases hy
            have hit : itr S o (k + 1) = S.O (fi S x) := by
              show nx S (itr S o k) = _
              rw [HX.out]; unfold nx; rw [if_pos cf]
            have hrk := HR1.out _ cf y hy
            rw [ey] at hrk
            refine ⟨.inr ⟨by omega, by unfold isM; omega, k + 1, by rw [hix, hit], by rw [hit]; exact ho0, fun j hj => hnos j (by omega)⟩, ?_⟩
            rw [far_int, if_neg (by omega), hix]
            omega
          · rw [if_neg cf] at hN
            subst hN
            have hit : itr S o (k + 1) = 0 := by
              show nx S (itr S o k) = _
              rw [HX.out]; unfold nx; rw [if_neg cf]
            refine ⟨.inl ⟨rfl, fun j => ?_⟩, by rw [far_int, if_pos rfl]; omega⟩
            by_cases e : j ≤ k
            · exact hnos j e
            · have := itr_zero HF.out hit (j - (k + 1))
              rw [show k + 1 + (j - (k + 1)) = j by omega] at this
              rw [this]; exact Ne.symm HT.out
        have HNX := Lib.hid hnext
        clear hnext
        generalize (if fi S x < S.n then ((fi S x + 1 : Nat) : Int) else 0) = N at *
        have HN2 := Lib.hid (HNX.out N rfl)
        clear HNX
        go_wp2
        go_roundw
        case rel => exact ⟨N, rfl, HB1.out, HN2.out.1⟩
        case measure => exact HN2.out.2

/-! ### settle -/
/-- the first v queues anew, and of the next one the first k -/
def sv (S : St) (v k : Nat) : St := { S with Q := fun i => if i < v then sq (S.bp i) (P S) (S.Q i) (S.Q i) else if i = v then sq (S.bp v) (P S) ((S.Q v).take k) (S.Q v) else S.Q i }
theorem sv_zero (S : St) : sv S 0 0 = S := by
  have e : (sv S 0 0).Q = S.Q := by
    funext i
    unfold sv
    simp only
    rw [if_neg (by omega)]
    split
    · rename_i c; subst c; rfl
    · rfl
  unfold sv at e ⊢
  simp only at e
  rw [e]
theorem sv_next (S : St) (v : Nat) {k : Nat} (hk : (S.Q v).length ≤ k) : sv S v k = sv S (v + 1) 0 := by
  have e : (sv S v k).Q = (sv S (v + 1) 0).Q := by
    funext i
    unfold sv
    simp only
    by_cases c : i < v
    · rw [if_pos c, if_pos (by omega)]
    · rw [if_neg c]
      by_cases c2 : i = v
      · subst c2; rw [if_pos rfl, if_pos (by omega), List.take_of_length_le hk]
      · rw [if_neg c2, if_neg (by omega)]
        split
        · rename_i c3; subst c3; rfl
        · rfl
  unfold sv at e ⊢
  simp only at e
  rw [e]
theorem sv_end (S : St) : sv S S.n 0 = settle S := by
  have e : (sv S S.n 0).Q = (settle S).Q := by
    funext i
    unfold sv settle
    simp only
    split
    · rfl
    · split
      · rename_i c; subst c; rfl
      · rfl
  unfold sv settle at e ⊢
  simp only at e
  rw [e]
theorem sv_at (S : St) (v k : Nat) : (sv S v k).Q v = sq (S.bp v) (P S) ((S.Q v).take k) (S.Q v) := by
  unfold sv; simp only; rw [if_neg (by omega)]; simp only [if_true]
theorem sv_step (S : St) (v k : Nat) {x : It} (hx : (S.Q v)[k]? = some x) : { sv S v k with Q := upd (sv S v k).Q v (if P S x.1 = x.2 then (sv S v k).Q v else chgL (S.bp v) ((sv S v k).Q v) x.1 (P S x.1)) } = sv S v (k + 1) := by
  have e : upd (sv S v k).Q v (if P S x.1 = x.2 then (sv S v k).Q v else chgL (S.bp v) ((sv S v k).Q v) x.1 (P S x.1)) = (sv S v (k + 1)).Q := by
    funext i
    by_cases c : i = v
    · subst c
      rw [upd_at, sv_at, sv_at, take_snoc hx, sq_snoc]
    · rw [upd_ne _ _ c]
      unfold sv
      simp only
      rw [if_neg c, if_neg c]
  unfold sv at e ⊢
  simp only at e ⊢
  rw [e]
theorem sv_inq (S : St) (v k i : Nat) (t : Int) : inq S i t ↔ inq (sv S v k) i t := by
  unfold inq sv
  simp only
  split
  · exact sq_ids.symm
  · split
    · rename_i c; subst c; exact sq_ids.symm
    · exact Iff.rfl
theorem sv_P (S : St) (v k : Nat) : P (sv S v k) = P S := (P_same (S := S) (T := sv S v k) rfl rfl fun i _ => ⟨rfl, rfl, rfl, sv_inq S v k i⟩).symm
theorem Fine0.sv {S : St} (h : Fine0 S) (v k : Nat) : Fine0 (sv S v k) := by
  refine ⟨h.n8, h.kd, fun i hi => ?_, fun i hi => ⟨(h.ow i hi).1, (h.ow i hi).2.1, fun e => ?_⟩, fun i j hi hj x y hx hy e => ?_, h.bs, h.ac.congr rfl (fun _ _ => rfl) fun i hi t ht => (sv_inq S v k i t).2 ht⟩
  · unfold Ytmicinenggkmlaa.sv
    simp only
    have hg := h.gd i hi
    split
    · exact hg.sq
    · split
      · rename_i c; subst c; exact hg.sq
      · exact hg
  · have e0 := (h.ow i hi).2.2 e
    unfold Ytmicinenggkmlaa.sv
    simp only
    split
    · rw [e0]; rfl
    · split
      · rename_i c; subst c; rw [e0, List.take_nil]; rfl
      · exact e0
  · obtain ⟨x', hx', ex⟩ := (sv_inq S v k i x.1).2 ⟨x, hx, rfl⟩
    obtain ⟨y', hy', ey⟩ := (sv_inq S v k j y.1).2 ⟨y, hy, rfl⟩
    exact h.one i j hi hj x' y' hx' hy' (by rw [ex, ey, e])
theorem zq {a g : Nat} {q : Nat → Nat} {n i : Nat} (hi : i < n) : Zp a g q n (q i) := .inr (.inr ⟨i, hi, rfl⟩)
theorem Mx.zlt {w : World} {a g : Nat} {q : Nat → Nat} {S : St} (h : Mx w a g q S) (h0 : 0 < S.n) {b : Nat} (hz : Zp a g q S.n b) : b < w.heap.size := by
  rcases hz with rfl | ⟨_, rfl⟩ | ⟨i, hi, rfl⟩
  · exact h.lt
  · obtain ⟨ds, h3, _⟩ := h.hg h0; exact lt_of_heap h3
  · exact (h.hl i hi).lt
theorem Mx.nz {w : World} {a g : Nat} {q : Nat → Nat} {S : St} (h : Mx w a g q S) {b : Nat} {cs : Array Value} {e : TypeId} {fr : Nat × Nat} (hb : w.heap[b]? = some (.cells cs e fr)) (h1 : e ≠ 66) (h2 : e ≠ 70) (h3 : e ≠ 87) : ¬ Zp a g q S.n b := by
  rintro (rfl | ⟨h0, rfl⟩ | ⟨i, hi, rfl⟩)
  · exact h.atype h1 _ _ hb
  · exact h.gtype h0 h2 _ _ hb
  · exact h.qtype hi h3 _ _ hb

set_option maxHeartbeats 3200000 in
theorem settle_any (a g : Nat) (q : Nat → Nat) (S : St) (w : World) (h : Mx w a g q S) (hf : Fine0 S) :
    Calls Try.prog 38 #[PtrV a] w fun e w' => e = .returned (.tuple #[]) ∧ Mx w' a g q (settle S) ∧ OnS (Zp a g q S.n) w w' := by
  obtain ⟨X, k, c16, _, _, hX⟩ := h.row
  have hn8 := hf.n8
  have HF := Lib.hid hf
  have HX := Lib.hid hX
  have HH := Lib.hid h
  clear hf hX h
  obtain ⟨n, hn⟩ : ∃ n, S.n = n := ⟨_, rfl⟩
  have HN := Lib.hid hn
  rw [hn] at c16 hn8
  clear hn
  go_enter Try.func38, Try.ntmps38
  go_wp2
  clear c16
  go_loopw [12] (fun i wr => ∃ v : Nat, v ≤ n ∧ i = .int .i64 (v : Int) ∧ Mx wr a g q (sv S v 0) ∧ OnS (Zp a g q S.n) w wr) (fun i _ => n - (intOf i).toNat)
  case atStart => exact ⟨0, Nat.zero_le _, rfl, by rw [sv_zero]; exact HH.out, OnS.refl _ _⟩
  case round =>
    obtain ⟨v, hv, rfl, h2, hb⟩ := hrel
    have HB := Lib.hid hb
    have H2 := Lib.hid h2
    clear hb
    by_cases hlt : v < n
    · have hvn : v < S.n := by rw [HN.out]; exact hlt
      obtain rfl := HX.out (by omega)
      obtain ⟨d0, d1, d2, d3⟩ := h2.cells (S := sv S v 0) (i := v) hvn
      have hlq := h2.hl v hvn
      obtain ⟨xa, hxa⟩ : ∃ x, (sv S v 0).A v = x := ⟨_, rfl⟩
      obtain ⟨xc, hxc⟩ : ∃ x, (sv S v 0).C v = x := ⟨_, rfl⟩
      obtain ⟨xo, hxo⟩ : ∃ x, (sv S v 0).O v = x := ⟨_, rfl⟩
      obtain ⟨p, hp⟩ : ∃ x, q v = x := ⟨_, rfl⟩
      rw [hxa] at d0
      rw [hxc] at d1
      rw [hxo] at d2
      rw [hp] at d3 hlq
      have HPQ := Lib.hid hp
      have HVN := Lib.hid hvn
      have HLQ := Lib.hid hlq
      clear h2 hxa hxc hxo hp hvn hlq
      go_wp2_with fail
      have hal : Below wr.heap.size wr (wr.alloc (.cells #[.int .i64 xa, .int .i64 xc, .int .i64 xo, PtrV p] 70)) := (Below.refl wr.heap.size wr).alloc (Nat.le_refl _) _
      refine (row_ok p 87 ((sv S v 0).bp v) ((sv S v 0).Q v) _ (HLQ.out.alloc _) ((HF.out.sv v 0).gd v HVN.out).len).mono ?_
      rintro e w2 ⟨vv, rfl, hs, hb2⟩
      have hb3 := below_trans hal hb2
      have HM2 := Lib.hid (H2.out.below hb3)
      have HB2 := Lib.hid (HB.out.trans (.of_below hb3))
      have hz3 : ¬ Zp a g q S.n wr.heap.size := fun hz => by
        have := H2.out.zlt (S := sv S v 0) (by have := HVN.out; exact Nat.lt_of_le_of_lt (Nat.zero_le _) this) hz
        omega
      have hc3 : w2.cell? ⟨wr.heap.size, 3, none⟩ = some (PtrV p) := by
        have := heap_alloc_new wr (.cells #[.int .i64 xa, .int .i64 xc, .int .i64 xo, PtrV p] 70)
        rw [cell_of_row w2 _ 3 _ 70 (0, 0) ((hb2.block wr.heap.size (lt_of_heap this)).trans this)]; rfl
      obtain ⟨X1, k1, rfl, hk1, hk2⟩ := sl_form hs
      have eL : (sv S v 0).Q v = S.Q v := by rw [sv_at]; rfl
      rw [eL] at hs hk1 ⊢
      have hg := HF.out.gd v HVN.out
      have hlen := hg.len
      obtain ⟨L, hL⟩ : ∃ L, S.Q v = L := ⟨_, rfl⟩
      have HL := Lib.hid hL
      have HG := Lib.hid hg
      rw [hL] at hs hk1 hlen ⊢
      obtain ⟨n1, hn1⟩ : ∃ n1, L.length = n1 := ⟨_, rfl⟩
      have HN1 := Lib.hid hn1
      rw [hn1] at hs hk1 hlen ⊢
      have HS := Lib.hid hs
      have HC3 := Lib.hid hc3
      have HZ3 := Lib.hid hz3
      obtain ⟨c3, hcc⟩ : ∃ c3, wr.heap.size = c3 := ⟨_, rfl⟩
      rw [hcc] at HC3 HZ3 ⊢
      clear hal hb2 hb3 hz3 hc3 hs hn1 hL eL hg d0 d1 d2 d3 H2 HB HLQ hcc
      go_wp2
      go_loopw [22] (fun i wr => ∃ t : Nat, t ≤ n1 ∧ i = .int .i64 (t : Int) ∧ Mx wr a g q (sv S v t) ∧ OnS (Zp a g q S.n) w2 wr) (fun i _ => n1 - (intOf i).toNat)
      case atStart => exact ⟨0, Nat.zero_le _, rfl, HM2.out, OnS.refl _ _⟩
      case round =>
        obtain ⟨t, ht, rfl, h4, hb4⟩ := hrel
        have hc3 : wr.cell? ⟨c3, 3, none⟩ = some (PtrV p) := (World.cell?_of_block (w := w2) (hb4.block c3 (block_lt_of_cell HC3.out) HZ3.out)).trans HC3.out
        have H4 := Lib.hid h4
        have HB4 := Lib.hid hb4
        by_cases hlt : t < n1
        · obtain ⟨x, hx⟩ : ∃ x, L[t]? = some x := ⟨_, List.getElem?_eq_getElem (by rw [HN1.out]; exact hlt)⟩
          have hs4 : Sl wr 82 (.slice X1 n1 k1) L := HS.out.keep fun g1 cs hg1 => hb4.block g1 (lt_of_heap hg1) (HM2.out.nz (S := sv S v 0) hg1 (by decide) (by decide) (by decide))
          obtain ⟨g1, o1, rfl, hc⟩ := sl_open hs4 (by rw [HN1.out]; omega)
          obtain ⟨e0, e1⟩ := hc t x hx
          have hxr := HG.out.rng x (by rw [HL.out]; exact List.mem_of_getElem? hx)
          have HX2 := Lib.hid hx
          have HXR := Lib.hid hxr
          clear h4 hb4 hs4 hc hx hxr
          go_wp2_with fail
          have hal : Below wr.heap.size wr (wr.alloc (.cells #[.int .i64 x.1, .int .i64 x.2] 82)) := (Below.refl wr.heap.size wr).alloc (Nat.le_refl _) _
          refine (pri_any a g q (sv S v t) x.1 _ (H4.out.below hal) (HF.out.sv v t) (P S x.1) (by unfold pri; rw [if_pos ⟨HXR.out.1, HXR.out.2.1⟩, sv_P])).mono ?_
          rintro e w3 ⟨rfl, hb3⟩
          have hb5 := below_trans hal hb3
          have H5 := Lib.hid (H4.out.below hb5)
          have HB5 := Lib.hid (HB4.out.trans (.of_below hb5))
          have hbox := heap_alloc_new wr (.cells #[.int .i64 x.1, .int .i64 x.2] 82)
          have hbox3 := (hb3.block wr.heap.size (lt_of_heap hbox)).trans hbox
          have f0 : w3.cell? ⟨wr.heap.size, 0, none⟩ = some (.int .i64 x.1) := by rw [cell_of_row w3 _ 0 _ 82 (0, 0) hbox3]; rfl
          have f1 : w3.cell? ⟨wr.heap.size, 1, none⟩ = some (.int .i64 x.2) := by rw [cell_of_row w3 _ 1 _ 82 (0, 0) hbox3]; rfl
          have g3 : w3.cell? ⟨c3, 3, none⟩ = some (PtrV p) := (hb5.cell (p := ⟨c3, 3, none⟩) (block_lt_of_cell hc3)).trans hc3
          have HST := Lib.hid (sv_step S v t (x := x) (by rw [HL.out]; exact HX2.out))
          obtain ⟨y, hy⟩ : ∃ y, P S x.1 = y := ⟨_, rfl⟩
          have HPR := Lib.hid (HF.out.pri HXR.out.1 HXR.out.2.1)
          rw [hy] at HST HPR ⊢
          have HY := Lib.hid hy
          clear hal hb3 hb5 hbox hbox3 e0 e1 hc3 hy H4 HB4
          by_cases c : y = x.2
          · have te : (y != x.2) = false := by simpa using c
            rw [if_pos c, upd_id] at HST
            have HE : Mx w3 a g q (sv S v (t + 1)) := by rw [← HST.out]; exact H5.out
            have HE := Lib.hid HE
            clear c f0 g3
            go_wp2
            go_roundw
            case rel => exact ⟨t + 1, by omega, by go_num, HE.out, HB5.out⟩
            case measure => simp [intOf]; omega
          · have te : (y != x.2) = true := by simpa using c
            rw [if_neg c] at HST
            clear c
            go_wp2_with fail
            obtain ⟨ck, hck⟩ : ∃ ck, chgOk ((sv S v t).Q v) x.1 y = ck := ⟨_, rfl⟩
            refine (change_to p (S.bp v) ((sv S v t).Q v) _ ck w3 (by have := H5.out.hl v HVN.out; rw [HPQ.out] at this; exact this) ((HF.out.sv v t).gd v HVN.out) x.1 y hck rfl).mono ?_
            rintro e w4 ⟨rfl, hl4, ho4⟩
            have hm4 := H5.out.turn (i := v) HVN.out (w' := w4) (by rw [HPQ.out]; exact ho4) (by rw [HPQ.out]; exact hl4)
            have HE : Mx w4 a g q (sv S v (t + 1)) := by rw [← HST.out]; exact hm4
            have HE := Lib.hid HE
            have HB6 := Lib.hid (HB5.out.trans (.at_ ho4 (by rw [← HPQ.out]; exact zq HVN.out)))
            clear hl4 ho4 hm4 hck f0 f1 g3
            go_wp2
            go_roundw
            case rel => exact ⟨t + 1, by omega, by go_num, HE.out, HB6.out⟩
            case measure => simp [intOf]; omega
        · have e : t = n1 := by omega
          subst e
          clear h4 hb4 hc3
          have HE : Mx wr a g q (sv S (v + 1) 0) := by
            rw [← sv_next S v (k := t) (by rw [HL.out, HN1.out]; exact Nat.le_refl _)]; exact H4.out
          have HE := Lib.hid HE
          go_wp2
          go_roundw
          case rel => exact ⟨v + 1, by omega, by go_num, HE.out, HB2.out.trans HB4.out⟩
          case measure => simp [intOf]; omega
    · have e : v = n := by omega
      subst e
      clear h2
      go_wp2
      go_end0
      refine ⟨rfl, ?_, HB.out⟩
      have := H2.out
      rw [← HN.out, sv_end] at this
      exact this
end Go.Proofs.Ytmicinenggkmlaa
