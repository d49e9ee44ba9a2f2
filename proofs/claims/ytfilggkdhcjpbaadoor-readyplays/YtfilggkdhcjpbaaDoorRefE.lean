/- The law's own comparison (detentlaw9.same): a Queue and the document's tell the same. -/
import Derived.Test.YtfilggkdhcjpbaaDoorRefD
namespace Go.Proofs.YtfilggkdhcjpbaaDoor
open Go.RowKit

/-- both, in one memory -/
structure Bo (w : World) (p r : Nat) (S : St) (wr : World) : Prop where
  q : Qu wr p S
  f : Rf wr r S
  tab : Tab wr
  bel : Below w.heap.size w wr
theorem Bo.below {w wr wr' : World} {p r : Nat} {S : St} (h : Bo w p r S wr) (hb : Below wr.heap.size wr wr') : Bo w p r S wr' :=
  ⟨h.q.below hb, h.f.below hb, h.tab.below hb, h.bel.trans (hb.mono h.bel.size)⟩
theorem Bo.drewN {w wr : World} {p r : Nat} {S : St} (h : Bo w p r S wr) (n : Nat) : Bo w p r S (wr.drewN n) := h.below (below_drewN _ _ _)

theorem Good.first_ok {S : St} (h : Good S) : (!S.all.isEmpty) = (S.first != 0) := by
  rcases hA : S.all with _ | ⟨y, r⟩
  · unfold St.first; rw [hA]; rfl
  · have hy : S.P y ≠ 0 := by
      intro h0
      obtain ⟨a, h1, _, h3⟩ := allF_mem S.R 256 1 y (by show y ∈ S.all; rw [hA]; simp)
      have := ((h.mem a y).1 h3).2; omega
    have := (h.dom y hy).1
    have e : S.first = y := by unfold St.first; rw [hA]; rfl
    rw [e]
    have : (y != 0) = true := by simp; omega
    rw [this]; rfl

set_option maxHeartbeats 3200000 in
set_option maxRecDepth 100000 in
theorem same_any (p r : Nat) (S : St) (w : World) (hq : Qu w p S) (hf : Rf w r S) (hT : Tab w) :
    Calls Tryd.prog 19 #[.pointer (some ⟨p, 0, none⟩), .pointer (some ⟨r, 0, none⟩)] w fun e w' => e = .returned (.bool true) ∧ Below w.heap.size w w' := by
  have H0 : Hid (Bo w p r S w) := Lib.hid ⟨hq, hf, hT, Below.refl _ _⟩
  have HG := Lib.hid hq.1
  obtain ⟨y, hy⟩ : ∃ y, S.first = y := ⟨_, rfl⟩
  have HY := Lib.hid hy
  have HOK : Hid ((!S.all.isEmpty) = (y != 0)) := Lib.hid (by rw [hq.1.first_ok, hy])
  obtain ⟨n, hn⟩ : ∃ n, S.all.length = n := ⟨_, rfl⟩
  have HN := Lib.hid hn
  have hn16 : n ≤ 16 := by rw [← hn]; exact hq.1.all_len
  clear hq hf hT hy hn
  go_enter Tryd.func19, Tryd.ntmps19
  go_wp2_with fail
  refine (qfirst_any p S w H0.out.q H0.out.tab y _ HY.out HOK.out).mono ?_
  rintro e w' ⟨rfl, rfl⟩
  go_wp2_with fail
  refine (rfirst_any r S w H0.out.f y HY.out).mono ?_
  rintro e w1 ⟨rfl, hb⟩
  have H1 := Lib.hid (H0.out.below hb)
  clear H0 hb
  go_wp2_with fail
  refine (rfirst_any r S w1 H1.out.f y HY.out).mono ?_
  rintro e w2 ⟨rfl, hb⟩
  have H2 := Lib.hid (H1.out.below hb)
  clear H1 hb
  go_wp2_with fail
  refine (all_any p S w2 H2.out.q H2.out.tab n HN.out).mono ?_
  rintro e w3 ⟨Y, ky, rfl, hs, hb⟩
  have H3 := Lib.hid (H2.out.below hb)
  have HS3 := Lib.hid hs
  clear H2 hs hb
  go_wp2_with fail
  refine (rall_any r S w3 H3.out.f n HN.out).mono ?_
  rintro e w4 ⟨Z, kz, rfl, hs, hb⟩
  have H4 := Lib.hid (H3.out.below hb)
  have HS4 := Lib.hid (HS3.out.below hb)
  have HZ4 := Lib.hid hs
  clear H3 hs hb HS3
  go_wp2_with fail
  refine (same_true Y Z ky kz n S.all w4 HN.out HS4.out HZ4.out (by omega)).mono ?_
  rintro e w5 ⟨rfl, hb⟩
  have H5 := Lib.hid (H4.out.below hb)
  clear H4 hb HS4 HZ4
  go_wp2
  go_loopw [7, 8, 9, 10] (fun v _ _ _ wr => ∃ t : Nat, t ≤ 18 ∧ v = .int .i64 (t : Int) ∧ Bo w p r S wr) (fun v _ _ _ _ => 18 - (intOf v).toNat)
  case atStart => exact ⟨0, by decide, rfl, H5.out⟩
  case round =>
    obtain ⟨t, ht, rfl, hbo⟩ := hrel
    have H6 := Lib.hid hbo
    clear hbo H5
    by_cases hlt : t ≤ 17
    · have hti : (t : Int) ≤ 17 := by omega
      have HPR := Lib.hid (show S.P (t : Int) = S.P (t : Int) from rfl)
      have HLN := Lib.hid (HG.out.len t)
      by_cases hin : 1 ≤ t ∧ t ≤ 16
      · obtain ⟨h1, h2⟩ := hin
        have i1 : (1 : Int) ≤ (t : Int) := by omega
        have i2 : (t : Int) ≤ 16 := by omega
        have i3 : (t : Int) < 17 := by omega
        obtain ⟨V, kv, c1, hv⟩ := H6.out.f.row h2
        obtain ⟨m, hm⟩ : ∃ m, (S.R t).length = m := ⟨_, rfl⟩
        rw [hm] at c1
        have HM := Lib.hid hm
        have hm16 : m ≤ 16 := by rw [← hm]; exact HLN.out
        have HV := Lib.hid hv
        obtain ⟨x, hx⟩ : ∃ x, S.P (t : Int) = x := ⟨_, rfl⟩
        have HX := Lib.hid hx
        clear hm hv hx HPR
        go_wp2_with fail
        refine (row_any p S _ wr H6.out.q (S.R t) (by rw [Int.toNat_natCast]) m HM.out).mono ?_
        rintro e w7 ⟨A, ka, rfl, hs, hb⟩
        have H7 := Lib.hid (H6.out.below hb)
        have HV7 := Lib.hid (HV.out.below hb)
        have HA7 := Lib.hid hs
        clear H6 hs hb HV c1
        go_wp2_with fail
        refine (same_true A V ka kv m (S.R t) w7 HM.out HA7.out HV7.out (by omega)).mono ?_
        rintro e w8 ⟨rfl, hb⟩
        have H8 := Lib.hid (H7.out.below hb)
        clear H7 hb HV7 HA7
        go_wp2_with fail
        refine (pri_any p S _ w8 H8.out.q x HX.out).mono ?_
        rintro e w' ⟨rfl, rfl⟩
        go_wp2_with fail
        refine (rpri_any r S _ w8 H8.out.f x HX.out).mono ?_
        rintro e w' ⟨rfl, rfl⟩
        go_wp2_with fail
        refine (rpri_any r S _ w8 H8.out.f x HX.out).mono ?_
        rintro e w' ⟨rfl, rfl⟩
        by_cases hx0 : x = 0
        · have d1 : decide (0 < x) = false := by simp; omega
          have d2 : ((x : Int) != 0) = false := by simp; omega
          clear hx0
          go_wp2
          go_roundw
          case rel => exact ⟨t + 1, by omega, by go_num, H8.out⟩
          case measure => simp [intOf]; omega
        · have d1 : decide (0 < x) = true := by simp; omega
          have d2 : ((x : Int) != 0) = true := by simp; omega
          clear hx0
          go_wp2
          go_roundw
          case rel => exact ⟨t + 1, by omega, by go_num, H8.out⟩
          case measure => simp [intOf]; omega
      · have hnil : S.R t = [] := HG.out.out (by omega)
        have HNIL := Lib.hid hnil
        obtain ⟨x, hx⟩ : ∃ x, S.P (t : Int) = x := ⟨_, rfl⟩
        have hx0 : x = 0 := by
          rw [← hx]; apply Classical.byContradiction; intro h0
          have := HG.out.dom _ h0; omega
        subst hx0
        have HX := Lib.hid hx
        clear hnil hx HPR HLN
        have h2 : t = 0 ∨ t = 17 := by omega
        clear hin
        rcases h2 with e | e
        · have d0 : decide ((1 : Int) ≤ (t : Int)) = false := by simp; omega
          have d1 : decide (1 ≤ t) = false := by simp; omega
          have d2 : ¬ (1 ≤ t) := by omega
          clear e
          go_wp2_with fail
          refine (row_any p S _ wr H6.out.q [] (by rw [Int.toNat_natCast]; exact HNIL.out) 0 rfl).mono ?_
          rintro e w7 ⟨A, ka, rfl, hs, hb⟩
          have H7 := Lib.hid (H6.out.below hb)
          have HA7 := Lib.hid hs
          clear H6 hs hb
          go_wp2_with fail
          refine (same_true A none ka 0 0 [] w7 rfl HA7.out (Sl.nil _) (by omega)).mono ?_
          rintro e w8 ⟨rfl, hb⟩
          have H8 := Lib.hid (H7.out.below hb)
          clear H7 hb HA7
          go_wp2_with fail
          refine (pri_any p S _ w8 H8.out.q 0 HX.out).mono ?_
          rintro e w' ⟨rfl, rfl⟩
          go_wp2_with fail
          refine (rpri_any r S _ w8 H8.out.f 0 HX.out).mono ?_
          rintro e w' ⟨rfl, rfl⟩
          go_wp2_with fail
          refine (rpri_any r S _ w8 H8.out.f 0 HX.out).mono ?_
          rintro e w' ⟨rfl, rfl⟩
          go_wp2
          go_roundw
          case rel => exact ⟨t + 1, by omega, by go_num, H8.out⟩
          case measure => simp [intOf]; omega
        · have i1 : (1 : Int) ≤ (t : Int) := by omega
          have d0 : decide ((t : Int) ≤ 16) = false := by simp; omega
          have d1 : decide (t ≤ 16) = false := by simp; omega
          have d2 : ¬ (t ≤ 16) := by omega
          clear e
          go_wp2_with fail
          refine (row_any p S _ wr H6.out.q [] (by rw [Int.toNat_natCast]; exact HNIL.out) 0 rfl).mono ?_
          rintro e w7 ⟨A, ka, rfl, hs, hb⟩
          have H7 := Lib.hid (H6.out.below hb)
          have HA7 := Lib.hid hs
          clear H6 hs hb
          go_wp2_with fail
          refine (same_true A none ka 0 0 [] w7 rfl HA7.out (Sl.nil _) (by omega)).mono ?_
          rintro e w8 ⟨rfl, hb⟩
          have H8 := Lib.hid (H7.out.below hb)
          clear H7 hb HA7
          go_wp2_with fail
          refine (pri_any p S _ w8 H8.out.q 0 HX.out).mono ?_
          rintro e w' ⟨rfl, rfl⟩
          go_wp2_with fail
          refine (rpri_any r S _ w8 H8.out.f 0 HX.out).mono ?_
          rintro e w' ⟨rfl, rfl⟩
          go_wp2_with fail
          refine (rpri_any r S _ w8 H8.out.f 0 HX.out).mono ?_
          rintro e w' ⟨rfl, rfl⟩
          go_wp2
          go_roundw
          case rel => exact ⟨t + 1, by omega, by go_num, H8.out⟩
          case measure => simp [intOf]; omega
    · obtain rfl : t = 18 := by omega
      go_wp2
      go_ret
      exact ⟨rfl, H6.out.bel⟩
end Go.Proofs.YtfilggkdhcjpbaaDoor
