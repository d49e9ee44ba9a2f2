/- The law's own comparison (detentlaw3.same): lists and the document's rows tell the same. -/
import Derived.Test.YtmfjhckacmdijaaRefE
namespace Go.Proofs.Ytmfjhckacmdijaa
open Go.RowKit

theorem bl_drewN {B : Nat} {a w : World} (h : Below B a w) (n : Nat) : Below B a (w.drewN n) := ⟨h.os, h.tape, h.output, h.size, h.block⟩

def ZRel (H : Nat) (w : World) (i : Value) (wr : World) : Prop :=
  ∃ z : Int, -1 ≤ z ∧ z ≤ (H : Int) + 1 ∧ i = .int .i64 z ∧ Below w.heap.size w wr

theorem same_nil (w : World) (ka kb : Nat) : Calls Try.prog 23 #[.slice none 0 ka, .slice none 0 kb] w fun e w' => e = .returned (.bool true) ∧ ∃ n, w' = w.drewN n :=
  same_true 0 0 none none ka kb [] w (fun h => by simp at h) (fun h => by simp at h) (by simp)

set_option maxHeartbeats 3200000 in
set_option maxRecDepth 100000 in
theorem same_all (p m q r N H : Nat) (R : Nat → List Nat) (w : World) (hl : Lst w p m N H R) (hr : Rf w q r m N H R) (hN : N ≤ 1024) (hH : H ≤ 64) :
    Calls Try.prog 20 #[.pointer (some ⟨p, 0, none⟩), .pointer (some ⟨q, 0, none⟩)] w fun e w' => e = .returned (.bool true) ∧ Below w.heap.size w w' := by
  have hwf := hl.wf
  go_enter Try.func20, Try.ntmps20
  go_wp2
  go_loopw [5] (fun i wr => ZRel H w i wr) (fun i _ => ((H : Int) + 1 - intOf i).toNat)
  case atStart => exact ⟨-1, by omega, by omega, rfl, Below.refl _ _⟩
  case round =>
    obtain ⟨z, hz0, hz1, rfl, hb⟩ := hrel
    have hl1 := hl.below hb hl.ltp hl.ltm
    have hr1 := hr.below hb
    obtain ⟨k, h0, h1, hk1, hk2⟩ := hr1.cells
    have HB := Lib.hid hb
    clear hb
    by_cases hlt : z ≤ H
    · by_cases hin : 0 ≤ z ∧ z < H
      · obtain ⟨h, rfl⟩ : ∃ h : Nat, z = h := ⟨z.toNat, by omega⟩
        have hh : h < H := by omega
        have HK0 := Lib.hid (rhead_any q r m N H h R wr hr1 true (by simp; omega))
        obtain ⟨v, hv, hs⟩ := hr1.row hh
        have hlen := hwf.len h hh
        have ih : (h : Int) < (H : Int) := by omega
        clear hin
        go_wp2_with fail
        refine HK0.out.mono ?_
        rintro e w2 ⟨rfl, rfl⟩
        have HK1 := Lib.hid (first_row p m N H h R wr hl1 hN hH hh)
        clear HK0
        go_wp2_with fail
        refine HK1.out.mono ?_
        rintro e w2 ⟨rfl, n2, rfl⟩
        have hl2 := hl1.drewN n2
        have hs2 : Sl (wr.drewN n2) m r v (R h) := hs
        have HB2 := Lib.hid (bl_drewN HB.out n2)
        generalize wr.drewN n2 = w2 at *
        clear HK1 hl1 hr1 h0 h1 hv HB hs
        have HK2 := Lib.hid (row_row p m N H h R w2 hl2 hN hH hh)
        go_wp2_with fail
        refine HK2.out.mono ?_
        rintro e w3 ⟨A, ka, rfl, ha1, ha2, hnd, hb3⟩
        have hl3 := hl2.below hb3 hl2.ltp hl2.ltm
        have hs3 := hs2.below hb3
        have HB3 := Lib.hid (HB2.out.trans (hb3.mono HB2.out.size))
        clear HK2 hl2 hs2 hb3 HB2
        have hs4 := hs3
        obtain ⟨B, kb, rfl, hb1, hb2, hnd2⟩ := hs3.nd
        have HK3 := Lib.hid (same_true m m A B ka kb (ints (R h)) w3 hnd hnd2 (by rw [ints_len]; omega))
        rw [ints_len] at HK3
        go_wp2_with fail
        refine HK3.out.mono ?_
        rintro e w4 ⟨rfl, n4, rfl⟩
        have hl4 := hl3.drewN n4
        have hs5 : Sl (w3.drewN n4) m r (.slice B (R h).length kb) (R h) := hs4
        have HB4 := Lib.hid (bl_drewN HB3.out n4)
        generalize w3.drewN n4 = w4 at *
        clear HK3 hl3 hs3 hs4 HB3 hnd hnd2
        have HK4 := Lib.hid (len_row p m N H h R w4 hl4 hN hH hh)
        go_wp2_with fail
        refine HK4.out.mono ?_
        rintro e w5 ⟨rfl, n5, rfl⟩
        have hs6 : Sl (w4.drewN n5) m r (.slice B (R h).length kb) (R h) := hs5
        have HB5 := Lib.hid (bl_drewN HB4.out n5)
        generalize w4.drewN n5 = w5 at *
        clear HK4 hl4 hs5 HB4
        cases hRh : R h with
        | nil =>
          rw [hdv_nil, nev_nil]
          rw [hRh] at hs6
          simp only [List.length_nil] at *
          go_wp2
          go_roundw
          case rel => exact ⟨(h : Int) + 1, by omega, by omega, rfl, HB5.out⟩
          case measure => simp [intOf]; omega
        | cons x l =>
          rw [hdv_cons, nev_cons]
          rw [hRh] at hs6
          rcases hs6 with ⟨_, e⟩ | ⟨b, o, c, e1, _, _, _, _, _, hc⟩
          · cases e
          injection e1 with e1 e2 e3
          subst e1
          have hc0 := hc 0 x rfl
          rw [Nat.add_zero] at hc0
          have hl0 : (0 : Int) < ((x :: l).length : Int) := by simp
          generalize (x :: l).length = ln at *
          clear hc e2 e3 hRh
          go_wp2
          go_roundw
          case rel => exact ⟨(h : Int) + 1, by omega, by omega, rfl, HB5.out⟩
          case measure => simp [intOf]; omega
      · have HK0 := Lib.hid (rhead_any q r m N H z R wr hr1 false (by simpa using hin))
        have HIN := Lib.hid hin
        clear hin
        go_wp2_with fail
        refine HK0.out.mono ?_
        rintro e w2 ⟨rfl, rfl⟩
        have HK1 := Lib.hid (first_no p m N H z R wr hl1 hN hH HIN.out)
        clear HK0
        go_wp2_with fail
        refine HK1.out.mono ?_
        rintro e w2 ⟨rfl, n2, rfl⟩
        have hl2 := hl1.drewN n2
        have HB2 := Lib.hid (bl_drewN HB.out n2)
        generalize wr.drewN n2 = w2 at *
        clear HK1 hl1 hr1 h0 h1 HB
        have HK2 := Lib.hid (row_no p m N H z R w2 hl2 hN hH HIN.out)
        go_wp2_with fail
        refine HK2.out.mono ?_
        rintro e w3 ⟨A, ka, rfl, ha1, ha2, hnd, hb3⟩
        have hl3 := hl2.below hb3 hl2.ltp hl2.ltm
        have HB3 := Lib.hid (HB2.out.trans (hb3.mono HB2.out.size))
        clear HK2 hl2 hb3 HB2
        have HK3 := Lib.hid (same_true m m A none ka 0 (ints []) w3 hnd (fun h => by simp [ints] at h) (by simp [ints]))
        rw [ints_len] at HK3
        simp only [List.length_nil] at *
        go_wp2_with fail
        refine HK3.out.mono ?_
        rintro e w4 ⟨rfl, n4, rfl⟩
        have hl4 := hl3.drewN n4
        have HB4 := Lib.hid (bl_drewN HB3.out n4)
        generalize w3.drewN n4 = w4 at *
        clear HK3 hl3 HB3 hnd
        have HK4 := Lib.hid (len_no p m N H z R w4 hl4 hN hH HIN.out)
        go_wp2_with fail
        refine HK4.out.mono ?_
        rintro e w5 ⟨rfl, n5, rfl⟩
        have HB5 := Lib.hid (bl_drewN HB4.out n5)
        generalize w4.drewN n5 = w5 at *
        clear HK4 hl4 HB4
        go_wp2
        go_roundw
        case rel => exact ⟨z + 1, by omega, by omega, rfl, HB5.out⟩
        case measure => simp [intOf]; omega
    · have t1 : decide (z ≤ (H : Int)) = false := by simpa using hlt
      clear hlt
      go_wp2
      go_loop [9] (fun i => ∃ n : Int, -1 ≤ n ∧ n ≤ (N : Int) + 1 ∧ i = .int .i64 n) (fun i => ((N : Int) + 1 - intOf i).toNat)
      case atStart => exact ⟨-1, by omega, by omega, rfl⟩
      case round =>
        obtain ⟨n, hn0, hn1, rfl⟩ := hrel
        by_cases hlt : n ≤ N
        · by_cases hin : (0 ≤ n ∧ n < N) ∧ Inn H R n.toNat
          · obtain ⟨hin1, hin2⟩ := hin
            obtain ⟨x, rfl⟩ : ∃ x : Nat, n = x := ⟨n.toNat, by omega⟩
            simp only [Int.toNat_natCast] at hin2
            obtain ⟨h, L1, L2, hh, hR⟩ := inn_part hin2
            have HK0 := Lib.hid (rof_any q r m N H x R wr hr1 hH (fun k hk => by have := hwf.len k hk; omega) _ _ (ofAt_mem hwf hh hR))
            have HK1 := Lib.hid (of_row p m N H h x R wr hl1 hh (by rw [hR]; simp))
            have HK2 := Lib.hid (next_row p m N H h x R wr hl1 hh L1 L2 hR)
            obtain ⟨v, hv, hs⟩ := hr1.row hh
            have hlen := hwf.len h hh
            rw [hR] at hs hlen
            have ih : (h : Int) < (H : Int) := by omega
            have ih0 : (0 : Int) ≤ (h : Int) := by omega
            rcases hs with ⟨_, e⟩ | ⟨b, o, c, rfl, hc1, hc2, _, _, _, hc⟩
            · simp at e
            cases L2 with
            | nil =>
              rw [hdv_nil, nev_nil] at HK2
              rw [List.length_append] at hv hc1 hlen
              simp only [List.length_cons, List.length_nil, Nat.zero_add] at hv hc1 hlen
              generalize hn1 : L1.length = n1 at HK0 hv hc1 hlen
              clear hin1 hin2 hR hc hn1
              go_wp2_with fail
              refine HK0.out.mono ?_
              rintro e w2 ⟨rfl, rfl⟩
              go_wp2_with fail
              refine HK1.out.mono ?_
              rintro e w2 ⟨rfl, rfl⟩
              go_wp2_with fail
              refine HK2.out.mono ?_
              rintro e w2 ⟨rfl, rfl⟩
              clear HK0 HK1 HK2
              go_wp2
              go_round
              case rel => exact ⟨(x : Int) + 1, by omega, by omega, rfl⟩
              case measure => simp [intOf]; omega
            | cons y l =>
              rw [hdv_cons, nev_cons] at HK2
              have hcy := hc (L1.length + 1) y (by rw [List.getElem?_append_right (by omega)]; simp)
              rw [List.length_append] at hv hc1 hlen
              simp only [List.length_cons] at hv hc1 hlen
              generalize hn1 : L1.length = n1 at HK0 hv hc1 hlen hcy
              generalize hn2 : n1 + (l.length + 1 + 1) = n2 at hv hc1 hlen
              have i1 : (n1 : Int) + 1 < (n2 : Int) := by omega
              have i2 : n1 + 1 < n2 := by omega
              clear hin1 hin2 hR hc hn1 hn2
              go_wp2_with fail
              refine HK0.out.mono ?_
              rintro e w2 ⟨rfl, rfl⟩
              go_wp2_with fail
              refine HK1.out.mono ?_
              rintro e w2 ⟨rfl, rfl⟩
              go_wp2_with fail
              refine HK2.out.mono ?_
              rintro e w2 ⟨rfl, rfl⟩
              clear HK0 HK1 HK2
              go_wp2
              go_round
              case rel => exact ⟨(x : Int) + 1, by omega, by omega, rfl⟩
              case measure => simp [intOf]; omega
          · have HK0 : Hid (OfAt H R n (-1) (-1)) := by
              by_cases h1 : 0 ≤ n ∧ n < N
              · obtain ⟨x, rfl⟩ : ∃ x : Nat, n = x := ⟨n.toNat, by omega⟩
                exact ofAt_no (fun h => hin ⟨h1, by simpa using h⟩)
              · exact ofAt_neg hwf h1
            have HK1 := Lib.hid (rof_any q r m N H n R wr hr1 hH (fun k hk => by have := hwf.len k hk; omega) _ _ HK0.out)
            have HK2 := Lib.hid (of_no p m N H n R wr hl1 hin)
            have HK3 := Lib.hid (next_no p m N H n R wr hl1 hin)
            clear hin HK0
            go_wp2_with fail
            refine HK1.out.mono ?_
            rintro e w2 ⟨rfl, rfl⟩
            go_wp2_with fail
            refine HK2.out.mono ?_
            rintro e w2 ⟨rfl, rfl⟩
            go_wp2_with fail
            refine HK3.out.mono ?_
            rintro e w2 ⟨rfl, rfl⟩
            go_wp2
            go_round
            case rel => exact ⟨n + 1, by omega, by omega, rfl⟩
            case measure => simp [intOf]; omega
        · have t1 : decide (n ≤ (N : Int)) = false := by simpa using hlt
          clear hlt
          go_wp2
          go_ret
          exact ⟨rfl, HB.out⟩
end Go.Proofs.Ytmfjhckacmdijaa
