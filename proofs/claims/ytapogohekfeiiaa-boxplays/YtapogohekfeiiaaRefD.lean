/- detentlaw4's Row and Same: a queue and the document's queue tell the same. -/
import Derived.Test.YtapogohekfeiiaaRefC
namespace Go.Proofs.Ytapogohekfeiiaa
open Go.RowKit
set_option maxRecDepth 100000

theorem dd (w : World) (d e : Nat) : (w.drewN d).drewN e = w.drewN (d + e) := by
  simp [World.drewN, Nat.add_assoc]
theorem sl_form {w : World} {e : TypeId} {v : Value} {L : List It} (h : Sl w e v L) : ∃ (X : Option Addr) (k : Nat), v = .slice X L.length k ∧ L.length ≤ k ∧ k ≤ 9223372036854775807 := by
  rcases h with ⟨rfl, rfl⟩ | ⟨g, o, k, cs, h1, h2, h3, h4, h5⟩
  · exact ⟨none, 0, rfl, by simp, by omega⟩
  · exact ⟨_, k, h1, h2, h3⟩

set_option maxHeartbeats 1600000 in
theorem rows_same (va vb : Value) (L : List It) (w : World) (ha : Sl w 50 va L) (hb : Sl w 81 vb L) (hn : L.length ≤ 16) :
    Calls Try.prog 42 #[va, vb] w fun e w' => e = .returned (.bool true) ∧ ∃ n, w' = w.drewN n := by
  obtain ⟨X, k, rfl, hk1, hk2⟩ := sl_form ha
  obtain ⟨Y, j, rfl, hj1, hj2⟩ := sl_form hb
  obtain ⟨n, hnn⟩ : ∃ n, L.length = n := ⟨_, rfl⟩
  rw [hnn] at ha hb hk1 hj1 hn ⊢
  have HA := Lib.hid ha
  have HB := Lib.hid hb
  have HNN := Lib.hid hnn
  clear ha hb hnn
  go_enter Try.func42, Try.ntmps42
  go_wp2
  go_loopw [5] (fun i wr => ∃ t d : Nat, t ≤ n ∧ i = .int .i64 (t : Int) ∧ wr = w.drewN d) (fun i _ => n - (intOf i).toNat)
  case atStart => exact ⟨0, 0, Nat.zero_le _, rfl, rfl⟩
  case round =>
    obtain ⟨t, d, ht, rfl, hW⟩ := hrel
    have HW : Hid (∃ d, wr = w.drewN d) := ⟨d, hW⟩
    by_cases hlt : t < n
    · obtain ⟨x, hx⟩ : ∃ x, L[t]? = some x := ⟨_, List.getElem?_eq_getElem (by rw [HNN.out]; exact hlt)⟩
      obtain ⟨g, o, rfl, hc⟩ := sl_open HA.out (by rw [HNN.out]; omega)
      obtain ⟨g', o', rfl, hc'⟩ := sl_open HB.out (by rw [HNN.out]; omega)
      have a0 : wr.cell? ⟨g, o + t * 2, none⟩ = some (.int .i64 x.1) := by rw [hW]; exact (hc t x hx).1
      have a1 : wr.cell? ⟨g, o + t * 2 + 1, none⟩ = some (.int .i64 x.2) := by rw [hW]; exact (hc t x hx).2
      have b0 : wr.cell? ⟨g', o' + t * 2, none⟩ = some (.int .i64 x.1) := by rw [hW]; exact (hc' t x hx).1
      have b1 : wr.cell? ⟨g', o' + t * 2 + 1, none⟩ = some (.int .i64 x.2) := by rw [hW]; exact (hc' t x hx).2
      have it : (t : Int) < (n : Int) := by omega
      clear hc hc' hx hW
      go_wp2
      go_quiet (fail)
      go_wp2
      go_roundw
      case rel => obtain ⟨d9, e9⟩ := HW.out; exact ⟨t + 1, d9 + nq, by omega, by go_num, by rw [e9, dd]⟩
      case measure => simp [intOf]; omega
    · clear hW
      go_wp2
      go_ret
      exact ⟨rfl, HW.out⟩

/-- what stays while two queues are held against each other -/
theorem same_keep {w W W' : World} {p q n k : Nat} {X : Option Addr} {b : Bool} {L : List It} (h : Below W.heap.size W W')
    (hS : W.cell? ⟨q, 1, none⟩ = some (.slice X n k) ∧ Ln W p 55 b L ∧ Sl W 81 (.slice X n k) L ∧ Below w.heap.size w W) :
    W'.cell? ⟨q, 1, none⟩ = some (.slice X n k) ∧ Ln W' p 55 b L ∧ Sl W' 81 (.slice X n k) L ∧ Below w.heap.size w W' :=
  ⟨(h.cell (p := ⟨q, 1, none⟩) (block_lt_of_cell hS.1)).trans hS.1, hS.2.1.below h, hS.2.2.1.below h, hS.2.2.2.trans (h.mono hS.2.2.2.size)⟩

set_option maxHeartbeats 3200000 in
set_option maxRecDepth 100000 in
theorem same_all (p q : Nat) (b : Bool) (L : List It) (w : World) (hl : Ln w p 55 b L) (hr : Rq w q b L) (hn : L.length ≤ 16) :
    Calls Try.prog 23 #[.pointer (some ⟨p, 0, none⟩), .pointer (some ⟨q, 0, none⟩)] w fun e w' => e = .returned (.bool true) ∧ Below w.heap.size w w' := by
  obtain ⟨X, k, c0, c1, hs, hk1, hk2, hz⟩ := hr.open
  obtain ⟨n, hnn⟩ : ∃ n, L.length = n := ⟨_, rfl⟩
  have HNN := Lib.hid hnn
  rw [hnn] at c1 hs hk1 hn
  have HRQ := Lib.hid hr
  clear hr c0 hz
  go_enter Try.func23, Try.ntmps23
  go_wp2
  go_region_held3 (fun W => W.cell? ⟨q, 1, none⟩ = some (.slice X n k) ∧ Ln W p 55 b L ∧ Sl W 81 (.slice X n k) L ∧ Below w.heap.size w W)
    (first | exact ⟨c1, hl, hs, Below.refl _ _⟩ | exact ⟨c1, hl, hs, (Below.refl _ _).drew⟩ | exact same_keep hbk2 (by assumption) | exact same_keep hbk1 (by assumption) | assumption)
    (first
      | (go_at_call 43; refine (row_ok p 55 b L _ (And.left (And.right (by assumption))) (by rw [HNN.out]; exact hn)).mono ?_; rintro e w1 ⟨v, rfl, hv, hbk1⟩)
      | (go_at_call 42; refine (rows_same v (.slice X n k) L _ hv (And.left (And.right (And.right (by assumption)))) (by rw [HNN.out]; exact hn)).mono ?_; rintro e w2 ⟨rfl, nn, rfl⟩; have hbk2 := below_drewN w1 nn)
      | (go_at_call 24; refine (len_ok p 55 b L _ (And.left (And.right (by assumption)))).mono ?_; rintro e w3 ⟨rfl, rfl⟩))
  have hb3 : Below w.heap.size w (w1.drewN nn) := Below.trans (Below.trans (⟨rfl, rfl, rfl, Nat.le_refl _, fun _ _ => rfl⟩ : Below w.heap.size w w.drew) hbk1) (⟨rfl, rfl, rfl, Nat.le_refl _, fun _ _ => rfl⟩ : Below w.heap.size w1 (w1.drewN nn))
  have hl3 := hl.below hb3
  have hr3 := HRQ.out.below hb3
  have hs3 := hs.below hb3
  have c3 := (hb3.cell (p := ⟨q, 1, none⟩) HRQ.out.lt).trans c1
  generalize w1.drewN nn = w3 at *
  clear hl hs c1 HRQ
  cases L with
  | nil =>
    have hn0 : n = 0 := by rw [← hnn]; rfl
    go_wp2_with fail
    refine (first_none p 55 b w3 hl3).mono ?_
    rintro e w4 ⟨rfl, hk4⟩
    have hl4 := (hl3.below hk4).alloc (.cells #[.int .i64 0, .int .i64 0] 50)
    have hkk := below_trans hk4 ((Below.refl _ _).alloc (Nat.le_refl _) (.cells #[.int .i64 0, .int .i64 0] 50))
    have hr4 := hr3.below hkk
    have hb4 := hb3.trans (hkk.mono hb3.size)
    have c5 := (hkk.cell (p := ⟨q, 1, none⟩) (block_lt_of_cell c3)).trans c3
    have hx4 := box_new w4 50 (.int .i64 0) (.int .i64 0)
    go_wp2
    generalize w4.alloc (.cells #[.int .i64 0, .int .i64 0] 50) = w5 at *
    have x0 := hx4.c0
    have x1 := hx4.c1
    subst hn0
    clear hl3 hr3 hs3 c3 hb3 hk4 hkk hx4
    go_quiet (fail)
    have hl5 : Ln (w5.drewN nq) p 55 b ([] : List It) := hl4
    have hr5 : Rq (w5.drewN nq) q b ([] : List It) := hr4
    have hb5 : Below w.heap.size w (w5.drewN nq) := ⟨hb4.os, hb4.tape, hb4.output, hb4.size, hb4.block⟩
    generalize w5.drewN nq = w6 at *
    have HB5 := Lib.hid hb5
    clear hl4 hr4 hb4 c5 x0 x1
    go_wp2
    go_loopw [7] (fun i wr => ∃ t : Nat, t ≤ 18 ∧ i = .int .i64 (t : Int) ∧ Ln wr p 55 b ([] : List It) ∧ Rq wr q b ([] : List It) ∧ Below w.heap.size w wr) (fun i _ => 18 - (intOf i).toNat)
    case atStart => exact ⟨0, by omega, rfl, hl5, hr5, HB5.out⟩
    case round =>
      obtain ⟨t, ht, rfl, hl7, hr7, hb7⟩ := hrel
      have HB7 := Lib.hid hb7
      clear hl5 hr5 HB5 hb7
      by_cases hlt : t < 18
      · have it : (t : Int) ≤ 17 := by omega
        have it2 : t ≤ 17 := by omega
        by_cases hp : pos ([] : List It) (t : Int) < ([] : List It).length
        · exact absurd hp (by simp)
        · have HK := Lib.hid (rat_any q b ([] : List It) wr hr7 (by rw [HNN.out]; exact hn) (t : Int) (-1) (by rw [if_neg hp]))
          have HPR := Lib.hid (pri_none p 55 b ([] : List It) wr hl7 (by rw [HNN.out]; exact hn) (t : Int) hp)
          have HHS := Lib.hid (fun W hW => has_any p 55 b ([] : List It) W hW (by rw [HNN.out]; exact hn) (t : Int) false (by simp))
          clear hp
          go_wp2_with fail
          refine HK.out.mono ?_
          rintro e w8 ⟨rfl, rfl⟩
          go_wp2_with fail
          refine HPR.out.mono ?_
          rintro e w8 ⟨rfl, hk8⟩
          have hl8 := hl7.below hk8
          have hr8 := hr7.below hk8
          have hb8 := HB7.out.trans (hk8.mono HB7.out.size)
          clear hl7 hr7 HB7 hk8 HK HPR
          go_wp2_with fail
          refine (HHS.out w8 hl8).mono ?_
          rintro e w9 ⟨rfl, hk9⟩
          have hl9 := hl8.below hk9
          have hr9 := hr8.below hk9
          have HB9 := Lib.hid (hb8.trans (hk9.mono hb8.size))
          clear hl8 hr8 hb8 hk9 HHS
          go_wp2
          go_roundw
          case rel => exact ⟨t + 1, by omega, by go_num, hl9, hr9, HB9.out⟩
          case measure => simp [intOf]; omega
      · have it : decide ((t : Int) ≤ 17) = false := by simp; omega
        have it2 : decide (t ≤ 17) = false := by simp; omega
        go_wp2
        go_ret
        exact ⟨rfl, HB7.out⟩
  | cons x L =>
    have hn0 : 0 < n := by rw [← hnn]; simp
    have in0 : (0 : Int) < (n : Int) := by omega
    obtain ⟨g, o, rfl, hcl⟩ := sl_open hs3 (by simp)
    have d0 := (hcl 0 x rfl).1
    have d1 := (hcl 0 x rfl).2
    simp only [Nat.zero_mul, Nat.add_zero] at d0 d1
    go_wp2_with fail
    refine (first_some p 55 b x L w3 hl3).mono ?_
    rintro e w4 ⟨rfl, hk4⟩
    have hl4 := (hl3.below hk4).alloc (.cells #[.int .i64 x.1, .int .i64 x.2] 50)
    have hkk := below_trans hk4 ((Below.refl _ _).alloc (Nat.le_refl _) (.cells #[.int .i64 x.1, .int .i64 x.2] 50))
    have hr4 := hr3.below hkk
    have hb4 := hb3.trans (hkk.mono hb3.size)
    have c5 := (hkk.cell (p := ⟨q, 1, none⟩) (block_lt_of_cell c3)).trans c3
    have u0 := (hkk.cell (p := ⟨g, o, none⟩) (block_lt_of_cell d0)).trans d0
    have u1 := (hkk.cell (p := ⟨g, o + 1, none⟩) (block_lt_of_cell d1)).trans d1
    have hx4 := box_new w4 50 (.int .i64 x.1) (.int .i64 x.2)
    go_wp2
    generalize w4.alloc (.cells #[.int .i64 x.1, .int .i64 x.2] 50) = w5 at *
    have x0 := hx4.c0
    have x1 := hx4.c1
    clear hl3 hr3 hs3 c3 hb3 hk4 hkk hx4 d0 d1 hcl
    go_quiet (fail)
    have hl5 : Ln (w5.drewN nq) p 55 b (x :: L) := hl4
    have hr5 : Rq (w5.drewN nq) q b (x :: L) := hr4
    have hb5 : Below w.heap.size w (w5.drewN nq) := ⟨hb4.os, hb4.tape, hb4.output, hb4.size, hb4.block⟩
    generalize w5.drewN nq = w6 at *
    have HB5 := Lib.hid hb5
    clear hl4 hr4 hb4 c5 x0 x1 u0 u1
    go_wp2
    go_loopw [7] (fun i wr => ∃ t : Nat, t ≤ 18 ∧ i = .int .i64 (t : Int) ∧ Ln wr p 55 b (x :: L) ∧ Rq wr q b (x :: L) ∧ Below w.heap.size w wr) (fun i _ => 18 - (intOf i).toNat)
    case atStart => exact ⟨0, by omega, rfl, hl5, hr5, HB5.out⟩
    case round =>
      obtain ⟨t, ht, rfl, hl7, hr7, hb7⟩ := hrel
      have HB7 := Lib.hid hb7
      clear hl5 hr5 HB5 hb7
      by_cases hlt : t < 18
      · have it : (t : Int) ≤ 17 := by omega
        have it2 : t ≤ 17 := by omega
        by_cases hp : pos (x :: L) (t : Int) < (x :: L).length
        · obtain ⟨pr, hpr⟩ := pos_at hp
          have HK := Lib.hid (rat_any q b (x :: L) wr hr7 (by rw [HNN.out]; exact hn) (t : Int) (pos (x :: L) (t : Int) : Int) (by rw [if_pos hp]))
          have HPR := Lib.hid (pri_some p 55 b (x :: L) wr hl7 (by rw [HNN.out]; exact hn) (t : Int) pr hp hpr)
          have HHS := Lib.hid (fun W hW => has_any p 55 b (x :: L) W hW (by rw [HNN.out]; exact hn) (t : Int) true (by simpa using hp))
          rw [HNN.out] at hp
          obtain ⟨a, ha⟩ : ∃ a, pos (x :: L) (t : Int) = a := ⟨_, rfl⟩
          rw [ha] at HK hp hpr
          have HPP := Lib.hid hpr
          have ia : (a : Int) < (n : Int) := by omega
          clear hpr ha
          go_wp2_with fail
          refine HK.out.mono ?_
          rintro e w8 ⟨rfl, rfl⟩
          go_wp2_with fail
          refine HPR.out.mono ?_
          rintro e w8 ⟨rfl, hk8⟩
          have hl8 := hl7.below hk8
          have hr8 := hr7.below hk8
          have hb8 := HB7.out.trans (hk8.mono HB7.out.size)
          clear hl7 hr7 HB7 hk8 HK HPR
          go_wp2_with fail
          refine (HHS.out w8 hl8).mono ?_
          rintro e w9 ⟨rfl, hk9⟩
          have hl9 := hl8.below hk9
          have hr9 := hr8.below hk9
          have HB9 := Lib.hid (hb8.trans (hk9.mono hb8.size))
          clear hl8 hr8 hb8 hk9 HHS
          obtain ⟨X9, k9, _, c9, hs9, hk91, hk92, _⟩ := hr9.open
          rw [HNN.out] at c9 hk91
          obtain ⟨g9, o9, rfl, hcl9⟩ := sl_open hs9 (by rw [HNN.out]; omega)
          have e9 := (hcl9 a _ HPP.out).2
          clear hcl9 hs9 HPP
          go_wp2
          go_roundw
          case rel => exact ⟨t + 1, by omega, by go_num, hl9, hr9, HB9.out⟩
          case measure => simp [intOf]; omega
        · have HK := Lib.hid (rat_any q b (x :: L) wr hr7 (by rw [HNN.out]; exact hn) (t : Int) (-1) (by rw [if_neg hp]))
          have HPR := Lib.hid (pri_none p 55 b (x :: L) wr hl7 (by rw [HNN.out]; exact hn) (t : Int) hp)
          have HHS := Lib.hid (fun W hW => has_any p 55 b (x :: L) W hW (by rw [HNN.out]; exact hn) (t : Int) false (by simpa using hp))
          clear hp
          go_wp2_with fail
          refine HK.out.mono ?_
          rintro e w8 ⟨rfl, rfl⟩
          go_wp2_with fail
          refine HPR.out.mono ?_
          rintro e w8 ⟨rfl, hk8⟩
          have hl8 := hl7.below hk8
          have hr8 := hr7.below hk8
          have hb8 := HB7.out.trans (hk8.mono HB7.out.size)
          clear hl7 hr7 HB7 hk8 HK HPR
          go_wp2_with fail
          refine (HHS.out w8 hl8).mono ?_
          rintro e w9 ⟨rfl, hk9⟩
          have hl9 := hl8.below hk9
          have hr9 := hr8.below hk9
          have HB9 := Lib.hid (hb8.trans (hk9.mono hb8.size))
          clear hl8 hr8 hb8 hk9 HHS
          go_wp2
          go_roundw
          case rel => exact ⟨t + 1, by omega, by go_num, hl9, hr9, HB9.out⟩
          case measure => simp [intOf]; omega
      · have it : decide ((t : Int) ≤ 17) = false := by simp; omega
        have it2 : decide (t ≤ 17) = false := by simp; omega
        go_wp2
        go_ret
        exact ⟨rfl, HB7.out⟩
end Go.Proofs.Ytapogohekfeiiaa
