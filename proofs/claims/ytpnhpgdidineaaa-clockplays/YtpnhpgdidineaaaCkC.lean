/- Contracts of package clock: Tick, Apart. -/
import Derived.Test.YtpnhpgdidineaaaCkB
namespace Go.Proofs.Ytpnhpgdidineaaa
open Go.RowKit

theorem csym {P : Program} {f : FuncId} {args : Array Value} {w : World} {v : Value} (h : Calls P f args w fun e w' => e = .returned v ∧ w = w') : Calls P f args w fun e w' => e = .returned v ∧ w' = w := h.mono fun _ _ ⟨h1, h2⟩ => ⟨h1, h2.symm⟩

theorem On3.dset {c p g : Nat} (w : World) (i : Nat) (u : Value) : On3 c p g w (w.drew.setCell ⟨c, i, none⟩ u) :=
  (On3.of_below (Below.refl _ _).drew).trans (On3.of_set w.drew i u)

set_option maxHeartbeats 1600000 in
theorem tick_any (w : World) (B c p g : Nat) (tic up now : Int) (S : List En) (last : Int) (h : Ck w B c p g tic up now S last)
    (hu : up ≤ 4611686018427387904) (u1 n1 : Int) (hu1 : up + tic = u1) (hn1 : (now + tic) % 281474976710656 = n1) (n : Nat) (D S1 : List En) (hD : due S u1 = D) (hn : D.length = n) (hS1 : rst S u1 = S1) :
    Calls Try.prog 16 #[.pointer (some ⟨c, 0, none⟩)] w fun e w' => ∃ X k, e = .returned (.slice X n k) ∧ w'.ownsRow w.heap.size 3 1 (.slice X n k) n (vals ci (args D)) ∧ Ck w' B c p g tic u1 n1 S1 last ∧ On3 c p g w w' := by
  subst hD hS1
  have bt := h.bt
  have bu := h.bu
  obtain ⟨c0, c1, c2, c3⟩ := h.cells
  have z2 := h.frozen 2
  have e1 : IntKind.u64.wrap (up + tic) = u1 := by rw [IntKind.wrap_u64]; omega
  have hu1' : 0 ≤ u1 := by omega
  have hn1' : 0 ≤ n1 ∧ n1 < 281474976710656 := by omega
  have HE := Lib.hid (ensure_any w B c p g tic up now S last h)
  have HN := Lib.hid (nadd_any now tic n1 hn1)
  have HK2 := Lib.hid (h.drew.set_up hu1')
  have HO2 : Hid (On3 c p g w (w.drew.setCell ⟨c, 2, none⟩ (.int .u64 u1))) := Lib.hid (On3.dset w 2 (.int .u64 u1))
  have HNN := Lib.hid hn
  have HN1 := Lib.hid hn1'
  obtain ⟨w2, hW2⟩ : ∃ w2, w.drew.setCell ⟨c, 2, none⟩ (.int .u64 u1) = w2 := ⟨_, rfl⟩
  rw [hW2] at HK2 HO2
  have HK3 := Lib.hid (HK2.out.drew.set_now hn1')
  have HO3 : Hid (On3 c p g w2 (w2.drew.setCell ⟨c, 3, none⟩ (.int .u64 n1))) := Lib.hid (On3.dset w2 3 (.int .u64 n1))
  obtain ⟨w3, hW3⟩ : ∃ w3, w2.drew.setCell ⟨c, 3, none⟩ (.int .u64 n1) = w3 := ⟨_, rfl⟩
  rw [hW3] at HK3 HO3
  have HD := Lib.hid (due_any w3.drew B p g S last HK3.out.tm.drew u1 n HNN.out)
  obtain ⟨d0, d1, d2, d3⟩ := HK2.out.cells
  have y3 : w2.drew.frozen? ⟨c, 3, none⟩ = false := HK2.out.frozen 3
  have y2 : w.drew.frozen? ⟨c, 2, none⟩ = false := z2
  have d3' : w2.drew.cell? ⟨c, 3, none⟩ = some (.int .u64 now) := d3
  have c2' : w.drew.cell? ⟨c, 2, none⟩ = some (.int .u64 up) := c2
  obtain ⟨f0, f1, f2, f3⟩ := HK3.out.cells
  clear h bt bu hu hu1 hn1 hn1' hu1' hn z2
  go_enter Try.func16, Try.ntmps16
  go_wp2_with fail
  refine HE.out.mono ?_
  rintro e w1 ⟨rfl, rfl⟩
  go_wp2
  go_still_tail 11, (by kernel_rfl)
  change wpList _ _ _ _ _ w.drew
  go_wp2
  go_still_tail 12, (by kernel_rfl)
  still_call (csym (HN.out _))
  repeat still_step
  refine wpStill_nil ?_
  change wpList _ _ _ _ _ w2.drew
  go_wp2
  go_still_tail 8, (by kernel_rfl)
  change wpList _ _ _ _ _ w3.drew
  go_wp2_with fail
  refine HD.out.mono ?_
  rintro e w4 ⟨X, k, rfl, hown, ht4, ho4⟩
  go_wp2
  go_ret
  obtain ⟨m1, m2⟩ := HK3.out.tm.nc HK3.out.cell
  have ho4' : On3 c p g w3 w4 := On3.of_only (w := w3) ⟨ho4.os, ho4.tape, ho4.output, ho4.size, ho4.block⟩
  have hall := (HO2.out.trans HO3.out).trans ho4'
  refine ⟨X, k, rfl, own_base hown ?_, ⟨HK3.out.hc, (ho4.block c HK3.out.lt (Ne.symm m1) (Ne.symm m2)).trans HK3.out.cell, ht4, HK3.out.bt, HK3.out.bu, HK3.out.bn⟩, hall⟩
  exact (HO2.out.trans HO3.out).size

set_option maxHeartbeats 1600000 in
theorem apart_any (w : World) (B c p g : Nat) (tic up now : Int) (S : List En) (last : Int) (h : Ck w B c p g tic up now S last) :
    Calls Try.prog 20 #[.pointer (some ⟨c, 0, none⟩)] w fun e w' => ∃ c' p' g', e = .returned (.pointer (some ⟨c', 0, none⟩)) ∧ Ck w' w.heap.size c' p' g' tic up now S last ∧ Below w.heap.size w w' := by
  obtain ⟨c0, c1, c2, c3⟩ := h.cells
  have HE := Lib.hid (ensure_any w B c p g tic up now S last h)
  have hba : Below w.heap.size w (w.alloc (.cells #[.pointer (some ⟨p, 0, none⟩), .int .u64 tic, .int .u64 up, .int .u64 now] 45)) := (Below.refl _ _).alloc (Nat.le_refl _) _
  have hna := heap_alloc_new w (.cells #[.pointer (some ⟨p, 0, none⟩), .int .u64 tic, .int .u64 up, .int .u64 now] 45)
  obtain ⟨wa, hWA⟩ : ∃ wa, w.alloc (.cells #[.pointer (some ⟨p, 0, none⟩), .int .u64 tic, .int .u64 up, .int .u64 now] 45) = wa := ⟨_, rfl⟩
  rw [hWA] at hba hna
  obtain ⟨d0, _, _, _⟩ := (h.below hba).cells
  have HT := Lib.hid (twin_any wa B p g S last (h.below hba).tm)
  have HK := Lib.hid h
  have HBA := Lib.hid hba
  have HNA := Lib.hid hna
  clear h hba hna
  go_enter Try.func20, Try.ntmps20
  go_wp2_with fail
  refine HE.out.mono ?_
  rintro e w1 ⟨rfl, rfl⟩
  go_wp2_with fail
  refine HT.out.mono ?_
  rintro e w2 ⟨p2, g2, rfl, ht2, hb2⟩
  have hlt : w.heap.size < wa.heap.size := lt_of_heap HNA.out
  have hn2 := (hb2.block w.heap.size hlt).trans HNA.out
  have q0 : w2.cell? ⟨w.heap.size, 0, none⟩ = some (.pointer (some ⟨p, 0, none⟩)) := by rw [cell_of_row _ _ _ _ _ _ hn2]; rfl
  have z0 : w2.frozen? ⟨w.heap.size, 0, none⟩ = false := frozen_of_row w2 _ 0 _ 45 hn2
  have HN2 := Lib.hid hn2
  have HT2 := Lib.hid ht2
  have HB2 := Lib.hid hb2
  clear hn2 ht2 hb2 c0 c1 c2 c3 d0 hWA
  go_wp2
  go_ret
  have hl := HBA.out.size
  have hp2 := HT2.out.hp
  have hg2 := HT2.out.hg
  refine ⟨w.heap.size, p2, g2, rfl, ⟨Nat.le_refl _, heap_setCell_same w2 _ 0 _ 45 (.pointer (some ⟨p2, 0, none⟩)) HN2.out, ?_, HK.out.bt, HK.out.bu, HK.out.bn⟩, ?_⟩
  · exact (HT2.out.keep (Below.heap_setCell w2 _ _ _ (by show p2 ≠ w.heap.size; omega)) (Below.heap_setCell w2 _ _ _ (by show g2 ≠ w.heap.size; omega))).base hl
  · exact (below_trans HBA.out HB2.out).setCell (Nat.le_refl _) _
end Go.Proofs.Ytpnhpgdidineaaa
