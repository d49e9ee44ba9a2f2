/- Contracts of package clock: After, Tick. -/
import Derived.Test.YtpnhpgdidineaaaCkA
import Derived.Deep.RegionHeld3
namespace Go.Proofs.Ytpnhpgdidineaaa
open Go.RowKit

set_option maxHeartbeats 800000 in
theorem after_no (w : World) (c : Nat) (d arg : Int) (hd : d < 0 ∨ 2147483647 < d) :
    Calls Try.prog 13 #[.pointer (some ⟨c, 0, none⟩), .int .i64 d, .int .i64 arg] w fun e w' => e = .returned (.tuple #[.int .i64 0, .int .i64 (-17)]) ∧ w = w' := by
  have HR := Lib.hid (rel_any d w 0 (-17) (rl_no hd).2 (rl_no hd).1)
  clear hd
  go_enter Try.func13, Try.ntmps13
  go_wp2_with fail
  refine HR.out.mono ?_
  rintro e w1 ⟨rfl, rfl⟩
  go_wp2
  go_ret2
  exact ⟨rfl, rfl⟩

theorem keep3 {w w' : World} {B c p g : Nat} {tic up now : Int} {S : List En} {last : Int} (h : Ck w B c p g tic up now S last) (ho : Only p g w.drew w') :
    w'.cell? ⟨c, 0, none⟩ = some (.pointer (some ⟨p, 0, none⟩)) ∧ w'.cell? ⟨c, 1, none⟩ = some (.int .u64 tic) ∧ w'.cell? ⟨c, 2, none⟩ = some (.int .u64 up) := by
  obtain ⟨n1, n2⟩ := h.tm.nc h.cell
  have e : w'.heap[c]? = w.heap[c]? := ho.block c h.lt (Ne.symm n1) (Ne.symm n2)
  obtain ⟨c0, c1, c2, _⟩ := h.cells
  exact ⟨(World.cell?_of_block (a := ⟨c, 0, none⟩) e).trans c0, (World.cell?_of_block (a := ⟨c, 1, none⟩) e).trans c1, (World.cell?_of_block (a := ⟨c, 2, none⟩) e).trans c2⟩

set_option maxHeartbeats 1600000 in
theorem after_ok (w : World) (B c p g : Nat) (tic up now : Int) (S : List En) (last : Int) (h : Ck w B c p g tic up now S last) (d arg : Int) (h0 : 0 ≤ d) (h1 : d ≤ 2147483647)
    (hu : up ≤ 4611686018427387904) (hl : S.length < 256) (hla : last < 4611686018427387904) (a l1 : Int) (ha : up + d + tic = a) (hl1 : last + 1 = l1) :
    Calls Try.prog 13 #[.pointer (some ⟨c, 0, none⟩), .int .i64 d, .int .i64 arg] w fun e w' => e = .returned (.tuple #[.int .i64 l1, .int .i64 0]) ∧ (∃ g', Ck w' B c p g' tic up now (ins (a, l1, arg) S) l1 ∧ (g' = g ∨ w.heap.size ≤ g')) ∧ On3 c p g w w' := by
  subst hl1
  have bt := h.bt
  have bu := h.bu
  obtain ⟨c0, c1, c2, c3⟩ := h.cells
  have e1 : IntKind.u64.wrap (up + d) = up + d := by rw [IntKind.wrap_u64]; omega
  have e2 : IntKind.u64.wrap (up + d + tic) = a := by rw [IntKind.wrap_u64]; omega
  have HR := Lib.hid (rel_any d w d 0 (rl_ok h0 h1).2 (rl_ok h0 h1).1)
  have HE := Lib.hid (ensure_any w B c p g tic up now S last h)
  have HI := Lib.hid (insert_only w.drew B p g S last h.tm.drew hl hla a arg)
  have HK := Lib.hid h
  clear h h0 h1 bt bu hu hl hla ha
  go_enter Try.func13, Try.ntmps13
  go_wp2_with fail
  refine HR.out.mono ?_
  rintro e w1 ⟨rfl, rfl⟩
  go_wp2_with fail
  refine HE.out.mono ?_
  rintro e w1 ⟨rfl, rfl⟩
  go_wp2
  go_region_held3 (fun W => W.cell? ⟨c, 0, none⟩ = some (.pointer (some ⟨p, 0, none⟩)) ∧ W.cell? ⟨c, 1, none⟩ = some (.int .u64 tic) ∧ W.cell? ⟨c, 2, none⟩ = some (.int .u64 up))
    (first | exact ⟨c0, c1, c2⟩ | exact k2.out | assumption)
    (first | (go_at_call 30; refine HI.out.mono ?_; rintro e w2 ⟨rfl, ⟨g2, ht2, hg2⟩, ho2⟩; have k2 := Lib.hid (keep3 HK.out ho2)))
  go_wp2
  go_ret2
  obtain ⟨n1, n2⟩ := HK.out.tm.nc HK.out.cell
  refine ⟨rfl, ⟨g2, ⟨HK.out.hc, (ho2.block c HK.out.lt (Ne.symm n1) (Ne.symm n2)).trans HK.out.cell, ht2, HK.out.bt, HK.out.bu, HK.out.bn⟩, hg2⟩, ?_⟩
  exact On3.of_only (w := w) ⟨ho2.os, ho2.tape, ho2.output, ho2.size, ho2.block⟩

set_option maxHeartbeats 1600000 in
theorem after_full (w : World) (B c p g : Nat) (tic up now : Int) (S : List En) (last : Int) (h : Ck w B c p g tic up now S last) (d arg : Int) (h0 : 0 ≤ d) (h1 : d ≤ 2147483647)
    (hl : S.length = 256) :
    Calls Try.prog 13 #[.pointer (some ⟨c, 0, none⟩), .int .i64 d, .int .i64 arg] w fun e w' => e = .returned (.tuple #[.int .i64 0, .int .i64 (-33)]) ∧ Below w.heap.size w w' := by
  obtain ⟨c0, c1, c2, c3⟩ := h.cells
  have HR := Lib.hid (rel_any d w d 0 (rl_ok h0 h1).2 (rl_ok h0 h1).1)
  have HE := Lib.hid (ensure_any w B c p g tic up now S last h)
  have HI := Lib.hid (fun a => insert_full w.drew B p g S last h.tm.drew hl a arg)
  clear h h0 h1 hl
  go_enter Try.func13, Try.ntmps13
  go_wp2_with fail
  refine HR.out.mono ?_
  rintro e w1 ⟨rfl, rfl⟩
  go_wp2_with fail
  refine HE.out.mono ?_
  rintro e w1 ⟨rfl, rfl⟩
  go_wp2
  go_region_held3 (fun W => W.cell? ⟨c, 0, none⟩ = some (.pointer (some ⟨p, 0, none⟩)) ∧ W.cell? ⟨c, 1, none⟩ = some (.int .u64 tic) ∧ W.cell? ⟨c, 2, none⟩ = some (.int .u64 up))
    (first | exact ⟨c0, c1, c2⟩ | assumption)
    (first | (go_at_call 30; refine (HI.out _).mono ?_; rintro e w2 ⟨rfl, rfl⟩))
  go_wp2
  go_ret2
  exact ⟨rfl, (Below.refl _ _).drew⟩
end Go.Proofs.Ytpnhpgdidineaaa
