/- What the law holds of both timers: Same. -/
import Derived.Test.YtpnhpgdidineaaaRefD
namespace Go.Proofs.Ytpnhpgdidineaaa
open Go.RowKit

set_option maxRecDepth 100000 in
set_option maxHeartbeats 3200000 in
theorem same_any (w : World) (B p g q : Nat) (S : List En) (last : Nat) (h : Tm w B p g S (last : Int)) (hr : Rf w q S (last : Int)) (hl : last ≤ 100) (now : Int) :
    Calls Try.prog 24 #[.pointer (some ⟨p, 0, none⟩), .pointer (some ⟨q, 0, none⟩), .int .u64 now] w fun e w' => e = .returned (.bool true) ∧ Below w.heap.size w w' := by
  obtain ⟨r, ok, hn1, hn2⟩ := next_both w B p g q S (last : Int) h hr
  obtain ⟨L, X, k, _, _, _, hh, _⟩ := hr.open
  obtain ⟨n, hn⟩ : ∃ n, S.length = n := ⟨_, rfl⟩
  rw [hn] at hh
  have HN1 := Lib.hid hn1
  have HN2 := Lib.hid hn2
  have HT := Lib.hid h
  have HR := Lib.hid hr
  have HHH := Lib.hid hh
  have HNN := Lib.hid hn
  clear hn1 hn2 h hr hh hn
  go_enter Try.func24, Try.ntmps24
  go_wp2_with fail
  refine HN1.out.mono ?_
  rintro e w1 ⟨rfl, rfl⟩
  go_wp2_with fail
  refine HN2.out.mono ?_
  rintro e w1 ⟨rfl, d1, hd1⟩
  have HT1 : Hid (Tm w1 B p g S (last : Int)) := by rw [hd1]; exact HT.out.drewN d1
  have HR1 : Hid (Rf w1 q S (last : Int)) := by rw [hd1]; exact HR.out.drewN d1
  have hh1 : w1.heap[q]? = some (.cells #[.slice X n k, .int .i64 (last : Int)] 64 (0, 0)) := by rw [hd1]; exact HHH.out
  have HB1 : Hid (Below w.heap.size w w1) := by rw [hd1]; exact below_drewN w d1
  have c0 : w1.cell? ⟨q, 0, none⟩ = some (.slice X n k) := by rw [cell_of_row w1 q 0 _ 64 (0, 0) hh1]; rfl
  have HLN : Hid (∀ d, Calls Try.prog 25 #[.pointer (some ⟨p, 0, none⟩)] (w1.drewN d) fun e w' => e = .returned (.int .i64 (n : Int)) ∧ w1.drewN d = w') := fun d => len_any (w1.drewN d) B p g S _ (HT1.out.drewN d) n HNN.out
  clear hd1 hh1 HN1 HN2 HT HR HHH
  cases ok
  all_goals
    go_wp2_with fail
    go_big_quiet ((go_at_call 25; exact Calls.quiet_of_same (call_sym (HLN.out _))))
    go_wp2
    have HT2 : Hid (Tm (w1.drewN nq) B p g S (last : Int)) := HT1.out.drewN nq
    have HR2 : Hid (Rf (w1.drewN nq) q S (last : Int)) := HR1.out.drewN nq
    have HB2 : Hid (Below w.heap.size w (w1.drewN nq)) := below_trans HB1.out (below_drewN w1 nq)
    clear c0 HLN HT1 HR1 HB1
    generalize w1.drewN nq = w2 at *
    go_loopw [11] (fun i wr => ∃ t : Nat, t ≤ last + 2 ∧ i = .int .i64 (t : Int) ∧ Hid (Tm wr B p g S (last : Int)) ∧ Hid (Rf wr q S (last : Int)) ∧ Hid (Below w.heap.size w wr)) (fun i _ => last + 2 - (intOf i).toNat)
    case atStart => exact ⟨0, by omega, rfl, HT2.out, HR2.out, HB2.out⟩
    case round =>
      clear HT2 HR2 HB2
      obtain ⟨t, ht, rfl, hT, hR, hB⟩ := hrel
      obtain ⟨L2, X2, k2, _, _, _, hh2, _⟩ := hR.out.open
      have c1 : wr.cell? ⟨q, 1, none⟩ = some (.int .i64 (last : Int)) := by rw [cell_of_row wr q 1 _ 64 (0, 0) hh2]; rfl
      clear hh2
      by_cases hlt : t ≤ last + 1
      · have i1 : (t : Int) ≤ (last : Int) + 1 := by omega
        have i2 : (t : Int) < 200 := by omega
        obtain ⟨r2, ok2, hl1, hl2⟩ := left_both wr B p g S (last : Int) hT.out (t : Int) now
        have HL1 := Lib.hid hl1
        have HL2 := Lib.hid hl2
        clear hl1 hl2
        go_wp2_with fail
        refine HL1.out.mono ?_
        rintro e w3 ⟨rfl, hb3⟩
        have HT3 := Lib.hid (hT.out.below hb3)
        have HR3 := Lib.hid (hR.out.below hb3)
        have HB3 := Lib.hid (below_trans hB.out hb3)
        clear hb3 HL1 c1
        go_wp2_with fail
        refine (HL2.out w3 q HR3.out).mono ?_
        rintro e w4 ⟨rfl, rfl⟩
        clear HL2
        cases ok2
        all_goals
          go_wp2
          go_roundw
          case rel => exact ⟨t + 1, by omega, by go_num, HT3.out, HR3.out, HB3.out⟩
          case measure => simp [intOf]; omega
      · have i1 : decide ((t : Int) ≤ (last : Int) + 1) = false := by simp; omega
        go_wp2
        go_ret
        exact ⟨rfl, hB.out⟩
end Go.Proofs.Ytpnhpgdidineaaa
