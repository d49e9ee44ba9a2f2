/- Contracts of package heap: rise, sink. -/
import Derived.Test.YtpnhpgdidineaaaConA
namespace Go.Proofs.Ytpnhpgdidineaaa
open Go.RowKit

theorem Rw.swap {w : World} {g k : Nat} {H : List En} (h : Rw w g k H) {i j : Nat} (hi : i < H.length) (hj : j < H.length) : Rw (put3 (put3 w g i (ix H j)) g j (ix H i)) g k (swp H i j) := by
  have hk : H.length ≤ k := by obtain ⟨_, _, _, h2, _⟩ := h; exact h2
  exact (h.put (by omega) _).put (by omega) _

set_option maxHeartbeats 1600000 in
theorem rise_any (g k n a : Nat) (H : List En) (w : World) (hr : Rw w g k H) (hn : H.length = n) (hn2 : n ≤ 256) (ha : a ≤ 256) (hinv : RiseInv H a) :
    Calls Try.prog 47 #[.slice (some ⟨g, 0, none⟩) n k, .int .i64 (a : Int)] w fun e w' => e = .returned (.tuple #[]) ∧ (∃ H', H'.Perm H ∧ Hp H' ∧ Rw w' g k H') ∧ Only g g w w' := by
  have HL := Lib.hid hn
  have HR := Lib.hid hr
  have HI := Lib.hid hinv
  clear hr hn hinv
  go_enter Try.func47, Try.ntmps47
  go_wp2
  go_loopw [1] (fun b wr => ∃ t : Nat, b = .int .i64 (t : Int) ∧ t ≤ 256 ∧ Hid (∃ H', H'.Perm H ∧ RiseInv H' t ∧ Rw wr g k H') ∧ Only g g w wr) (fun b _ => (intOf b).toNat)
  case atStart => exact ⟨a, rfl, ha, ⟨H, List.Perm.refl _, HI.out, HR.out⟩, Only.refl _ _ _⟩
  case round =>
    obtain ⟨t, rfl, ht, hH, ho⟩ := hrel
    obtain ⟨H1, hp, hi, hw⟩ := hH.out
    have hl1 : H1.length = n := hp.length_eq.trans HL.out
    have HP := Lib.hid hp
    have HI1 := Lib.hid hi
    clear hH hp hi HR HI
    by_cases c0 : t = 0
    · have i1 : decide ((0 : Int) < (t : Int)) = false := by simp; omega
      have i1' : decide (0 < t) = false := by simp; omega
      have HE := Lib.hid (rise_end HI1.out (fun h => absurd c0 (by omega)))
      have HW := Lib.hid hw
      clear c0 hw hl1
      go_wp2
      go_end0
      exact ⟨rfl, ⟨H1, HP.out, HE.out, HW.out⟩, ho⟩
    · have i0 : (0 : Int) < (t : Int) := by omega
      by_cases c1 : t < n
      · have i1 : (t : Int) < (n : Int) := by omega
        obtain ⟨p, hp⟩ : ∃ p, (t - 1) / 2 = p := ⟨_, rfl⟩
        have hpn : p < n := by omega
        have hpt : p < t := by omega
        have i2 : ((t : Int) - 1) / 2 = (p : Int) := by omega
        have i2' : ((t : Int) - 1).tdiv 2 = (p : Int) := by rw [Int.tdiv_eq_ediv_of_nonneg (by omega)]; exact i2
        have i3 : (p : Int) < (n : Int) := by omega
        have HPP := Lib.hid hp
        obtain ⟨d0, d1, d2⟩ := hw.cells (i := t) (by rw [hl1]; exact c1)
        obtain ⟨e0, e1, e2⟩ := hw.cells (i := p) (by rw [hl1]; exact hpn)
        obtain ⟨x, hx⟩ : ∃ x, ix H1 t = x := ⟨_, rfl⟩
        obtain ⟨y, hy⟩ : ∃ y, ix H1 p = y := ⟨_, rfl⟩
        rw [hx] at d0 d1 d2
        rw [hy] at e0 e1 e2
        have HX := Lib.hid hx
        have HY := Lib.hid hy
        have HW := Lib.hid hw
        have HL1 := Lib.hid hl1
        clear hx hy hp c0 hw hl1
        obtain ⟨bb, hbb⟩ : ∃ bb, bef x y = bb := ⟨_, rfl⟩
        go_wp2
        go_still_tail 8, (by kernel_rfl)
        change wpList _ _ _ _ _ wr.drew
        have ho1 : Only g g w wr.drew := ho.drew
        have hw1 : Rw wr.drew g k H1 := HW.out
        generalize wr.drew = wa at *
        clear d0 d1 d2 e0 e1 e2 ho HW
        go_wp2_with fail
        refine (before_any x y wa bb hbb).mono ?_
        rintro e w2 ⟨rfl, hb2⟩
        have hw2 := hw1.below hb2
        have ho2 := ho1.trans (Only.of_below hb2)
        have HB := Lib.hid hbb
        clear hbb hw1 ho1 hb2
        cases bb with
        | false =>
          have HE := Lib.hid (rise_end HI1.out (fun _ _ => by rw [HPP.out, HX.out, HY.out]; have := HB.out; unfold bef at this; simpa [le] using this))
          have HW2 := Lib.hid hw2
          clear hw2
          go_wp2
          refine bodyPost_ret (results_none rfl _ _ _) rfl ?_
          exact ⟨rfl, ⟨H1, HP.out, HE.out, HW2.out⟩, ho2⟩
        | true =>
          obtain ⟨d0, d1, d2⟩ := hw2.cells (i := t) (by rw [HL1.out]; exact c1)
          obtain ⟨e0, e1, e2⟩ := hw2.cells (i := p) (by rw [HL1.out]; exact hpn)
          rw [HX.out] at d0 d1 d2
          rw [HY.out] at e0 e1 e2
          have f0 := hw2.frozen (t * 3)
          have f1 := hw2.frozen (t * 3 + 1)
          have f2 := hw2.frozen (t * 3 + 2)
          have g0 := hw2.frozen (p * 3)
          have g1 := hw2.frozen (p * 3 + 1)
          have g2 := hw2.frozen (p * 3 + 2)
          have HW2 := Lib.hid hw2
          clear hw2
          go_wp2
          go_region
          go_wp2
          go_roundw
          case rel =>
            refine ⟨p, rfl, by omega, ⟨swp H1 t p, (swp_perm (by rw [HL1.out]; exact c1) (by rw [HL1.out]; exact hpn)).trans HP.out, rise_step (by omega) (by rw [HL1.out]; exact c1) HPP.out HI1.out ?_, ?_⟩, ?_⟩
            · rw [HX.out, HY.out]; have := HB.out; unfold bef at this; simpa using this
            · have := (HW2.out.swap (i := t) (j := p) (by rw [HL1.out]; exact c1) (by rw [HL1.out]; exact hpn)).drew
              rw [HX.out, HY.out] at this; exact this
            · exact (((((((ho2.setCell (.inl rfl) _).setCell (.inl rfl) _).setCell (.inl rfl) _).setCell (.inl rfl) _).setCell (.inl rfl) _).setCell (.inl rfl) _)).drew
          case measure => simp [intOf]; omega
      · have i1 : decide ((t : Int) < (n : Int)) = false := by simp; omega
        have HE := Lib.hid (rise_end HI1.out (fun _ h => absurd h (by rw [hl1]; exact c1)))
        have HW := Lib.hid hw
        clear c0 hw hl1
        go_wp2
        go_end0
        exact ⟨rfl, ⟨H1, HP.out, HE.out, HW.out⟩, ho⟩

set_option maxHeartbeats 1600000 in
theorem sink_any (g k n a : Nat) (H : List En) (w : World) (hr : Rw w g k H) (hn : H.length = n) (hn2 : n ≤ 256) (ha : a ≤ n) (hinv : SinkInv H a a) :
    Calls Try.prog 46 #[.slice (some ⟨g, 0, none⟩) n k, .int .i64 (a : Int)] w fun e w' => e = .returned (.tuple #[]) ∧ (∃ H', H'.Perm H ∧ RiseInv H' a ∧ Rw w' g k H') ∧ Only g g w w' := by
  have HL := Lib.hid hn
  have HR := Lib.hid hr
  have HI := Lib.hid hinv
  clear hr hn hinv
  go_enter Try.func46, Try.ntmps46
  go_wp2_with fail
  go_loopw [1] (fun b wr => ∃ t : Nat, b = .int .i64 (t : Int) ∧ a ≤ t ∧ t ≤ n ∧ Hid (∃ H', H'.Perm H ∧ SinkInv H' a t ∧ Rw wr g k H') ∧ Only g g w wr) (fun b _ => n - (intOf b).toNat)
  case atStart => exact ⟨a, rfl, Nat.le_refl _, ha, ⟨H, List.Perm.refl _, HI.out, HR.out⟩, Only.refl _ _ _⟩
  case round =>
    obtain ⟨t, rfl, hat, ht, hH, ho⟩ := hrel
    obtain ⟨H1, hp, hi, hw⟩ := hH.out
    have hl1 : H1.length = n := hp.length_eq.trans HL.out
    have HP := Lib.hid hp
    have HI1 := Lib.hid hi
    have HW := Lib.hid hw
    have HL1 := Lib.hid hl1
    clear hH hp hi HR HI hw hl1
    go_wp2_with fail
    refine (firstBelow_any g k n t H1 wr HW.out HL1.out hn2 (by omega) (by omega)).mono ?_
    rintro e w2 ⟨r, rfl, hF, hb2⟩
    have hw2 := HW.out.below hb2
    have ho2 := ho.trans (Only.of_below hb2)
    have HF := Lib.hid hF
    have hF2 := hF.2
    rw [HL1.out] at hF2
    clear hb2 HW ho hF
    by_cases c : r = t
    · subst c
      have HE := Lib.hid (sink_end HI1.out HF.out)
      have HW2 := Lib.hid hw2
      clear hw2 hF2
      go_wp2
      refine bodyPost_ret (results_none rfl _ _ _) rfl ?_
      exact ⟨rfl, ⟨H1, HP.out, HE.out, HW2.out⟩, ho2⟩
    · have hrn : r < n := by rcases hF2 with h | h; exact absurd h c; exact h.1
      have hrt : t < r := by rcases hF2 with h | h; exact absurd h c; omega
      have htn : t < n := by omega
      have i1 : (r : Int) < (n : Int) := by omega
      have i2 : (t : Int) < (n : Int) := by omega
      have i3 : ((r : Int) == (t : Int)) = false := by simp; omega
      clear hF2
      obtain ⟨d0, d1, d2⟩ := hw2.cells (i := t) (by rw [HL1.out]; exact htn)
      obtain ⟨e0, e1, e2⟩ := hw2.cells (i := r) (by rw [HL1.out]; exact hrn)
      obtain ⟨x, hx⟩ : ∃ x, ix H1 t = x := ⟨_, rfl⟩
      obtain ⟨y, hy⟩ : ∃ y, ix H1 r = y := ⟨_, rfl⟩
      rw [hx] at d0 d1 d2
      rw [hy] at e0 e1 e2
      have HX := Lib.hid hx
      have HY := Lib.hid hy
      have HC := Lib.hid c
      have f0 := hw2.frozen (t * 3)
      have f1 := hw2.frozen (t * 3 + 1)
      have f2 := hw2.frozen (t * 3 + 2)
      have g0 := hw2.frozen (r * 3)
      have g1 := hw2.frozen (r * 3 + 1)
      have g2 := hw2.frozen (r * 3 + 2)
      have HW2 := Lib.hid hw2
      clear hw2 hx hy c
      go_wp2
      go_region
      go_wp2
      go_roundw
      case rel =>
        refine ⟨r, rfl, by omega, by omega, ⟨swp H1 t r, (swp_perm (by rw [HL1.out]; exact htn) (by rw [HL1.out]; exact hrn)).trans HP.out, sink_step hat (by rw [HL1.out]; exact htn) HI1.out HF.out HC.out, ?_⟩, ?_⟩
        · have := (HW2.out.swap (i := t) (j := r) (by rw [HL1.out]; exact htn) (by rw [HL1.out]; exact hrn)).drew
          rw [HX.out, HY.out] at this; exact this
        · exact (((((((ho2.setCell (.inl rfl) _).setCell (.inl rfl) _).setCell (.inl rfl) _).setCell (.inl rfl) _).setCell (.inl rfl) _).setCell (.inl rfl) _)).drew
      case measure => simp [intOf]; omega
end Go.Proofs.Ytpnhpgdidineaaa
