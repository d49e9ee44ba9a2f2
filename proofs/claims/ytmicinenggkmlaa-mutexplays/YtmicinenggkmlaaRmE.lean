/- The document's mutexes: try, TryLock, Lock. -/
import Derived.Test.YtmicinenggkmlaaRmD
import Derived.Test.YtmicinenggkmlaaMtF
import Derived.Test.YtmicinenggkmlaaRefB
namespace Go.Proofs.Ytmicinenggkmlaa
open Go.RowKit
set_option linter.unusedVariables false
set_option maxRecDepth 100000

/-- the document's mutexes, their priorities told -/
def Rd (w : World) (m gk go gq : Nat) (r : Nat → Nat) (S : St) : Prop := ∃ N : Int → Int, Rx w m gk go gq r S N ∧ ∀ t, isT t → N t = P S t
def DidR (w : World) (m gk go gq : Nat) (r : Nat → Nat) (n : Nat) (S' : St) (w' : World) : Prop := Rd w' m gk go gq r S' ∧ OnS (Zd m go r n) w w'
theorem Rd.below {w w' : World} {m gk go gq : Nat} {r : Nat → Nat} {S : St} (h : Rd w m gk go gq r S) (k : Below w.heap.size w w') : Rd w' m gk go gq r S := by obtain ⟨N, h1, h2⟩ := h; exact ⟨N, h1.below k, h2⟩
theorem DidR.refl {w : World} {m gk go gq : Nat} {r : Nat → Nat} {n : Nat} {S : St} (h : Rd w m gk go gq r S) : DidR w m gk go gq r n S w := ⟨h, OnS.refl _ _⟩

set_option maxHeartbeats 1600000 in
/-- settle, as the calls use it: the queues' priorities are those told last -/
theorem rsettle_to (m gk go gq : Nat) (r : Nat → Nat) (S S1 : St) (N : Int → Int) (w : World) (h : Rx w m gk go gq r S1 N) (hN : ∀ t, isT t → N t = P S t) (hf : Fine0 S1) (ht : ∀ j, j < S1.n → ∀ x, x ∈ S1.Q j → x.2 = P S x.1) :
    Calls Try.prog 43 #[PtrV m] w fun e w' => e = .returned (.tuple #[]) ∧ DidR w m gk go gq r S1.n (settle S1) w' := by
  refine (rsettle_any m gk go gq r S1 N w h hf fun i hi x hx => ?_).mono ?_
  · have h1 := (hf.gd i hi).rng x hx
    rw [hN x.1 ⟨h1.1, h1.2.1⟩, ← ht i hi x hx]
  · rintro e w2 ⟨rfl, hx, ho⟩
    exact ⟨rfl, ⟨P S1, hx, fun t _ => by rw [P_settle]⟩, ho⟩

set_option maxHeartbeats 3200000 in
theorem rtry_any (m_ gk go gq : Nat) (r : Nat → Nat) (S S' : St) (m t c : Int) (b : Bool) (w : World) (h : Rd w m_ gk go gq r S) (hf : Fine S) (hs : tryL S m t = (S', b, c)) :
    Calls Try.prog 39 #[PtrV m_, .int .i64 m, .int .i64 t] w fun e w' => e = .returned (.tuple #[.bool b, .int .i64 c]) ∧ DidR w m_ gk go gq r S.n S' w' := by
  have HRD := Lib.hid h
  obtain ⟨N, hx, hN⟩ := h
  unfold tryL at hs
  by_cases c1 : ¬ isM S m
  · have HM := Lib.hid (rmutex_any m_ gk go gq r S N m w hx false (decide_eq_false c1))
    rw [if_pos (fun e => c1 e.1)] at hs
    simp only [Prod.mk.injEq] at hs
    obtain ⟨rfl, rfl, rfl⟩ := hs
    clear hx hN hf c1
    go_enter Try.func39, Try.ntmps39
    go_wp2_with fail
    refine HM.out.mono ?_
    rintro e w1 ⟨rfl, rfl⟩
    go_wp2
    go_ret2
    exact ⟨rfl, .refl HRD.out⟩
  have c1 := Classical.not_not.1 c1
  have HM := Lib.hid (rmutex_any m_ gk go gq r S N m w hx true (decide_eq_true c1))
  by_cases c2 : ¬ isT t
  · have HT := Lib.hid (ris_any t w false (decide_eq_false c2))
    rw [if_pos (fun e => c2 e.2)] at hs
    simp only [Prod.mk.injEq] at hs
    obtain ⟨rfl, rfl, rfl⟩ := hs
    clear hx hN hf c1 c2
    go_enter Try.func39, Try.ntmps39
    go_wp2_with fail
    refine HM.out.mono ?_
    rintro e w1 ⟨rfl, rfl⟩
    go_wp2_with fail
    refine HT.out.mono ?_
    rintro e w1 ⟨rfl, rfl⟩
    go_wp2
    go_ret2
    exact ⟨rfl, .refl HRD.out⟩
  have c2 := Classical.not_not.1 c2
  have HT := Lib.hid (ris_any t w true (decide_eq_true c2))
  rw [if_neg (fun e => e ⟨c1, c2⟩)] at hs
  obtain ⟨XK, XO, XQ, kK, kO, kQ, k0, k1, k2, hX⟩ := hx.rows
  obtain ⟨hi, hmi⟩ := ix_of c1
  obtain ⟨rfl, rfl, rfl⟩ := hX (by omega)
  obtain ⟨i, hii⟩ : ∃ i, ix m = i := ⟨_, rfl⟩
  rw [hii] at hi hmi hs
  obtain ⟨d0, d1⟩ := hx.kind hi
  have d2 := hx.own hi
  have hz2 := hx.fzo (by omega) i
  have hm' : m - 1 = (i : Int) := by omega
  have hn8 := hf.n8
  have hin : i < S.n := hi
  obtain ⟨u, hu⟩ : ∃ u : Nat, t = (u : Int) := ⟨t.toNat, by unfold isT at c2; omega⟩
  have hu0 : u ≠ 0 := by unfold isT at c2; omega
  have hu17 : u < 17 := by unfold isT at c2; omega
  have d4 := hx.base hu0 hu17
  subst hu
  have HF := Lib.hid hf
  have HX := Lib.hid hx
  have HNN := Lib.hid hN
  have HI := Lib.hid hi
  have HWA := Lib.hid (rwaits_any m_ gk go gq r S N (u : Int) w hx hf.toFine0 _ rfl)
  have HC2 := Lib.hid c2
  obtain ⟨n, hn⟩ : ∃ n, S.n = n := ⟨_, rfl⟩
  have HN := Lib.hid hn
  rw [hn] at k0 k1 k2 hin hn8
  obtain ⟨xo, hxo⟩ : ∃ x, S.O i = x := ⟨_, rfl⟩
  rw [hxo] at d2 hs
  have HXO := Lib.hid hxo
  have hov : over S i (S.B (u : Int)) ↔ S.A i = 3 ∧ S.B (u : Int) < S.C i := Iff.rfl
  obtain ⟨xa, hxa⟩ : ∃ x, S.A i = x := ⟨_, rfl⟩
  obtain ⟨xc, hxc⟩ : ∃ x, S.C i = x := ⟨_, rfl⟩
  obtain ⟨xb, hxb⟩ : ∃ x, S.B (u : Int) = x := ⟨_, rfl⟩
  rw [hxa, hxc, hxb] at hov
  rw [hxb] at hs
  rw [hxa] at d0
  rw [hxc] at d1
  rw [hxb] at d4
  have HXA := Lib.hid hxa
  have q3 : IntKind.i64.wrap (m - 1) = (i : Int) := by rw [IntWalk.i64_in _ (by omega)]; omega
  clear hx hf hi hn hxo hX hmi c1 c2 hxa hxc hxb hii hN
  by_cases c3 : xo = (u : Int)
  · have te : (xo == (u : Int)) = true := by simpa using c3
    rw [if_pos (.inl c3)] at hs
    simp only [Prod.mk.injEq] at hs
    obtain ⟨rfl, rfl, rfl⟩ := hs
    clear c3 hov
    go_enter Try.func39, Try.ntmps39
    go_wp2_with fail
    refine HM.out.mono ?_
    rintro e w1 ⟨rfl, rfl⟩
    go_wp2_with fail
    refine HT.out.mono ?_
    rintro e w1 ⟨rfl, rfl⟩
    go_wp2
    go_ret2
    exact ⟨rfl, .refl HRD.out⟩
  have te : (xo == (u : Int)) = false := by simpa using c3
  have b1 : (0 : Int) ≤ (i : Int) := by omega
  have b2 : (i : Int) < (n : Int) := by omega
  have b3 : (0 : Int) ≤ (u : Int) := by omega
  have b4 : (u : Int) < 17 := by omega
  by_cases c5 : xa = 3
  · subst c5
    by_cases c7 : xb < xc
    · have t7 := decide_eq_true c7
      rw [if_pos (.inr (hov.2 ⟨rfl, c7⟩))] at hs
      simp only [Prod.mk.injEq] at hs
      obtain ⟨rfl, rfl, rfl⟩ := hs
      clear c3 hov
      go_enter Try.func39, Try.ntmps39
      go_wp2_with fail
      refine HM.out.mono ?_
      rintro e w1 ⟨rfl, rfl⟩
      go_wp2_with fail
      refine HT.out.mono ?_
      rintro e w1 ⟨rfl, rfl⟩
      go_wp2
      go_quiet (fail)
      have R5 := Lib.hid (HRD.out.below (below_drewN w nq))
      have O5 := Lib.hid (OnS.of_below (Z := Zd m_ go r S.n) (below_drewN w nq))
      go_wp2
      go_ret2
      exact ⟨rfl, R5.out, O5.out⟩
    · have t7 := decide_eq_false c7
      rw [if_neg (by rintro (e | e); exact c3 e; exact c7 (hov.1 e).2)] at hs
      clear c3 hov
      go_enter Try.func39, Try.ntmps39
      go_wp2_with fail
      refine HM.out.mono ?_
      rintro e w1 ⟨rfl, rfl⟩
      go_wp2_with fail
      refine HT.out.mono ?_
      rintro e w1 ⟨rfl, rfl⟩
      go_wp2
      go_quiet (fail)
      have hb5 := below_drewN w nq
      have X5 := Lib.hid (HX.out.below hb5)
      have R5 := Lib.hid (HRD.out.below hb5)
      have O5 := Lib.hid (OnS.of_below (Z := Zd m_ go r S.n) hb5)
      have f1 : (w.drewN nq).cell? ⟨m_, 1, none⟩ = some (.slice (some ⟨go, 0, none⟩) n kO) := k1
      have f2 : (w.drewN nq).cell? ⟨go, i, none⟩ = some (.int .i64 xo) := d2
      have z2 : (w.drewN nq).frozen? ⟨go, i, none⟩ = false := hz2
      have HW5 := Lib.hid (rwaits_any m_ gk go gq r S N (u : Int) (w.drewN nq) X5.out HF.out.toFine0 _ rfl)
      clear hb5 k0 k1 k2 d0 d1 d2 d4 hz2 HWA
      generalize w.drewN nq = w5 at *
      by_cases cw : fi S (u : Int) < S.n
      · rw [if_pos cw] at hs HW5
        simp only [Prod.mk.injEq] at hs
        obtain ⟨rfl, rfl, rfl⟩ := hs
        obtain ⟨z, hz⟩ : ∃ z, fi S (u : Int) = z := ⟨_, rfl⟩
        rw [hz] at HW5
        have tz : decide ((0 : Int) ≤ (z : Int)) = true := by simp
        clear cw hz
        go_wp2_with fail
        refine HW5.out.mono ?_
        rintro e w6 ⟨rfl, rfl⟩
        go_wp2
        go_ret2
        exact ⟨rfl, R5.out, O5.out⟩
      · rw [if_neg cw] at hs HW5
        have HCW := Lib.hid cw
        clear cw
        by_cases c6 : xo = 0
        · rw [if_neg (fun e => e c6)] at hs
          simp only [Prod.mk.injEq] at hs
          obtain ⟨rfl, rfl, rfl⟩ := hs
          subst c6
          have X6 := Lib.hid (X5.out.setO HI.out (u : Int))
          have O6 := Lib.hid (OnS.at_ (Z := Zd m_ go r S.n) (p := go) ((Only.refl go w5).setCell (q := ⟨go, i, none⟩) (.inl rfl) (.int .i64 (u : Int))) (.inr (.inl ⟨Nat.lt_of_le_of_lt (Nat.zero_le _) HI.out, rfl⟩)))
          have hfo : Fine { S with O := upd S.O i (u : Int) } := HF.out.setO HI.out HC2.out HXO.out (fun j hj => fi_out HCW.out hj)
          have HFO := Lib.hid hfo
          have HTL := Lib.hid (show ∀ j, j < S.n → ∀ x, x ∈ S.Q j → x.2 = P S x.1 from HF.out.told)
          clear hfo
          go_wp2_with fail
          refine HW5.out.mono ?_
          rintro e w6 ⟨rfl, rfl⟩
          go_wp2_with fail
          refine (rsettle_to m_ gk go gq r S { S with O := upd S.O i (u : Int) } N _ X6.out HNN.out HFO.out.toFine0 HTL.out).mono ?_
          rintro e w7 ⟨rfl, h7⟩
          have H7 := Lib.hid h7
          clear h7 f1 f2 z2
          go_wp2
          go_ret2
          refine ⟨rfl, ?_, O5.out.trans (O6.out.trans H7.out.2)⟩
          have := H7.out.1
          rw [HFO.out.settled] at this
          exact this
        · rw [if_pos c6] at hs
          simp only [Prod.mk.injEq] at hs
          obtain ⟨rfl, rfl, rfl⟩ := hs
          have t6 : (xo == 0) = false := by simpa using c6
          clear c6
          go_wp2_with fail
          refine HW5.out.mono ?_
          rintro e w6 ⟨rfl, rfl⟩
          go_wp2
          go_ret2
          exact ⟨rfl, R5.out, O5.out⟩
  · have t5 : (xa == 3) = false := by simpa using c5
    rw [if_neg (by rintro (e | e); exact c3 e; exact c5 (hov.1 e).1)] at hs
    clear c3 hov c5
    go_enter Try.func39, Try.ntmps39
    go_wp2_with fail
    refine HM.out.mono ?_
    rintro e w1 ⟨rfl, rfl⟩
    go_wp2_with fail
    refine HT.out.mono ?_
    rintro e w1 ⟨rfl, rfl⟩
    go_wp2
    go_quiet (fail)
    have hb5 := below_drewN w nq
    have X5 := Lib.hid (HX.out.below hb5)
    have R5 := Lib.hid (HRD.out.below hb5)
    have O5 := Lib.hid (OnS.of_below (Z := Zd m_ go r S.n) hb5)
    have f1 : (w.drewN nq).cell? ⟨m_, 1, none⟩ = some (.slice (some ⟨go, 0, none⟩) n kO) := k1
    have f2 : (w.drewN nq).cell? ⟨go, i, none⟩ = some (.int .i64 xo) := d2
    have z2 : (w.drewN nq).frozen? ⟨go, i, none⟩ = false := hz2
    have HW5 := Lib.hid (rwaits_any m_ gk go gq r S N (u : Int) (w.drewN nq) X5.out HF.out.toFine0 _ rfl)
    clear hb5 k0 k1 k2 d0 d1 d2 d4 hz2 HWA
    generalize w.drewN nq = w5 at *
    by_cases cw : fi S (u : Int) < S.n
    · rw [if_pos cw] at hs HW5
      simp only [Prod.mk.injEq] at hs
      obtain ⟨rfl, rfl, rfl⟩ := hs
      obtain ⟨z, hz⟩ : ∃ z, fi S (u : Int) = z := ⟨_, rfl⟩
      rw [hz] at HW5
      have tz : decide ((0 : Int) ≤ (z : Int)) = true := by simp
      clear cw hz
      go_wp2_with fail
      refine HW5.out.mono ?_
      rintro e w6 ⟨rfl, rfl⟩
      go_wp2
      go_ret2
      exact ⟨rfl, R5.out, O5.out⟩
    · rw [if_neg cw] at hs HW5
      have HCW := Lib.hid cw
      clear cw
      by_cases c6 : xo = 0
      · rw [if_neg (fun e => e c6)] at hs
        simp only [Prod.mk.injEq] at hs
        obtain ⟨rfl, rfl, rfl⟩ := hs
        subst c6
        have X6 := Lib.hid (X5.out.setO HI.out (u : Int))
        have O6 := Lib.hid (OnS.at_ (Z := Zd m_ go r S.n) (p := go) ((Only.refl go w5).setCell (q := ⟨go, i, none⟩) (.inl rfl) (.int .i64 (u : Int))) (.inr (.inl ⟨Nat.lt_of_le_of_lt (Nat.zero_le _) HI.out, rfl⟩)))
        have hfo : Fine { S with O := upd S.O i (u : Int) } := HF.out.setO HI.out HC2.out HXO.out (fun j hj => fi_out HCW.out hj)
        have HFO := Lib.hid hfo
        have HTL := Lib.hid (show ∀ j, j < S.n → ∀ x, x ∈ S.Q j → x.2 = P S x.1 from HF.out.told)
        clear hfo
        go_wp2_with fail
        refine HW5.out.mono ?_
        rintro e w6 ⟨rfl, rfl⟩
        go_wp2_with fail
        refine (rsettle_to m_ gk go gq r S { S with O := upd S.O i (u : Int) } N _ X6.out HNN.out HFO.out.toFine0 HTL.out).mono ?_
        rintro e w7 ⟨rfl, h7⟩
        have H7 := Lib.hid h7
        clear h7 f1 f2 z2
        go_wp2
        go_ret2
        refine ⟨rfl, ?_, O5.out.trans (O6.out.trans H7.out.2)⟩
        have := H7.out.1
        rw [HFO.out.settled] at this
        exact this
      · rw [if_pos c6] at hs
        simp only [Prod.mk.injEq] at hs
        obtain ⟨rfl, rfl, rfl⟩ := hs
        have t6 : (xo == 0) = false := by simpa using c6
        clear c6
        go_wp2_with fail
        refine HW5.out.mono ?_
        rintro e w6 ⟨rfl, rfl⟩
        go_wp2
        go_ret2
        exact ⟨rfl, R5.out, O5.out⟩

theorem rtrylock_any (m_ gk go gq : Nat) (r : Nat → Nat) (S S' : St) (m t c : Int) (b : Bool) (w : World) (h : Rd w m_ gk go gq r S) (hf : Fine S) (hs : tryL S m t = (S', b, c)) :
    Calls Try.prog 17 #[PtrV m_, .int .i64 m, .int .i64 t] w fun e w' => e = .returned (.tuple #[.bool b, .int .i64 c]) ∧ DidR w m_ gk go gq r S.n S' w' := by
  have HT := Lib.hid (rtry_any m_ gk go gq r S S' m t c b w h hf hs)
  clear h hf hs
  go_enter Try.func17, Try.ntmps17
  go_wp2_with fail
  refine HT.out.mono ?_
  rintro e w1 ⟨rfl, hd⟩
  go_wp2
  go_ret2
  exact ⟨rfl, hd⟩
end Go.Proofs.Ytmicinenggkmlaa
