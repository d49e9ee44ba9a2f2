/- Contracts of package mtx: TryLock, Lock, SetBase. -/
import Derived.Test.YtmicinenggkmlaaMtD
import Derived.Deep.RegionHeld3
namespace Go.Proofs.Ytmicinenggkmlaa
open Go.RowKit
set_option linter.unusedVariables false
set_option maxRecDepth 100000

theorem four_below {a b c d : Addr} {x y z u : Value} {W W' : World} (hb : Below W.heap.size W W') (h : W.cell? a = some x ∧ W.cell? b = some y ∧ W.cell? c = some z ∧ W.cell? d = some u) :
    W'.cell? a = some x ∧ W'.cell? b = some y ∧ W'.cell? c = some z ∧ W'.cell? d = some u :=
  ⟨(hb.cell (p := a) (block_lt_of_cell h.1)).trans h.1, (hb.cell (p := b) (block_lt_of_cell h.2.1)).trans h.2.1, (hb.cell (p := c) (block_lt_of_cell h.2.2.1)).trans h.2.2.1, (hb.cell (p := d) (block_lt_of_cell h.2.2.2)).trans h.2.2.2⟩

theorem try_keep {a b c d : Addr} {x y z u : Value} {W W' w : World} {m g : Nat} {q : Nat → Nat} {S : St} (hb : Below W.heap.size W W')
    (h : W.cell? a = some x ∧ W.cell? b = some y ∧ W.cell? c = some z ∧ W.cell? d = some u ∧ Mx W m g q S ∧ Below w.heap.size w W) :
    W'.cell? a = some x ∧ W'.cell? b = some y ∧ W'.cell? c = some z ∧ W'.cell? d = some u ∧ Mx W' m g q S ∧ Below w.heap.size w W' := by
  obtain ⟨h1, h2, h3, h4, h5, h6⟩ := h
  obtain ⟨e1, e2, e3, e4⟩ := four_below hb ⟨h1, h2, h3, h4⟩
  exact ⟨e1, e2, e3, e4, h5.below hb, below_trans h6 hb⟩

set_option maxHeartbeats 3200000 in
theorem try_any (a g : Nat) (q : Nat → Nat) (S S' : St) (m t c : Int) (r : Bool) (w : World) (h : Mx w a g q S) (hf : Fine S) (hs : tryL S m t = (S', r, c)) :
    Calls Try.prog 16 #[PtrV a, .int .i64 m, .int .i64 t] w fun e w' => e = .returned (.tuple #[.bool r, .int .i64 c]) ∧ Did w a g q S.n S' w' := by
  unfold tryL at hs
  by_cases c1 : ¬ isM S m
  · have HM := Lib.hid (isMutex_any a g q S m w h false (decide_eq_false c1))
    rw [if_pos (fun e => c1 e.1)] at hs
    simp only [Prod.mk.injEq] at hs
    obtain ⟨rfl, rfl, rfl⟩ := hs
    have HH := Lib.hid h
    clear h hf c1
    go_enter Try.func16, Try.ntmps16
    go_wp2_with fail
    refine HM.out.mono ?_
    rintro e w1 ⟨rfl, rfl⟩
    go_wp2
    go_ret2
    exact ⟨rfl, HH.out, OnS.refl _ _⟩
  have c1 := Classical.not_not.1 c1
  have HM := Lib.hid (isMutex_any a g q S m w h true (decide_eq_true c1))
  by_cases c2 : ¬ isT t
  · have HT := Lib.hid (isTask_any t w false (decide_eq_false c2))
    rw [if_pos (fun e => c2 e.2)] at hs
    simp only [Prod.mk.injEq] at hs
    obtain ⟨rfl, rfl, rfl⟩ := hs
    have HH := Lib.hid h
    clear h hf c1 c2
    go_enter Try.func16, Try.ntmps16
    go_wp2_with fail
    refine HM.out.mono ?_
    rintro e w1 ⟨rfl, rfl⟩
    go_wp2_with fail
    refine HT.out.mono ?_
    rintro e w1 ⟨rfl, rfl⟩
    go_wp2
    go_ret2
    exact ⟨rfl, HH.out, OnS.refl _ _⟩
  have c2 := Classical.not_not.1 c2
  have HT := Lib.hid (isTask_any t w true (decide_eq_true c2))
  rw [if_neg (fun e => e ⟨c1, c2⟩)] at hs
  obtain ⟨X, k, c16, hk1, hk2, hX⟩ := h.row
  obtain ⟨hi, hmi⟩ := ix_of c1
  obtain rfl := hX (by omega)
  obtain ⟨i, hii⟩ : ∃ i, ix m = i := ⟨_, rfl⟩
  rw [hii] at hi hmi hs
  obtain ⟨d0, d1, d2, d3⟩ := h.cells hi
  have hz2 := h.fzg (by omega) (i * 4 + 2)
  have hm' : m - 1 = (i : Int) := by omega
  have hin : i < S.n := hi
  have HF := Lib.hid hf
  have HH := Lib.hid h
  have HI := Lib.hid hi
  have HBA := Lib.hid (fun W hW => base_any a g q S t W hW (S.B t) (by unfold bas; rw [if_pos c2]))
  have HWA := Lib.hid (fun W hW => waits_any a g q S t W hW hf.toFine0 _ rfl)
  have HOV := Lib.hid (over_any S i (S.B t) (S.O i) (PtrV (q i)))
  obtain ⟨n, hn⟩ : ∃ n, S.n = n := ⟨_, rfl⟩
  have HN := Lib.hid hn
  rw [hn] at c16 hin hk1
  obtain ⟨p, hp⟩ : ∃ p, q i = p := ⟨_, rfl⟩
  have HPQ := Lib.hid hp
  rw [hp] at d3 HOV
  obtain ⟨xo, hxo⟩ : ∃ x, S.O i = x := ⟨_, rfl⟩
  rw [hxo] at d2 hs HOV
  have HXO := Lib.hid hxo
  obtain ⟨xa, hxa⟩ : ∃ x, S.A i = x := ⟨_, rfl⟩
  obtain ⟨xc, hxc⟩ : ∃ x, S.C i = x := ⟨_, rfl⟩
  rw [hxa] at d0 HOV
  rw [hxc] at d1 HOV
  clear h hf hi hn hp hxo hX hmi c1 c2 hxa hxc hii
  by_cases c3 : xo = t
  · have te : (xo == t) = true := by simpa using c3
    rw [if_pos (.inl c3)] at hs
    simp only [Prod.mk.injEq] at hs
    obtain ⟨rfl, rfl, rfl⟩ := hs
    clear c3
    go_enter Try.func16, Try.ntmps16
    go_wp2_with fail
    refine HM.out.mono ?_
    rintro e w1 ⟨rfl, rfl⟩
    go_wp2_with fail
    refine HT.out.mono ?_
    rintro e w1 ⟨rfl, rfl⟩
    go_wp2
    go_quiet (fail)
    go_wp2
    go_ret2
    exact ⟨rfl, HH.out.below (below_drewN w nq), .of_below (below_drewN w nq)⟩
  have te : (xo == t) = false := by simpa using c3
  by_cases c4 : over S i (S.B t)
  · rw [if_pos (.inr c4)] at hs
    simp only [Prod.mk.injEq] at hs
    obtain ⟨rfl, rfl, rfl⟩ := hs
    have HOV1 := Lib.hid (fun W => HOV.out W true (decide_eq_true c4))
    clear c3 c4 HOV
    generalize S.B t = tb at *
    go_enter Try.func16, Try.ntmps16
    go_wp2_with fail
    refine HM.out.mono ?_
    rintro e w1 ⟨rfl, rfl⟩
    go_wp2_with fail
    refine HT.out.mono ?_
    rintro e w1 ⟨rfl, rfl⟩
    go_wp2
    go_region_held3 (fun W => W.cell? ⟨g, i * 4, none⟩ = some (.int .i64 xa) ∧ W.cell? ⟨g, i * 4 + 1, none⟩ = some (.int .i64 xc) ∧ W.cell? ⟨g, i * 4 + 2, none⟩ = some (.int .i64 xo) ∧ W.cell? ⟨g, i * 4 + 3, none⟩ = some (PtrV p) ∧ Mx W a g q S ∧ Below w.heap.size w W)
      (first | exact ⟨d0, d1, d2, d3, HH.out.below (below_drewN w 1), below_drewN w 1⟩ | exact try_keep hb5 (by assumption) | assumption)
      (first
        | (go_at_call 46; refine (HOV1.out _).mono ?_; rintro en w5 ⟨rfl, hb5⟩)
        | (go_at_call 33; refine (HBA.out _ (HH.out.below (below_drewN w 1))).mono ?_; rintro en w4 ⟨rfl, rfl⟩))
    rename_i hS
    obtain ⟨f0, f1, f2, f3, fm, fb⟩ := hS
    have FM := Lib.hid fm
    have FB := Lib.hid fb
    clear hb5 d0 d1 d2 d3 fm fb f0 f1 f3 HOV1 HBA
    go_wp2
    go_ret2
    exact ⟨rfl, FM.out, .of_below FB.out⟩
  · rw [if_neg (by rintro (e | e); exact c3 e; exact c4 e)] at hs
    have HOV1 := Lib.hid (fun W => HOV.out W false (decide_eq_false c4))
    clear c3 c4 HOV
    obtain ⟨v, hv⟩ : ∃ v, (if fi S t < S.n then ((fi S t + 1 : Nat) : Int) else 0) = v := ⟨_, rfl⟩
    rw [hv] at HWA
    have hvn : (if fi S t < S.n then (S, false, -41) else if xo ≠ 0 then (S, false, 0) else ({ S with O := upd S.O i t }, true, 0)) = if v ≠ 0 then (S, false, (-41 : Int)) else if xo ≠ 0 then (S, false, 0) else ({ S with O := upd S.O i t }, true, 0) := by
      by_cases c : fi S t < S.n
      · rw [if_pos c] at hv ⊢
        rw [if_pos (by omega)]
      · rw [if_neg c] at hv ⊢
        subst hv
        simp only [ne_eq, not_true, if_false]
    rw [hvn] at hs
    clear hvn hv
    generalize S.B t = tb at *
    go_enter Try.func16, Try.ntmps16
    go_wp2_with fail
    refine HM.out.mono ?_
    rintro e w1 ⟨rfl, rfl⟩
    go_wp2_with fail
    refine HT.out.mono ?_
    rintro e w1 ⟨rfl, rfl⟩
    go_wp2
    go_region_held3 (fun W => W.cell? ⟨g, i * 4, none⟩ = some (.int .i64 xa) ∧ W.cell? ⟨g, i * 4 + 1, none⟩ = some (.int .i64 xc) ∧ W.cell? ⟨g, i * 4 + 2, none⟩ = some (.int .i64 xo) ∧ W.cell? ⟨g, i * 4 + 3, none⟩ = some (PtrV p) ∧ Mx W a g q S ∧ Below w.heap.size w W)
      (first | exact ⟨d0, d1, d2, d3, HH.out.below (below_drewN w 1), below_drewN w 1⟩ | exact try_keep hb5 (by assumption) | assumption)
      (first
        | (go_at_call 46; refine (HOV1.out _).mono ?_; rintro en w5 ⟨rfl, hb5⟩)
        | (go_at_call 33; refine (HBA.out _ (HH.out.below (below_drewN w 1))).mono ?_; rintro en w4 ⟨rfl, rfl⟩))
    rename_i hS
    obtain ⟨f0, f1, f2, f3, fm, fb⟩ := hS
    have FM := Lib.hid fm
    have FB := Lib.hid fb
    clear hb5 d0 d1 d2 d3 fm fb f0 f1 f3 HOV1 HBA
    go_wp2_with fail
    refine (HWA.out _ FM.out).mono ?_
    rintro e w6 ⟨rfl, hb6⟩
    have FM6 := Lib.hid (FM.out.below hb6)
    have FB6 := Lib.hid (below_trans FB.out hb6)
    have e2 := (hb6.cell (p := ⟨g, i * 4 + 2, none⟩) (block_lt_of_cell f2)).trans f2
    have ez := FM6.out.fzg (Nat.lt_of_le_of_lt (Nat.zero_le _) HI.out) (i * 4 + 2)
    clear hb6 f2 FM FB HWA
    by_cases c5 : v = 0
    · rw [if_neg (fun e => e c5)] at hs
      subst c5
      by_cases c6 : xo = 0
      · rw [if_neg (fun e => e c6)] at hs
        simp only [Prod.mk.injEq] at hs
        obtain ⟨rfl, rfl, rfl⟩ := hs
        subst c6
        have HD := Lib.hid (FM6.out.setO HI.out t)
        have HO := Lib.hid (OnS.at_ (Z := Zp a g q S.n) (p := g) ((Only.refl g w6).setCell (q := ⟨g, i * 4 + 2, none⟩) (.inl rfl) (.int .i64 t)) (.inr (.inl ⟨Nat.lt_of_le_of_lt (Nat.zero_le _) HI.out, rfl⟩)))
        go_wp2
        go_ret2
        exact ⟨rfl, HD.out, (OnS.of_below FB6.out).trans HO.out⟩
      · rw [if_pos c6] at hs
        simp only [Prod.mk.injEq] at hs
        obtain ⟨rfl, rfl, rfl⟩ := hs
        have t6 : (xo != 0) = true := by simpa using c6
        go_wp2
        go_ret2
        exact ⟨rfl, FM6.out, .of_below FB6.out⟩
    · rw [if_pos c5] at hs
      simp only [Prod.mk.injEq] at hs
      obtain ⟨rfl, rfl, rfl⟩ := hs
      have t6 : (v != 0) = true := by simpa using c5
      go_wp2
      go_ret2
      exact ⟨rfl, FM6.out, .of_below FB6.out⟩
end Go.Proofs.Ytmicinenggkmlaa
