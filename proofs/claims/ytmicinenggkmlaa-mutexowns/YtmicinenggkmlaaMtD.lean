/- Contracts of package mtx: pass, Unlock, Drop, TryLock, Lock, SetBase. -/
import Derived.Test.YtmicinenggkmlaaMtC
import Derived.Deep.RegionHeld3
namespace Go.Proofs.Ytmicinenggkmlaa
open Go.RowKit
set_option linter.unusedVariables false
set_option maxRecDepth 100000

/-- what a call that turns does: the mutexes behind it, and that nothing else turned -/
def Did (w : World) (a g : Nat) (q : Nat → Nat) (n : Nat) (S' : St) (w' : World) : Prop := Mx w' a g q S' ∧ OnS (Zp a g q n) w w'

theorem passQ_nil {S : St} {i : Nat} (h : S.Q i = []) : passQ S i = { S with O := upd S.O i 0 } := by
  unfold passQ
  rw [h]
  show ({ S with O := upd S.O i 0, Q := upd S.Q i [] } : St) = _
  rw [← h, upd_id]

set_option maxHeartbeats 3200000 in
theorem pass_any (a g : Nat) (q : Nat → Nat) (S : St) (m : Int) (w : World) (h : Mx w a g q S) (hf : Fine S) (hm : isM S m) (r : Int) (hr : fst (S.Q (ix m)) = r) :
    Calls Try.prog 48 #[PtrV a, .int .i64 m] w fun e w' => e = .returned (.int .i64 r) ∧ Did w a g q S.n (passS S (ix m)) w' := by
  obtain ⟨X, k, c16, hk1, hk2, hX⟩ := h.row
  obtain ⟨hi, hmi⟩ := ix_of hm
  obtain rfl := hX (by omega)
  obtain ⟨i, hii⟩ : ∃ i, ix m = i := ⟨_, rfl⟩
  rw [hii] at hi hmi hr ⊢
  obtain ⟨d0, d1, d2, d3⟩ := h.cells hi
  have hz2 := h.fzg (by omega) (i * 4 + 2)
  have hm' : m - 1 = (i : Int) := by omega
  have HF := Lib.hid hf
  have HH := Lib.hid h
  have HI := Lib.hid hi
  have hin : i < S.n := hi
  have hg := hf.gd i hi
  have hl := h.hl i hi
  have HQF := Lib.hid (hf.passQ hi).1
  clear hX hmi hm hii
  obtain ⟨n, hn⟩ : ∃ n, S.n = n := ⟨_, rfl⟩
  have HN := Lib.hid hn
  rw [hn] at c16 hin hk1
  obtain ⟨p, hp⟩ : ∃ p, q i = p := ⟨_, rfl⟩
  have HPQ := Lib.hid hp
  rw [hp] at d3 hl
  obtain ⟨xo, hxo⟩ : ∃ x, S.O i = x := ⟨_, rfl⟩
  rw [hxo] at d2
  have HL := Lib.hid hl
  have HG := Lib.hid hg
  clear h hf hi hn hp hxo d0 d1 hl hg
  go_enter Try.func48, Try.ntmps48
  go_wp2_with fail
  have HR := Lib.hid hr
  have e6 : (settle (passQ S i)).O i = r := by
    show (upd S.O i (fst (S.Q i))) i = r
    rw [upd_at]; exact hr
  have HE6 := Lib.hid e6
  clear hr e6
  cases hq : S.Q i with
  | nil =>
    have HQ := Lib.hid hq
    have hr0 : r = 0 := by rw [← HR.out, hq]; rfl
    subst hr0
    rw [hq] at HL
    refine (take_none p (S.bp i) w HL.out).mono ?_
    rintro e w2 ⟨rfl, hb⟩
    have HD2 : OnS (Zp a g q S.n) w w2 := .of_below hb
    have h2 : Mx w2 a g q S := HH.out.below hb
    have hp2 : ∀ v, Mx ((w2.alloc (.cells #[.int .i64 0, .int .i64 0] 82)).setCell ⟨g, i * 4 + 2, none⟩ v) a g q { S with O := upd S.O i 0 } → Mx ((w2.alloc (.cells #[.int .i64 0, .int .i64 0] 82)).setCell ⟨g, i * 4 + 2, none⟩ v) a g q (passQ S i) := fun v hv => by rw [passQ_nil HQ.out]; exact hv
    have e16 := (hb.cell (p := ⟨a, 16, none⟩) (block_lt_of_cell c16)).trans c16
    have hal := (Below.refl w2.heap.size w2).alloc (Nat.le_refl _) (.cells #[.int .i64 0, .int .i64 0] 82)
    have h3 := h2.below hal
    obtain ⟨_, _, e2, _⟩ := h3.cells HI.out
    have e16 := (hal.cell (p := ⟨a, 16, none⟩) (block_lt_of_cell e16)).trans e16
    have ez := h3.fzg (Nat.lt_of_le_of_lt (Nat.zero_le _) HI.out) (i * 4 + 2)
    have h4 := hp2 _ (h3.setO HI.out 0)
    have HD : OnS (Zp a g q S.n) w (w2.alloc (.cells #[.int .i64 0, .int .i64 0] 82)) := HD2.trans (.of_below hal)
    have HD := Lib.hid (HD.trans (.at_ (p := g) ((Only.refl g _).setCell (q := ⟨g, i * 4 + 2, none⟩) (.inl rfl) (.int .i64 0)) (.inr (.inl ⟨Nat.lt_of_le_of_lt (Nat.zero_le _) HI.out, rfl⟩))))
    have H4 := Lib.hid h4
    clear HD2 h2 hp2 hal h3 h4 hq c16 d2 d3 hz2 HR HL HG HQ
    go_wp2_with fail
    refine (settle_any a g q (passQ S i) _ H4.out HQF.out).mono ?_
    rintro e w5 ⟨rfl, h5, hb5⟩
    have H5 := Lib.hid h5
    have HB5 := Lib.hid (HD.out.trans hb5)
    obtain ⟨_, _, e5, _⟩ := h5.cells (S := settle (passQ S i)) HI.out
    rw [HE6.out] at e5
    clear h5 hb5 e2 e16 ez
    go_wp2
    go_ret
    exact ⟨rfl, H5.out, HB5.out⟩
  | cons x L =>
    have HQ := Lib.hid hq
    have hr0 : r = x.1 := by rw [← HR.out, hq]; rfl
    subst hr0
    have hln := HG.out.len
    rw [hq] at HL hln
    refine (take_some p (S.bp i) x L w HL.out hln).mono ?_
    rintro e w2 ⟨rfl, hl2, ho⟩
    have HD2 : OnS (Zp a g q S.n) w w2 := .at_ ho (by rw [← HPQ.out]; exact zq HI.out)
    have h2 : Mx w2 a g q { S with Q := upd S.Q i L } := HH.out.turn HI.out (by rw [HPQ.out]; exact ho) (by rw [HPQ.out]; exact hl2)
    have hp2 : ∀ v, Mx ((w2.alloc (.cells #[.int .i64 x.1, .int .i64 x.2] 82)).setCell ⟨g, i * 4 + 2, none⟩ v) a g q { S with Q := upd S.Q i L, O := upd S.O i x.1 } → Mx ((w2.alloc (.cells #[.int .i64 x.1, .int .i64 x.2] 82)).setCell ⟨g, i * 4 + 2, none⟩ v) a g q (passQ S i) := fun v hv => by
      have : passQ S i = { S with Q := upd S.Q i L, O := upd S.O i x.1 } := by unfold passQ; rw [HQ.out]; rfl
      rw [this]; exact hv
    have e16 : w2.cell? ⟨a, 16, none⟩ = some (.slice (some ⟨g, 0, none⟩) n k) := by
      have hne : a ≠ p := by
        intro e
        obtain ⟨cs, _, _, h7, _⟩ := HH.out.ha
        rw [e] at h7
        exact (HL.out.type (e := 66) (by decide)) _ _ h7
      exact (World.cell?_of_block (w := w) (ho.block a HH.out.lt hne)).trans c16
    have hal := (Below.refl w2.heap.size w2).alloc (Nat.le_refl _) (.cells #[.int .i64 x.1, .int .i64 x.2] 82)
    have h3 := h2.below hal
    obtain ⟨_, _, e2, _⟩ := h3.cells HI.out
    have e16 := (hal.cell (p := ⟨a, 16, none⟩) (block_lt_of_cell e16)).trans e16
    have ez := h3.fzg (Nat.lt_of_le_of_lt (Nat.zero_le _) HI.out) (i * 4 + 2)
    have h4 := hp2 _ (h3.setO HI.out x.1)
    have HD : OnS (Zp a g q S.n) w (w2.alloc (.cells #[.int .i64 x.1, .int .i64 x.2] 82)) := HD2.trans (.of_below hal)
    have HD := Lib.hid (HD.trans (.at_ (p := g) ((Only.refl g _).setCell (q := ⟨g, i * 4 + 2, none⟩) (.inl rfl) (.int .i64 x.1)) (.inr (.inl ⟨Nat.lt_of_le_of_lt (Nat.zero_le _) HI.out, rfl⟩))))
    have H4 := Lib.hid h4
    clear HD2 h2 hp2 hal h3 h4 hq c16 d2 d3 hz2 HR HL HG HQ
    go_wp2_with fail
    refine (settle_any a g q (passQ S i) _ H4.out HQF.out).mono ?_
    rintro e w5 ⟨rfl, h5, hb5⟩
    have H5 := Lib.hid h5
    have HB5 := Lib.hid (HD.out.trans hb5)
    obtain ⟨_, _, e5, _⟩ := h5.cells (S := settle (passQ S i)) HI.out
    rw [HE6.out] at e5
    clear h5 hb5 e2 e16 ez
    go_wp2
    go_ret
    exact ⟨rfl, H5.out, HB5.out⟩

set_option maxHeartbeats 1600000 in
theorem unlock_any (a g : Nat) (q : Nat → Nat) (S S' : St) (m t r c : Int) (w : World) (h : Mx w a g q S) (hf : Fine S) (hs : unlk S m t = (S', r, c)) :
    Calls Try.prog 18 #[PtrV a, .int .i64 m, .int .i64 t] w fun e w' => e = .returned (.tuple #[.int .i64 r, .int .i64 c]) ∧ Did w a g q S.n S' w' := by
  unfold unlk at hs
  by_cases c1 : isM S m
  · have HM := Lib.hid (isMutex_any a g q S m w h true (decide_eq_true c1))
    by_cases c2 : isT t
    · have HT := Lib.hid (isTask_any t w true (decide_eq_true c2))
      rw [if_neg (fun e => e ⟨c1, c2⟩)] at hs
      have HO := Lib.hid (owner_any a g q S m w h _ (by unfold owns; rw [if_pos c1]))
      by_cases c3 : S.O (ix m) = t
      · rw [if_neg (fun e => e c3)] at hs
        simp only [Prod.mk.injEq] at hs
        obtain ⟨rfl, rfl, rfl⟩ := hs
        have HP := Lib.hid (pass_any a g q S m w h hf c1 _ rfl)
        rw [c3] at HO
        have te : (t != t) = false := by simp
        clear h hf c1 c2 c3
        generalize passS S (ix m) = S2 at *
        generalize fst (S.Q (ix m)) = r at *
        go_enter Try.func18, Try.ntmps18
        go_wp2_with fail
        refine HM.out.mono ?_
        rintro e w1 ⟨rfl, rfl⟩
        go_wp2_with fail
        refine HT.out.mono ?_
        rintro e w1 ⟨rfl, rfl⟩
        go_wp2_with fail
        refine HO.out.mono ?_
        rintro e w1 ⟨rfl, rfl⟩
        go_wp2_with fail
        refine HP.out.mono ?_
        rintro e w1 ⟨rfl, hd⟩
        go_wp2
        go_ret2
        exact ⟨rfl, hd⟩
      · rw [if_pos c3] at hs
        simp only [Prod.mk.injEq] at hs
        obtain ⟨rfl, rfl, rfl⟩ := hs
        have te : (S.O (ix m) != t) = true := by simpa using c3
        have HH := Lib.hid h
        clear h hf c1 c2 c3
        generalize S.O (ix m) = o at *
        go_enter Try.func18, Try.ntmps18
        go_wp2_with fail
        refine HM.out.mono ?_
        rintro e w1 ⟨rfl, rfl⟩
        go_wp2_with fail
        refine HT.out.mono ?_
        rintro e w1 ⟨rfl, rfl⟩
        go_wp2_with fail
        refine HO.out.mono ?_
        rintro e w1 ⟨rfl, rfl⟩
        go_wp2
        go_ret2
        exact ⟨rfl, HH.out, OnS.refl _ _⟩
    · have HT := Lib.hid (isTask_any t w false (decide_eq_false c2))
      rw [if_pos (fun e => c2 e.2)] at hs
      simp only [Prod.mk.injEq] at hs
      obtain ⟨rfl, rfl, rfl⟩ := hs
      have HH := Lib.hid h
      clear h hf c1 c2
      go_enter Try.func18, Try.ntmps18
      go_wp2_with fail
      refine HM.out.mono ?_
      rintro e w1 ⟨rfl, rfl⟩
      go_wp2_with fail
      refine HT.out.mono ?_
      rintro e w1 ⟨rfl, rfl⟩
      go_wp2
      go_ret2
      exact ⟨rfl, HH.out, OnS.refl _ _⟩
  · have HM := Lib.hid (isMutex_any a g q S m w h false (decide_eq_false c1))
    rw [if_pos (fun e => c1 e.1)] at hs
    simp only [Prod.mk.injEq] at hs
    obtain ⟨rfl, rfl, rfl⟩ := hs
    have HH := Lib.hid h
    clear h hf c1
    go_enter Try.func18, Try.ntmps18
    go_wp2_with fail
    refine HM.out.mono ?_
    rintro e w1 ⟨rfl, rfl⟩
    go_wp2
    go_ret2
    exact ⟨rfl, HH.out, OnS.refl _ _⟩

set_option maxHeartbeats 1600000 in
theorem drop_any (a g : Nat) (q : Nat → Nat) (S S' : St) (t : Int) (r : Bool) (w : World) (h : Mx w a g q S) (hf : Fine S) (hs : drp S t = (S', r)) :
    Calls Try.prog 22 #[PtrV a, .int .i64 t] w fun e w' => e = .returned (.bool r) ∧ Did w a g q S.n S' w' := by
  unfold drp at hs
  have HW := Lib.hid (waits_any a g q S t w h hf.toFine0 _ rfl)
  by_cases c : fi S t < S.n
  · rw [if_pos c] at hs HW
    simp only [Prod.mk.injEq] at hs
    obtain ⟨rfl, rfl⟩ := hs
    obtain ⟨i, hi⟩ : ∃ i, fi S t = i := ⟨_, rfl⟩
    rw [hi] at c HW ⊢
    have t0 : (((i + 1 : Nat) : Int) == 0) = false := by simp; omega
    have tm : ((i + 1 : Nat) : Int) - 1 = (i : Int) := by omega
    obtain ⟨X, k, c16, hk1, hk2, hX⟩ := h.row
    obtain rfl := hX (by omega)
    have hn8 := hf.n8
    have HH := Lib.hid h
    have HF := Lib.hid hf
    have HI := Lib.hid c
    have hin : i < S.n := c
    obtain ⟨n, hn⟩ : ∃ n, S.n = n := ⟨_, rfl⟩
    rw [hn] at c16 hin hk1 hn8
    clear h hf c hi hX hn
    generalize ((i + 1 : Nat) : Int) = m at *
    go_enter Try.func22, Try.ntmps22
    go_wp2_with fail
    refine HW.out.mono ?_
    rintro e w1 ⟨rfl, hb⟩
    have h1 := HH.out.below hb
    have e16 := (hb.cell (p := ⟨a, 16, none⟩) (block_lt_of_cell c16)).trans c16
    obtain ⟨_, _, _, d3⟩ := h1.cells HI.out
    obtain ⟨p, hp⟩ : ∃ p, q i = p := ⟨_, rfl⟩
    have HPQ := Lib.hid hp
    rw [hp] at d3
    have H1 := Lib.hid h1
    have HB := Lib.hid hb
    clear h1 hb c16 hp
    go_wp2_with fail
    refine (remove_to p 87 (S.bp i) (S.Q i) _ _ w1 (by have := H1.out.hl i HI.out; rw [HPQ.out] at this; exact this) (HF.out.gd i HI.out).len t rfl rfl).mono ?_
    rintro e w2 ⟨rfl, hl2, ho⟩
    generalize decide (pos (S.Q i) t < (S.Q i).length) = dd at *
    have h2 : Mx w2 a g q (outQ S i t) := H1.out.turn HI.out (by rw [HPQ.out]; exact ho) (by rw [HPQ.out]; exact hl2)
    have H2 := Lib.hid h2
    have HB2 : OnS (Zp a g q S.n) w w2 := (OnS.of_below HB.out).trans (.at_ ho (by rw [← HPQ.out]; exact zq HI.out))
    have HB2 := Lib.hid HB2
    clear hl2 ho h2 d3 e16
    go_wp2_with fail
    refine (settle_any a g q (outQ S i t) _ H2.out (HF.out.outQ i t).1).mono ?_
    rintro e w5 ⟨rfl, h5, hb5⟩
    have HB5 := Lib.hid (HB2.out.trans hb5)
    have H5 := Lib.hid h5
    clear h5 hb5
    go_wp2
    go_ret
    exact ⟨rfl, H5.out, HB5.out⟩
  · rw [if_neg c] at hs HW
    simp only [Prod.mk.injEq] at hs
    obtain ⟨rfl, rfl⟩ := hs
    have HH := Lib.hid h
    clear h hf c
    go_enter Try.func22, Try.ntmps22
    go_wp2_with fail
    refine HW.out.mono ?_
    rintro e w1 ⟨rfl, hb⟩
    have HB := Lib.hid hb
    clear hb
    go_wp2
    go_ret
    exact ⟨rfl, HH.out.below HB.out, .of_below HB.out⟩
end Go.Proofs.Ytmicinenggkmlaa
