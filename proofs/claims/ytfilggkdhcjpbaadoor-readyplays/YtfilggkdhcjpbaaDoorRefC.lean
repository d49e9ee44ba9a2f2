/- The document's own ready tasks: Add, Remove, Change. -/
import Derived.Test.YtfilggkdhcjpbaaDoorRefB
namespace Go.Proofs.YtfilggkdhcjpbaaDoor
open Go.RowKit

/-- Add -/
theorem dadd_any (q : Nat) (S : St) (x a : Int) (w : World) (h : Rf w q S) (c : Int) (hc : S.addC x a = c) :
    Calls Tryd.prog 11 #[.pointer (some ⟨q, 0, none⟩), .int .i64 x, .int .i64 a] w fun e w' => e = .returned (.int .i64 c) ∧ Rf w' q (S.add x a) ∧ Only q w w' := by
  subst hc
  unfold St.addC St.add
  by_cases c1 : x < 1
  · have hx : ¬ inR x := fun h => by have := h.1; omega
    rw [if_neg fun h => hx h.1, if_neg fun h => hx h.1]
    have t1 : decide (x < 1) = true := by simpa using c1
    clear hx
    go_enter Tryd.func11, Tryd.ntmps11
    go_wp2
    go_ret
    exact ⟨rfl, h, Only.refl _ _⟩
  have t1 : decide (x < 1) = false := by simpa using c1
  by_cases c2 : 16 < x
  · have hx : ¬ inR x := fun h => by have := h.2; omega
    rw [if_neg fun h => hx h.1, if_neg fun h => hx h.1]
    have t2 : decide (16 < x) = true := by simpa using c2
    clear hx
    go_enter Tryd.func11, Tryd.ntmps11
    go_wp2
    go_ret
    exact ⟨rfl, h, Only.refl _ _⟩
  have t2 : decide (16 < x) = false := by simpa using c2
  have hx : inR x := ⟨by omega, by omega⟩
  by_cases ha : inR a
  · rw [if_pos ⟨hx, ha⟩]
    by_cases h0 : S.P x = 0
    · rw [if_pos h0, if_pos ⟨hx, ha, h0⟩]
      obtain ⟨t, rfl, _, _⟩ := inR_nat hx
      obtain ⟨b, rfl, hb1, hb2⟩ := inR_nat ha
      exact radd_in q b t S w h hb1 hb2 hx h0
    · rw [if_neg h0, if_neg fun h => h0 h.2.2]
      have HG := Lib.hid (rgood_any a w true (decide_eq_true ha))
      have HP := Lib.hid (rpri_any q S x w h _ rfl)
      have t3 : decide ((0 : Int) < (S.P x : Int)) = true := by simp; omega
      have t4 : decide (0 < S.P x) = true := by simp; omega
      clear c1 c2 hx ha h0
      generalize S.P x = n at *
      go_enter Tryd.func11, Tryd.ntmps11
      go_wp2_with fail
      refine HG.out.mono ?_
      rintro e w1 ⟨rfl, rfl⟩
      go_wp2_with fail
      refine HP.out.mono ?_
      rintro e w1 ⟨rfl, rfl⟩
      go_wp2
      go_ret
      exact ⟨rfl, h, Only.refl _ _⟩
  · rw [if_neg fun h => ha h.2, if_neg fun h => ha h.2.1]
    have HG := Lib.hid (rgood_any a w false (decide_eq_false ha))
    clear c1 c2 hx ha
    go_enter Tryd.func11, Tryd.ntmps11
    go_wp2_with fail
    refine HG.out.mono ?_
    rintro e w1 ⟨rfl, rfl⟩
    go_wp2
    go_ret
    exact ⟨rfl, h, Only.refl _ _⟩

set_option maxHeartbeats 1600000 in
theorem rremove_in (q a : Nat) (x : Int) (S : St) (w : World) (h : Rf w q S) (hP : S.P x = a) (ha1 : 1 ≤ a) :
    Calls Tryd.prog 13 #[.pointer (some ⟨q, 0, none⟩), .int .i64 x] w fun e w' => e = .returned (.bool true) ∧ Rf w' q (S.del x) ∧ Only q w w' := by
  have ha2 : a ≤ 16 := by rw [← hP]; exact h.1.le x
  have HP := Lib.hid (rpri_any q S x w h a hP)
  have HG := Lib.hid (h.1.del x)
  have HRO : Hid (∀ b, b ≠ a → (S.del x).R b = S.R b) := Lib.hid fun b hb => filter_id fun h1 => hb (((h.1.mem b x).1 h1).2.symm.trans hP)
  have HRA : Hid ((S.del x).R a = (S.R a).filter (· != x)) := Lib.hid rfl
  obtain ⟨n, hnn⟩ : ∃ n, (S.R a).length = n := ⟨_, rfl⟩
  have hl := h.1.len a
  rw [hnn] at hl
  have HH := Lib.hid h
  have HNN := Lib.hid hnn
  have hai : (a : Int) < 17 := by omega
  have t1 : ((a : Int) == 0) = false := by simp; omega
  obtain ⟨X, k, c1, hsl⟩ := h.row ha2
  rw [hnn] at c1
  have HC := Lib.hid c1
  have HSL := Lib.hid hsl
  clear h hnn hP c1 hsl
  generalize S.del x = S' at *
  go_enter Tryd.func13, Tryd.ntmps13
  go_wp2_with fail
  refine HP.out.mono ?_
  rintro e w1 ⟨rfl, rfl⟩
  go_wp2
  go_loopw [6, 7] (fun l v wr => ∃ t : Nat, t ≤ n ∧ v = .int .i64 (t : Int) ∧ wr.ownsRow w.heap.size 3 1 l (((S.R a).take t).filter (· != x)).length (vals (((S.R a).take t).filter (· != x))) ∧ Below w.heap.size w wr) (fun _ v _ => n - (intOf v).toNat)
  case atStart => exact ⟨0, Nat.zero_le _, rfl, own_nil _ _, Below.refl _ _⟩
  case round =>
    obtain ⟨t, ht, rfl, hown, hb⟩ := hrel
    have c1 : wr.cell? ⟨q, a, none⟩ = some (.slice X n k) := (hb.cell (p := ⟨q, a, none⟩) HH.out.lt).trans HC.out
    by_cases hlt : t < n
    · have hti : (t : Int) < (n : Int) := by omega
      obtain ⟨y, hy⟩ : ∃ y, (S.R a)[t]? = some y := ⟨_, List.getElem?_eq_getElem (by rw [HNN.out]; exact hlt)⟩
      obtain ⟨b, o, rfl, _, hc⟩ := (HSL.out.below hb).at_ (by rw [HNN.out]; omega)
      have c2 := hc t y hy
      have e0 : ((S.R a).take (t + 1)).filter (· != x) = ((S.R a).take t).filter (· != x) ++ [y].filter (· != x) := by rw [List.take_add_one, hy, List.filter_append]; rfl
      have hlen : (((S.R a).take t).filter (· != x)).length ≤ 16 := by
        have h1 := List.length_filter_le (· != x) ((S.R a).take t)
        have h2 := List.length_take_le t (S.R a)
        omega
      by_cases he : y = x
      · have te : (y != x) = false := by simpa using he
        have e1 : ((S.R a).take (t + 1)).filter (· != x) = ((S.R a).take t).filter (· != x) := by rw [e0, List.filter_cons_of_neg (by simp [he])]; simp
        have HE := Lib.hid e1
        have HOWN := Lib.hid hown
        clear hc hy e0 e1 he hown
        go_wp2
        go_roundw
        case rel => exact ⟨t + 1, by omega, by go_num, by rw [HE.out]; exact HOWN.out, hb⟩
        case measure => simp [intOf]; omega
      · have te : (y != x) = true := by simpa using he
        have e1 : ((S.R a).take (t + 1)).filter (· != x) = ((S.R a).take t).filter (· != x) ++ [y] := by rw [e0, List.filter_cons_of_pos (by simpa using he)]; rfl
        have HE := Lib.hid e1
        have hsz := hb.size
        have hb' := hb.alloc hsz (.cells #[.int .i64 y] 3)
        have hsz2 := hb'.size
        clear hc hy e0 e1 he
        generalize ((S.R a).take t).filter (· != x) = D at *
        go_wp2_with (at_builtin; refine wpList_append_row rfl _ _ rfl w.heap.size _ D [y] D.length rfl rfl (hown.alloc _) _ 1 1 rfl rfl (sr_one wr y) (by omega) hsz2 (D.length + 1) rfl ?_; intro Z j w2 hown2 hgrow)
        have hb2 := own_below hb' (Nat.le_refl _) (hown.alloc _) hgrow
        clear hgrow hown hb hb' c1 c2
        go_roundw
        case rel => exact ⟨t + 1, by omega, by go_num, by rw [HE.out, List.length_append]; exact hown2, hb2⟩
        case measure => simp [intOf]; omega
    · obtain rfl : t = n := by omega
      rw [List.take_of_length_le (by rw [HNN.out]; exact Nat.le_refl _), ← HRA.out] at hown
      have hf := (HH.out.below hb).frozen a
      obtain ⟨Y, j, rfl, hs⟩ := own_sl rfl hown
      have HS := Lib.hid hs
      have HB := Lib.hid hb
      clear hown hs hb
      obtain ⟨m, hm⟩ : ∃ m, (S'.R a).length = m := ⟨_, rfl⟩
      rw [hm]
      have HM := Lib.hid hm
      clear hm
      go_wp2
      go_ret
      exact ⟨rfl, (HH.out.below HB.out).set HG.out ha2 HRO.out Y m j HM.out HS.out, (Only.of_below HB.out).setCell (q := ⟨q, a, none⟩) (.inl rfl) _⟩

/-- Remove -/
theorem dremove_any (q : Nat) (S : St) (x : Int) (w : World) (h : Rf w q S) (r : Bool) (hr : decide (S.P x ≠ 0) = r) :
    Calls Tryd.prog 13 #[.pointer (some ⟨q, 0, none⟩), .int .i64 x] w fun e w' => e = .returned (.bool r) ∧ Rf w' q (S.del x) ∧ Only q w w' := by
  subst hr
  by_cases h0 : S.P x = 0
  · rw [h.1.del0 h0, decide_eq_false (by simp [h0])]
    have HP := Lib.hid (rpri_any q S x w h 0 h0)
    clear h0
    go_enter Tryd.func13, Tryd.ntmps13
    go_wp2_with fail
    refine HP.out.mono ?_
    rintro e w1 ⟨rfl, rfl⟩
    go_wp2
    go_ret
    exact ⟨rfl, h, Only.refl _ _⟩
  · rw [decide_eq_true h0]
    exact rremove_in q _ x S w h rfl (by omega)

/-- Change -/
theorem dchange_any (q : Nat) (S : St) (x a : Int) (w : World) (h : Rf w q S) (r : Bool) (hr : decide (inR a ∧ S.P x ≠ 0) = r) :
    Calls Tryd.prog 15 #[.pointer (some ⟨q, 0, none⟩), .int .i64 x, .int .i64 a] w fun e w' => e = .returned (.bool r) ∧ Rf w' q (S.chg x a) ∧ Only q w w' := by
  subst hr
  unfold St.chg
  by_cases ha : inR a
  · have HP := Lib.hid (rgood_any a w true (by simpa using ha))
    by_cases h0 : S.P x = 0
    · have HR := Lib.hid (dremove_any q S x w h false (by simp [h0]))
      rw [if_neg fun h => h.2 h0, decide_eq_false fun h => h.2 h0]
      rw [h.1.del0 h0] at HR
      clear h ha h0
      go_enter Tryd.func15, Tryd.ntmps15
      go_wp2_with fail
      refine HP.out.mono ?_
      rintro e w' ⟨rfl, rfl⟩
      go_wp2_with fail
      refine HR.out.mono ?_
      rintro e w' ⟨rfl, hq1, ho1⟩
      go_wp2
      go_ret
      exact ⟨rfl, hq1, ho1⟩
    · have HR := Lib.hid (dremove_any q S x w h true (by simp [h0]))
      rw [if_pos ⟨ha, h0⟩, decide_eq_true ⟨ha, h0⟩]
      have hx := h.1.dom x h0
      have e1 : (S.del x).add x a = (S.del x).put x a.toNat := if_pos ⟨hx, ha, del_P S _⟩
      have HE := Lib.hid (fun w1 (h1 : Rf w1 q (S.del x)) => dadd_any q (S.del x) x a w1 h1 _ rfl)
      rw [e1] at HE
      clear h ha h0 hx e1
      go_enter Tryd.func15, Tryd.ntmps15
      go_wp2_with fail
      refine HP.out.mono ?_
      rintro e w' ⟨rfl, rfl⟩
      go_wp2_with fail
      refine HR.out.mono ?_
      rintro e w1 ⟨rfl, hq1, ho1⟩
      go_wp2_with fail
      refine (HE.out w1 hq1).mono ?_
      rintro e w2 ⟨rfl, hq2, ho2⟩
      go_wp2
      go_ret
      exact ⟨rfl, hq2, ho1.trans ho2⟩
  · rw [if_neg fun h => ha h.1, decide_eq_false fun h => ha h.1]
    have HP := Lib.hid (rgood_any a w false (by simpa using ha))
    clear ha
    go_enter Tryd.func15, Tryd.ntmps15
    go_wp2_with fail
    refine HP.out.mono ?_
    rintro e w' ⟨rfl, rfl⟩
    go_wp2
    go_ret
    exact ⟨rfl, h, Only.refl _ _⟩
end Go.Proofs.YtfilggkdhcjpbaaDoor
