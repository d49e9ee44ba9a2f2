/- The document's mutexes: IDs, round. -/
import Derived.Test.YtmicinenggkmlaaRmA
namespace Go.Proofs.Ytmicinenggkmlaa
open Go.RowKit
set_option linter.unusedVariables false
set_option maxRecDepth 100000

set_option maxHeartbeats 1600000 in
theorem rids_any (p : Nat) (b : Bool) (M : List It) (w : World) (h : Rq w p b M) (hn : M.length ≤ 16) :
    Calls Try.prog 59 #[PtrV p] w fun e w' => ∃ v, e = .returned v ∧ Ow w' w.heap.size v (M.map Prod.fst) ∧ Below w.heap.size w w' := by
  obtain ⟨N, hN⟩ : ∃ N, M.length = N := ⟨_, rfl⟩
  have HN := Lib.hid hN
  have HH := Lib.hid h
  rw [hN] at hn
  clear h hN
  go_enter Try.func59, Try.ntmps59
  go_wp2
  go_loopw [4, 3] (fun i r wr => ∃ (t : Nat) (vo : Value), t ≤ N ∧ i = .int .i64 (t : Int) ∧ r = vo ∧ Ow wr w.heap.size vo ((M.take t).map Prod.fst) ∧ Below w.heap.size w wr) (fun i _ _ => N - (intOf i).toNat)
  case atStart => exact ⟨0, _, Nat.zero_le _, rfl, rfl, ow_nil _ _, Below.refl _ _⟩
  case round =>
    obtain ⟨t, vo, ht, rfl, rfl, hown, hb⟩ := hrel
    obtain ⟨X1, k1, rfl, _, _⟩ := K.own_form hown
    have HO := Lib.hid hown
    have HB := Lib.hid hb
    have hq := HH.out.below hb
    obtain ⟨XQ, kq, c0, c1, hs, hk1, hk2, _⟩ := hq.open
    rw [HN.out] at c1 hs hk1
    by_cases hlt : t < N
    · obtain ⟨x, hx⟩ : ∃ x, M[t]? = some x := ⟨_, List.getElem?_eq_getElem (by rw [HN.out]; exact hlt)⟩
      obtain ⟨g1, o1, rfl, hc⟩ := sl_open hs (by rw [HN.out]; omega)
      obtain ⟨e0, e1⟩ := hc t x hx
      have HX := Lib.hid hx
      have hl8 : ((M.take t).map Prod.fst).length = t := by rw [List.length_map, List.length_take, HN.out]; omega
      have HL := Lib.hid hl8
      rw [hl8]
      obtain ⟨wb, hwb⟩ : ∃ wb, wr.alloc (.cells #[.int .i64 x.1] 3) = wb := ⟨_, rfl⟩
      have HBB := Lib.hid (show Below wr.heap.size wr wb by rw [← hwb]; exact (Below.refl _ _).alloc (Nat.le_refl _) _)
      have src := K.sr_one K.ci wr 3 x.1
      rw [show (K.ci x.1).toArray = #[.int .i64 x.1] from rfl, hwb] at src
      have hownb := K.own_below HO.out HBB.out
      rw [HL.out] at hownb
      have hbs : w.heap.size ≤ wb.heap.size := by have := HB.out.size; have := HBB.out.size; omega
      have HBS := Lib.hid hbs
      have b2 : t + 1 ≤ 100000 := by omega
      have e2 := Lib.hid (show (M.take (t + 1)).map Prod.fst = (M.take t).map Prod.fst ++ [x.1] by rw [take_snoc HX.out, List.map_append]; rfl)
      generalize (M.take t).map Prod.fst = L at *
      clear hown hb hbs hl8 hx hc hq hs
      go_wp2_with (first
        | (refine K.wpList_append_row K.ki (by decide) rfl _ _ rfl w.heap.size (.slice X1 t k1) L [x.1] t HL.out rfl hownb _ 1 1 rfl rfl src b2 HBS.out (t + 1) rfl ?_
           intro X7 k7 w7 hown7 hgr7
           have HO7 := Lib.hid hown7
           have hb7 : Below w.heap.size w w7 := (HB.out.trans (HBB.out.mono HB.out.size)).grown hgr7 HBS.out (fun k hk => (hownb.lt k hk).1)
           have HB7 := Lib.hid hb7
           clear hown7 hgr7 hb7))
      go_roundw
      case rel => exact ⟨t + 1, _, by omega, by go_num, rfl, by unfold Ow; rw [e2.out, List.length_append, HL.out]; exact HO7.out, HB7.out⟩
      case measure => simp [intOf]; omega
    · have e : t = N := by omega
      have HE := Lib.hid e
      clear hown hb e hq hs
      go_wp2
      go_ret
      refine ⟨_, rfl, ?_, HB.out⟩
      have ht : M.map Prod.fst = (M.take t).map Prod.fst := by rw [List.take_of_length_le (by rw [HN.out, HE.out]; exact Nat.le_refl _)]
      rw [ht]
      exact HO.out

set_option maxHeartbeats 1600000 in
theorem rround_any (m gk go gq : Nat) (r : Nat → Nat) (S : St) (N : Int → Int) (i : Nat) (x t : Int) (w : World) (h : Rx w m gk go gq r S N) (hf : Fine0 S) (hi : i < S.n) (hxi : x = (i : Int)) (ht : t ≠ 0) (b : Bool) (hb : circ S (S.O i) t = b) :
    Calls Try.prog 40 #[PtrV m, .int .i64 x, .int .i64 t] w fun e w' => e = .returned (.bool b) ∧ w = w' := by
  subst hxi
  obtain ⟨_, XO, _, _, kO, _, _, c1, _, hX⟩ := h.rows
  obtain ⟨_, rfl, _⟩ := hX (by omega)
  have d0 := h.own hi
  have hin : i < S.n := hi
  obtain ⟨o0, ho⟩ : ∃ o, S.O i = o := ⟨_, rfl⟩
  rw [ho] at d0 hb
  have HB := Lib.hid hb
  have HF := Lib.hid hf
  have HH := Lib.hid h
  have HT := Lib.hid ht
  obtain ⟨n, hn⟩ : ∃ n, S.n = n := ⟨_, rfl⟩
  have HN := Lib.hid hn
  rw [hn] at c1 hin
  clear hb hf h ht hX ho hi hn
  go_enter Try.func40, Try.ntmps40
  go_wp2
  clear d0
  go_loopw [8, 7] (fun k o wr => ∃ v : Nat, v ≤ 17 ∧ k = .int .i64 (v : Int) ∧ o = .int .i64 (itr S o0 v) ∧ (∀ j, j < v → itr S o0 j ≠ t) ∧ w = wr) (fun k _ _ => 17 - (intOf k).toNat)
  case atStart => exact ⟨0, Nat.zero_le _, rfl, rfl, fun j hj => absurd hj (by omega), rfl⟩
  case round =>
    obtain ⟨v, hv, rfl, rfl, hno, rfl⟩ := hrel
    have HNO := Lib.hid hno
    clear hno
    obtain ⟨o, ho⟩ : ∃ o, itr S o0 v = o := ⟨_, rfl⟩
    have HO := Lib.hid ho
    rw [ho]
    clear ho
    by_cases hlt : v ≤ 16
    · have hlt' : (v : Int) ≤ 16 := by omega
      by_cases c0 : o = 0
      · subst c0
        go_wp2
        go_ret
        refine ⟨?_, rfl⟩
        rw [← HB.out, circ_no fun k _ => ?_]
        · rfl
        · by_cases e : k < v
          · exact HNO.out k e
          · have := itr_zero HF.out HO.out (k - v)
            rw [show v + (k - v) = k by omega] at this
            rw [this]; exact Ne.symm HT.out
      · have t0 : (o != 0) = true := by simpa using c0
        by_cases c2 : o = t
        · subst c2
          have te : (o == o) = true := by simp
          clear c0
          go_wp2
          go_ret
          refine ⟨?_, rfl⟩
          rw [← HB.out, circ_yes hlt HO.out]
          rfl
        · have te : (o == t) = false := by simpa using c2
          have HC2 := Lib.hid c2
          have HW := Lib.hid (rwaits_any m gk go gq r S N o w HH.out HF.out _ rfl)
          have HNX : Hid (itr S o0 (v + 1) = nx S o) := Lib.hid (by rw [← HO.out]; rfl)
          clear c0 c2
          by_cases cf : fi S o < S.n
          · rw [if_pos cf] at HW
            have HNX2 := Lib.hid (show itr S o0 (v + 1) = S.O (fi S o) by rw [HNX.out]; unfold nx; rw [if_pos cf])
            have d1 := HH.out.own cf
            obtain ⟨z, hz⟩ : ∃ z, fi S o = z := ⟨_, rfl⟩
            rw [hz] at HW d1 HNX2 cf
            rw [HN.out] at cf
            obtain ⟨o2, ho2⟩ : ∃ o2, S.O z = o2 := ⟨_, rfl⟩
            rw [ho2] at d1 HNX2
            clear hz ho2 HNX
            have tz : decide ((z : Int) < 0) = false := by simp
            go_wp2_with fail
            refine HW.out.mono ?_
            rintro e w1 ⟨rfl, rfl⟩
            go_wp2
            go_roundw
            case rel =>
              refine ⟨v + 1, by omega, by go_num, by rw [HNX2.out], fun j hj => ?_, trivial⟩
              by_cases e : j = v
              · subst e; rw [HO.out]; exact HC2.out
              · exact HNO.out j (by omega)
            case measure => simp [intOf]; omega
          · rw [if_neg cf] at HW
            have HNX2 := Lib.hid (show itr S o0 (v + 1) = 0 by rw [HNX.out]; unfold nx; rw [if_neg cf])
            clear cf HNX
            go_wp2_with fail
            refine HW.out.mono ?_
            rintro e w1 ⟨rfl, rfl⟩
            go_wp2
            go_ret
            refine ⟨?_, rfl⟩
            rw [← HB.out, circ_no fun k _ => ?_]
            · rfl
            · by_cases e : k < v
              · exact HNO.out k e
              · by_cases e2 : k = v
                · subst e2; rw [HO.out]; exact HC2.out
                · have := itr_zero HF.out HNX2.out (k - (v + 1))
                  rw [show v + 1 + (k - (v + 1)) = k by omega] at this
                  rw [this]; exact Ne.symm HT.out
    · have e : v = 17 := by omega
      subst e
      have tl : decide ((((17 : Nat)) : Int) ≤ 16) = false := by decide
      go_wp2
      go_ret
      refine ⟨?_, rfl⟩
      rw [← HB.out, circ_no fun k hk => HNO.out k (by omega)]
      rfl
end Go.Proofs.Ytmicinenggkmlaa
