/- Contract of package mtx: Twin. -/
import Derived.Test.YtmicinenggkmlaaMtH
import Derived.Deep.MidRow
namespace Go.Proofs.Ytmicinenggkmlaa
open Go.RowKit
set_option linter.unusedVariables false
set_option maxRecDepth 100000

/-- the bases as cells -/
def bcells (f : Int → Int) : List Value := [.int .i64 (f 1), .int .i64 (f 2), .int .i64 (f 3), .int .i64 (f 4), .int .i64 (f 5), .int .i64 (f 6), .int .i64 (f 7), .int .i64 (f 8), .int .i64 (f 9), .int .i64 (f 10), .int .i64 (f 11), .int .i64 (f 12), .int .i64 (f 13), .int .i64 (f 14), .int .i64 (f 15), .int .i64 (f 16)]
theorem bcells_at (f : Int → Int) {u : Nat} (h : u < 16) : (bcells f)[u]? = some (.int .i64 (f ((u : Int) + 1))) := by
  have : u = 0 ∨ u = 1 ∨ u = 2 ∨ u = 3 ∨ u = 4 ∨ u = 5 ∨ u = 6 ∨ u = 7 ∨ u = 8 ∨ u = 9 ∨ u = 10 ∨ u = 11 ∨ u = 12 ∨ u = 13 ∨ u = 14 ∨ u = 15 := by omega
  rcases this with rfl | rfl | rfl | rfl | rfl | rfl | rfl | rfl | rfl | rfl | rfl | rfl | rfl | rfl | rfl | rfl <;> rfl
theorem Mx.bases {w : World} {a g : Nat} {q : Nat → Nat} {S : St} (h : Mx w a g q S) : w.rangeAt a 0 (bcells S.B) := fun j v hj => by
  have hj16 : j < 16 := by have := (List.getElem?_eq_some_iff.1 hj).1; simpa [bcells] using this
  rw [bcells_at _ hj16] at hj
  injection hj with hj
  rw [← hj, Nat.zero_add]
  exact h.base hj16
theorem acells_at (f : Int → Int) {u : Nat} (h : u < 16) : ((bcells f ++ [Value.slice none 0 0]).toArray)[u]? = some (.int .i64 (f ((u : Int) + 1))) := by
  rw [List.getElem?_toArray, List.getElem?_append_left (by simp [bcells]; omega)]
  exact bcells_at f h
theorem und63 : Try.prog.underlying 63 = some (.array (Try.prog.arrayLen 63) (Try.prog.elem 63)) := by kernel_rfl

set_option maxHeartbeats 6400000 in
theorem mtwin_any (a g : Nat) (q : Nat → Nat) (S : St) (w : World) (h : Mx w a g q S) (hf : Fine0 S) :
    Calls Try.prog 27 #[PtrV a] w fun e w' => ∃ (a' g' : Nat) (q' : Nat → Nat), e = .returned (PtrV a') ∧ Mx w' a' g' q' S ∧ w.heap.size ≤ a' ∧ w.heap.size ≤ g' ∧ (∀ i, i < S.n → w.heap.size ≤ q' i) ∧ Below w.heap.size w w' := by
  obtain ⟨X, k, c16, hk1, hk2, hX⟩ := h.row
  have hr := h.bases
  have hn8 := hf.n8
  have HX := Lib.hid hX
  have HH := Lib.hid h
  have hi : (Try.prog.info? 63).map (·.size) = some (bcells S.B).length := by kernel_rfl
  have HU := Lib.hid und63
  unfold bcells at hr hi
  obtain ⟨n, hn⟩ : ∃ n, S.n = n := ⟨_, rfl⟩
  have HN := Lib.hid hn
  rw [hn] at c16 hk1 hn8
  obtain ⟨wa, hwa⟩ : ∃ wa, w.alloc (.cells #[.int .i64 (S.B 1), .int .i64 (S.B 2), .int .i64 (S.B 3), .int .i64 (S.B 4), .int .i64 (S.B 5), .int .i64 (S.B 6), .int .i64 (S.B 7), .int .i64 (S.B 8), .int .i64 (S.B 9), .int .i64 (S.B 10), .int .i64 (S.B 11), .int .i64 (S.B 12), .int .i64 (S.B 13), .int .i64 (S.B 14), .int .i64 (S.B 15), .int .i64 (S.B 16), .slice none 0 0] 66) = wa := ⟨_, rfl⟩
  have hba : Below w.heap.size w wa := by rw [← hwa]; exact (Below.refl _ _).alloc (Nat.le_refl _) _
  have hha : wa.heap[w.heap.size]? = some (.cells #[.int .i64 (S.B 1), .int .i64 (S.B 2), .int .i64 (S.B 3), .int .i64 (S.B 4), .int .i64 (S.B 5), .int .i64 (S.B 6), .int .i64 (S.B 7), .int .i64 (S.B 8), .int .i64 (S.B 9), .int .i64 (S.B 10), .int .i64 (S.B 11), .int .i64 (S.B 12), .int .i64 (S.B 13), .int .i64 (S.B 14), .int .i64 (S.B 15), .int .i64 (S.B 16), .slice none 0 0] 66 (0, 0)) := by rw [← hwa]; exact heap_alloc_new w _
  have c17 := (hba.cell (p := ⟨a, 16, none⟩) (block_lt_of_cell c16)).trans c16
  have HHB : Hid (Hb wa w.heap.size w.heap.size (.slice none 0 0) (fun _ => 0) S 0) := Lib.hid ⟨⟨_, hha, rfl, fun u hu => acells_at S.B hu, rfl⟩, ⟨rfl, .inl ⟨rfl, rfl⟩⟩, fun i hi => absurd hi (by omega), fun i j hi => absurd hi (by omega), Nat.le_refl _⟩
  have HBA := Lib.hid hba
  clear hn hX h hf hba hha
  go_enter Try.func27, Try.ntmps27
  go_wp2_with (first
    | (refine wpList_load_mid rfl 63 (.tmp 8) rfl a 0 rfl _ _ hr HU.out rfl hi ?_))
  have hs0 := HBA.out.size
  obtain ⟨a2, haa⟩ : ∃ a2, w.heap.size = a2 := ⟨_, rfl⟩
  have HAA := Lib.hid haa
  have HH0 := Lib.hid (show Hb wa w.heap.size a2 (.slice none 0 0) (fun _ => 0) S 0 by rw [← haa]; exact HHB.out)
  clear c16 hr hi hwa c17 HHB
  rw [haa]
  go_loopw [17] (fun i wr => ∃ (v : Nat) (vo : Value) (q' : Nat → Nat), v ≤ n ∧ i = .int .i64 (v : Int) ∧ Hb wr w.heap.size a2 vo q' S v ∧ Below w.heap.size w wr) (fun i _ => n - (intOf i).toNat)
  case atStart => exact ⟨0, _, _, Nat.zero_le _, rfl, HH0.out, HBA.out⟩
  case round =>
    obtain ⟨v, vo, q', hv, rfl, hh, hb⟩ := hrel
    obtain ⟨X1, k1, rfl, _, _⟩ := K.own_form hh.ow
    have HB2 := Lib.hid hb
    have HHV := Lib.hid hh
    have HM := Lib.hid (HH.out.below hb)
    by_cases hlt : v < n
    · have hvn : v < S.n := by rw [HN.out]; exact hlt
      have HVN := Lib.hid hvn
      obtain rfl := HX.out (by omega)
      obtain ⟨d0, d1, d2, d3⟩ := HM.out.cells hvn
      obtain ⟨xa, hxa⟩ : ∃ x, S.A v = x := ⟨_, rfl⟩
      obtain ⟨xc, hxc⟩ : ∃ x, S.C v = x := ⟨_, rfl⟩
      obtain ⟨xo, hxo⟩ : ∃ x, S.O v = x := ⟨_, rfl⟩
      obtain ⟨p, hp⟩ : ∃ x, q v = x := ⟨_, rfl⟩
      have HQL := Lib.hid (HM.out.ql hvn hp)
      rw [hxa] at d0
      rw [hxc] at d1
      rw [hxo] at d2
      rw [hp] at d3
      have HXX := Lib.hid (And.intro hxa (And.intro hxc hxo))
      clear hh hb hvn hxa hxc hxo hp
      go_upto_block 1 with fail
      go_cut [17] from 17 to 35 (fun i wx => i = .int .i64 (v : Int) ∧ ∃ (vo : Value) (q' : Nat → Nat), Hb wx w.heap.size a2 vo q' S (v + 1) ∧ Below w.heap.size w wx)
      case first =>
        go_wp2_with fail
        have hal : Below wr.heap.size wr (wr.alloc (.cells #[.int .i64 xa, .int .i64 xc, .int .i64 xo, PtrV p] 70)) := (Below.refl wr.heap.size wr).alloc (Nat.le_refl _) _
        have hbox := heap_alloc_new wr (.cells #[.int .i64 xa, .int .i64 xc, .int .i64 xo, PtrV p] 70)
        refine (twin_ok p (S.bp v) (S.Q v) _ (HQL.out.alloc _)).mono ?_
        rintro e w2 ⟨p2, hp2, rfl, hl2, hb2⟩
        have hbox2 := (hb2.block wr.heap.size (lt_of_heap hbox)).trans hbox
        have hb3 := below_trans hal hb2
        obtain ⟨b3, hb3'⟩ : ∃ b3, wr.heap.size = b3 := ⟨_, rfl⟩
        have hp2' : wr.heap.size ≤ p2 := Nat.le_trans hal.size hp2
        rw [hb3'] at hbox2 ⊢
        have z3 := frozen_of_row w2 b3 3 _ 70 hbox2
        have g3 : w2.cell? ⟨b3, 3, none⟩ = some (PtrV p) := by rw [cell_of_row w2 _ 3 _ 70 (0, 0) hbox2]; rfl
        obtain ⟨w3, hw3⟩ : ∃ w3, w2.setCell ⟨b3, 3, none⟩ (PtrV p2) = w3 := ⟨_, rfl⟩
        have hbox3 : w3.heap[b3]? = some (.cells #[.int .i64 xa, .int .i64 xc, .int .i64 xo, PtrV p2] 70 (0, 0)) := by rw [← hw3]; exact heap_setCell_same w2 b3 3 _ 70 _ hbox2
        have hs3 : ∀ b, b ≠ b3 → w3.heap[b]? = w2.heap[b]? := fun b hb => by rw [← hw3]; exact Below.heap_setCell w2 ⟨b3, 3, none⟩ _ b hb
        have hw23 : Below wr.heap.size w2 w3 := by rw [← hw3]; exact (Below.refl wr.heap.size w2).setCell (p := ⟨b3, 3, none⟩) (by rw [hb3']; exact Nat.le_refl _) _
        have hwr3 : Below wr.heap.size wr w3 := hb3.trans hw23
        have h3 := HHV.out.below hwr3
        have hl3 : Ln w3 p2 87 (S.bp v) (S.Q v) := hl2.keep (hs3 p2 (by
          intro e
          exact hl2.type (e := 70) (by decide) _ _ (e ▸ hbox2)))
        have f0 : w3.cell? ⟨b3, 0, none⟩ = some (.int .i64 xa) := by rw [cell_of_row w3 _ 0 _ 70 (0, 0) hbox3]; rfl
        have f1 : w3.cell? ⟨b3, 1, none⟩ = some (.int .i64 xc) := by rw [cell_of_row w3 _ 1 _ 70 (0, 0) hbox3]; rfl
        have f2 : w3.cell? ⟨b3, 2, none⟩ = some (.int .i64 xo) := by rw [cell_of_row w3 _ 2 _ 70 (0, 0) hbox3]; rfl
        have f3 : w3.cell? ⟨b3, 3, none⟩ = some (PtrV p2) := by rw [cell_of_row w3 _ 3 _ 70 (0, 0) hbox3]; rfl
        have c16 := h3.c16
        obtain ⟨wb, hwb⟩ : ∃ wb, w3.alloc (.cells #[.int .i64 xa, .int .i64 xc, .int .i64 xo, PtrV p2] 70) = wb := ⟨_, rfl⟩
        have hbb : Below w3.heap.size w3 wb := by rw [← hwb]; exact (Below.refl _ _).alloc (Nat.le_refl _) _
        have h7 := h3.below hbb
        have c17 := h7.c16
        have src := K.sr_one K.cm w3 70 (xa, xc, xo, p2)
        rw [show (K.cm (xa, xc, xo, p2)).toArray = #[.int .i64 xa, .int .i64 xc, .int .i64 xo, PtrV p2] from rfl, hwb] at src
        have H7 := Lib.hid h7
        have HL7 := Lib.hid (hl3.below hbb)
        have hown7 := h7.ow
        have HP2 := Lib.hid (show w.heap.size ≤ p2 from Nat.le_trans HB2.out.size hp2')
        have HNE := Lib.hid (show ∀ i, i < v → q' i ≠ p2 from fun i hi e => by
          have h1 := (HHV.out.hl i hi).1.lt
          omega)
        have hbw : w.heap.size ≤ wb.heap.size := Nat.le_trans HB2.out.size (Nat.le_trans hwr3.size hbb.size)
        have HBW := Lib.hid ((HB2.out.trans (hwr3.mono HB2.out.size)).trans (hbb.mono (Nat.le_trans HB2.out.size hwr3.size)))
        have bnd : v + 1 ≤ 100000 := by omega
        clear hal hbox hbox2 hb2 hb3 hl2 hp2 hp2' hbox3 hs3 hw23 hwr3 h3 hl3 hbb h7 HQL HHV HB2 hb3' d0 d1 d2 d3
        go_wp2
        go_region_law (first
          | (refine K.step_append_row K.km (by decide) rfl _ _ rfl w.heap.size (.slice X1 v k1) (rowM S q' v) [(xa, xc, xo, p2)] v (rowM_len _ _ _) rfl hown7 _ 1 1 rfl rfl src bnd hbw (v + 1) rfl ?_
             intro X8 k8 w8 hown8 hgrow8
             have hgrow9 : wb.grownBy w8 (Value.slice X1 v k1).ownBlock := ⟨hgrow8.os, hgrow8.tape, hgrow8.output, hgrow8.size, hgrow8.block⟩
             obtain ⟨cs8, g8, _, _, g16⟩ := (H7.out.grown hgrow9).1
             have c8 : w8.cell? ⟨a2, 16, none⟩ = some (.slice X1 v k1) := (cell_of_row w8 a2 16 cs8 66 (0, 0) g8).trans g16
             have z8 := frozen_of_row w8 a2 16 cs8 66 g8))
        all_goals
          have hrow : (xa, xc, xo, p2) = (S.A v, S.C v, S.O v, p2) := by rw [HXX.out.1, HXX.out.2.1, HXX.out.2.2]
          rw [hrow] at hown8
          have HST := Lib.hid (H7.out.step HL7.out HP2.out HNE.out hgrow9 hown8)
          have HB8 := Lib.hid (((HBW.out.grown hgrow9 hbw (fun k hk => (hown7.lt k hk).1)).setCell (p := ⟨a2, 16, none⟩) (by rw [HAA.out]; exact Nat.le_refl _) (.slice X8 (v + 1) k8)))
          go_wp2
          go_meet
          exact ⟨rfl, _, _, HST.out, HB8.out⟩
      case rest =>
        obtain ⟨rfl, vo2, q2, hst, hb8⟩ := hcut
        have HST := Lib.hid hst
        have HB8 := Lib.hid hb8
        clear hst hb8 d0 d1 d2 d3
        go_wp2
        go_roundw
        case rel => exact ⟨v + 1, _, _, by omega, by go_num, HST.out, HB8.out⟩
        case measure => simp [intOf]; omega
    · have e : v = n := by omega
      subst e
      clear hh hb
      go_wp2
      go_ret
      have hx := HHV.out
      rw [← HN.out] at hx
      obtain ⟨g', hmx, hgB⟩ := hx.mx
      exact ⟨a2, g', q', rfl, hmx, by rw [HAA.out]; exact Nat.le_refl _, hgB, fun i hi => (hx.hl i hi).2, HB2.out⟩
end Go.Proofs.Ytmicinenggkmlaa
