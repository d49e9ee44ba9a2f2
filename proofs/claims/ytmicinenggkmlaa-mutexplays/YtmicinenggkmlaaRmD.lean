/- The document's mutexes: settle. -/
import Derived.Test.YtmicinenggkmlaaRmB
import Derived.Test.YtmicinenggkmlaaRmC
import Derived.Test.YtmicinenggkmlaaMtC
import Derived.Great.BuildSlice
namespace Go.Proofs.Ytmicinenggkmlaa
open Go.RowKit
set_option linter.unusedVariables false
set_option maxRecDepth 100000

/-- cells laid into others from O on -/
def lay (cur : Array Value) (O : Nat) (cs : List Value) : Array Value := (cur.toList.take O ++ cs ++ cur.toList.drop (O + cs.length)).toArray
theorem lay_size {cur : Array Value} {O : Nat} {cs : List Value} (h : O + cs.length ≤ cur.size) : (lay cur O cs).size = cur.size := by unfold lay; simp; omega
theorem lay_in {cur : Array Value} {O : Nat} {cs : List Value} (h : O + cs.length ≤ cur.size) {i : Nat} (hi : i < cs.length) : (lay cur O cs)[O + i]? = cs[i]? := by
  unfold lay
  rw [List.getElem?_toArray, List.append_assoc, List.getElem?_append_right (by simp; omega), List.getElem?_append_left (by simp; omega)]
  congr 1; simp; omega
theorem lay_out {cur : Array Value} {O : Nat} {cs : List Value} (h : O + cs.length ≤ cur.size) {i : Nat} (hi : i < O ∨ O + cs.length ≤ i) : (lay cur O cs)[i]? = cur[i]? := by
  unfold lay
  rw [List.getElem?_toArray, List.append_assoc]
  rcases hi with hi | hi
  · rw [List.getElem?_append_left (by simp; omega), List.getElem?_take, if_pos hi, Array.getElem?_toList]
  · rw [List.getElem?_append_right (by simp; omega), List.getElem?_append_right (by simp; omega), List.getElem?_drop, Array.getElem?_toList]
    congr 1; simp; omega
theorem run_storeVar_in (w : World) (g o : Nat) (t ty : TypeId) (cur : Array Value) (cs : List Value) (hg : w.heap[g]? = some (.cells cur t (0, 0))) (hfit : o + cs.length ≤ cur.size)
    (hi : (Try.prog.info? ty).map (·.size) = some cs.length) (h1 : ∀ u ∈ cs, u.oneCell' = true) :
    (storeVar ty ⟨g, o, none⟩ (.agg cs.toArray)).run Try.prog w = .ok () (w.setRow g (lay cur o cs)) := by
  have := run_storeCells_at Try.prog g o t cs 0 cur w hg (by simpa using hfit) h1
  cases hq : Try.prog.info? ty with
  | none => simp [hq] at hi
  | some i =>
    have hs : cs.length = i.size := by simp [hq] at hi; omega
    simp only [Nat.add_zero] at this
    simp [storeVar, sizeOf, typeInfo, hq, Value.cells, hs, this, lay]
theorem wpList_store_in {ops : Array Oper} {rest : List Oper} {op : Oper} {a : Act} {w : World} {Q : Exit → Act → World → Prop} (hgd : op.guard = none) (ty : TypeId) (x y : Operand) (ho : op.op = .store ty x y)
    (g o : Nat) (cs : List Value) (hx : a.eval x = .pointer (some ⟨g, o, none⟩)) (hy : a.eval y = .agg cs.toArray) (t : TypeId) (cur : Array Value)
    (hg : w.heap[g]? = some (.cells cur t (0, 0))) (hfit : o + cs.length ≤ cur.size) (hi : (Try.prog.info? ty).map (·.size) = some cs.length) (h1 : ∀ u ∈ cs, u.oneCell' = true)
    (h : ∀ w', w'.heap[g]? = some (.cells (lay cur o cs) t (0, 0)) → Only g w w' → wpList Try.prog ops Q rest (a.put op.dst undef) w') : wpList Try.prog ops Q (op :: rest) a w :=
  wpList_plain hgd fun _ hK => by
    unfold Oper.wp execOp
    simp only [ho, hx, hy, Instr.storeAt, Instr.sureAddr, Sem.run_bind, Sem.run_pure, Result.andThen_ok, run_storeVar_in w g o t ty cur cs hg hfit hi h1]
    exact hK _ _ (h _ (setRow_heap _ _ _ _ _ _ hg) ⟨rfl, rfl, rfl, by simp [World.setRow], fun k _ h1 => setRow_other w g k _ h1⟩)


theorem und72 : Try.prog.underlying 72 = some (.array (Try.prog.arrayLen 72) (Try.prog.elem 72)) := by kernel_rfl
theorem info72 : (Try.prog.info? 72).map (·.size) = some 17 := by kernel_rfl
theorem rchange_to (p : Nat) (b : Bool) (L L' : List It) (c : Bool) (w : World) (hl : Rq w p b L) (hg : Good b L) (id pri : Int) (hC : chgOk L id pri = c) (hL : chgL b L id pri = L') :
    Calls Try.prog 70 #[.pointer (some ⟨p, 0, none⟩), .int .i64 id, .int .i64 pri] w fun e w' => e = .returned (.bool c) ∧ Rq w' p b L' ∧ Only p w w' := by
  subst hC hL; exact rchange_any p b L w hl hg id pri
/-- all seventeen 'now' laid into the block -/
theorem Rx.setN {w w' : World} {m gk go gq : Nat} {r : Nat → Nat} {S : St} {N N' : Int → Int} (h : Rx w m gk go gq r S N) {cs ns : Array Value} (hc : w.heap[m]? = some (.cells cs 74 (0, 0))) (hn : ns.size = 17) (hv : ∀ u : Nat, u < 17 → ns[u]? = some (.int .i64 (if u = 0 then 0 else N' (u : Int))))
    (hw : w'.heap[m]? = some (.cells (lay cs 20 ns.toList) 74 (0, 0))) (k : Only m w w') : Rx w' m gk go gq r S N' := by
  obtain ⟨cs0, XK, XO, XQ, kK, kO, kQ, h1, h2, h3, h4, h5, h6, h7, h8⟩ := h.ha
  have e : cs0 = cs := by rw [hc] at h1; injection h1 with h1; injection h1 with h1; exact h1.symm
  subst e
  have hl : ns.toList.length = 17 := by simpa using hn
  have hf : 20 + ns.toList.length ≤ cs0.size := by omega
  have ht : ∀ (b : Nat) (cs : Array Value) (e : TypeId), w.heap[b]? = some (.cells cs e (0, 0)) → e ≠ 74 → w'.heap[b]? = w.heap[b]? := fun b cs e hb he => k.block b (lt_of_heap hb) (by
    rintro rfl; exact he (htype hb h1))
  refine ⟨⟨_, XK, XO, XQ, kK, kO, kQ, hw, (lay_size hf).trans h2, (lay_out hf (.inl (by omega))).trans h3, (lay_out hf (.inl (by omega))).trans h4, (lay_out hf (.inl (by omega))).trans h5, h6, fun u hu => (lay_out hf (.inl (by omega))).trans (h7 u hu), fun u hu => ?_⟩, fun h0 => ?_, fun h0 => ?_, fun h0 => ?_, fun j hj => ?_, h.inj⟩
  · rw [lay_in hf (by omega), Array.getElem?_toList]; exact hv u hu
  · obtain ⟨ds, h3, h4⟩ := h.hk h0; exact ⟨ds, (ht _ _ _ h3 (by decide)).trans h3, h4⟩
  · obtain ⟨ds, h3, h4⟩ := h.ho h0; exact ⟨ds, (ht _ _ _ h3 (by decide)).trans h3, h4⟩
  · obtain ⟨ds, h3, h4⟩ := h.hq h0; exact ⟨ds, (ht _ _ _ h3 (by decide)).trans h3, h4⟩
  · refine (h.hr j hj).keepB fun g cs e hg he => ht g cs e hg ?_
    rcases he with ⟨_, rfl⟩ | rfl <;> decide
def zero72 : Array Value := #[.int .i64 0, .int .i64 0, .int .i64 0, .int .i64 0, .int .i64 0, .int .i64 0, .int .i64 0, .int .i64 0, .int .i64 0, .int .i64 0, .int .i64 0, .int .i64 0, .int .i64 0, .int .i64 0, .int .i64 0, .int .i64 0, .int .i64 0]
theorem zero72_at {u : Nat} (h : u < 17) : zero72[u]? = some (.int .i64 0) := by
  have : u = 0 ∨ u = 1 ∨ u = 2 ∨ u = 3 ∨ u = 4 ∨ u = 5 ∨ u = 6 ∨ u = 7 ∨ u = 8 ∨ u = 9 ∨ u = 10 ∨ u = 11 ∨ u = 12 ∨ u = 13 ∨ u = 14 ∨ u = 15 ∨ u = 16 := by omega
  rcases this with rfl | rfl | rfl | rfl | rfl | rfl | rfl | rfl | rfl | rfl | rfl | rfl | rfl | rfl | rfl | rfl | rfl <;> rfl

set_option maxHeartbeats 6400000 in
theorem rsettle_any (m gk go gq : Nat) (r : Nat → Nat) (S : St) (N : Int → Int) (w : World) (h : Rx w m gk go gq r S N) (hf : Fine0 S) (htold : ∀ i, i < S.n → ∀ x, x ∈ S.Q i → N x.1 = x.2) :
    Calls Try.prog 43 #[PtrV m] w fun e w' => e = .returned (.tuple #[]) ∧ Rx w' m gk go gq r (settle S) (P S) ∧ OnS (Zd m go r S.n) w w' := by
  have hn8 := hf.n8
  have HF := Lib.hid hf
  have HH := Lib.hid h
  have HTD := Lib.hid htold
  clear hf h htold
  have hb0 : Below w.heap.size w (w.alloc (.cells zero72 72)) := (Below.refl _ _).alloc (Nat.le_refl _) _
  have ha0 : (w.alloc (.cells zero72 72)).heap[w.heap.size]? = some (.cells zero72 72 (0, 0)) := heap_alloc_new w _
  go_enter Try.func43, Try.ntmps43
  go_wp2
  change Code.wp _ _ _ _ (w.alloc (.cells zero72 72))
  generalize w.alloc (.cells zero72 72) = wa at *
  obtain ⟨b, hbb⟩ : ∃ b, w.heap.size = b := ⟨_, rfl⟩
  rw [hbb] at ha0 ⊢
  have HBB := Lib.hid hbb
  have HB0 := Lib.hid hb0
  have HA0 := Lib.hid ha0
  clear hb0 ha0 hbb
  go_loopw [3] (fun i wr => ∃ v : Nat, 1 ≤ v ∧ v ≤ 17 ∧ i = .int .i64 (v : Int) ∧ (∃ cs : Array Value, wr.heap[b]? = some (.cells cs 72 (0, 0)) ∧ cs.size = 17 ∧ ∀ u : Nat, u < 17 → cs[u]? = some (.int .i64 (if u = 0 then 0 else if u < v then P S (u : Int) else 0))) ∧ Below w.heap.size w wr) (fun i _ => 17 - (intOf i).toNat)
  case atStart =>
    refine ⟨1, by omega, by omega, rfl, ⟨zero72, HA0.out, rfl, fun u hu => ?_⟩, HB0.out⟩
    rw [zero72_at hu]
    split
    · rfl
    · rw [if_neg (by omega)]
  case round =>
    obtain ⟨v, hv1, hv, rfl, ⟨cs, h1, h2, h3⟩, hb⟩ := hrel
    have HB := Lib.hid hb
    have H1 := Lib.hid h1
    have H3 := Lib.hid h3
    by_cases hlt : v ≤ 16
    · have HPR := Lib.hid (rpri_any m gk go gq r S N (v : Int) wr (HH.out.below hb) HF.out (P S (v : Int)) (by unfold pri; rw [if_pos ⟨by omega, by omega⟩]))
      obtain ⟨y, hy⟩ : ∃ y, P S (v : Int) = y := ⟨_, rfl⟩
      rw [hy] at HPR
      have HY := Lib.hid hy
      have c0 : wr.cell? ⟨b, v, none⟩ = some (.int .i64 0) := by rw [cell_of_row wr b v cs 72 (0, 0) h1, h3 v (by omega), if_neg (by omega), if_neg (by omega)]
      have z0 := frozen_of_row wr b v cs 72 h1
      have hi0 : (v : Int) < 17 := by omega
      have hi1 : (v : Int) ≤ 16 := by omega
      clear hb h1 h3 hy
      go_wp2_with fail
      refine HPR.out.mono ?_
      rintro e w1 ⟨rfl, rfl⟩
      go_wp2
      go_roundw
      case rel =>
        refine ⟨v + 1, by omega, by omega, by go_num, ⟨cs.setIfInBounds v (.int .i64 y), heap_setCell_same wr b v cs 72 _ H1.out, by simpa using h2, fun u hu => ?_⟩, HB.out.setCell (p := ⟨b, v, none⟩) (by rw [HBB.out]; exact Nat.le_refl _) _⟩
        by_cases c : u = v
        · subst c; rw [if_neg (by omega), if_pos (by omega), Array.getElem?_setIfInBounds_self_of_lt (by omega), HY.out]
        · rw [Array.getElem?_setIfInBounds_ne (by omega), H3.out u hu]
          by_cases d : u = 0
          · rw [if_pos d, if_pos d]
          · rw [if_neg d, if_neg d]
            by_cases d2 : u < v
            · rw [if_pos d2, if_pos (by omega)]
            · rw [if_neg d2, if_neg (by omega)]
      case measure => simp [intOf]; omega
    · have h4 : ∀ u : Nat, u < 17 → cs[u]? = some (.int .i64 (if u = 0 then 0 else P S (u : Int))) := fun u hu => by
        rw [h3 u hu]
        split
        · rfl
        · rw [if_pos (by omega)]
      have H4 := Lib.hid h4
      have tl : decide ((v : Int) ≤ 16) = false := by simp; omega
      have HR1 := Lib.hid (HH.out.below hb)
      clear hb h1 h3 h4 H3
      obtain ⟨w1, hw1⟩ : ∃ w1, wr = w1 := ⟨_, rfl⟩
      rw [hw1] at HB H1 HR1 ⊢
      clear hw1
      obtain ⟨n, hn⟩ : ∃ n, S.n = n := ⟨_, rfl⟩
      have HN := Lib.hid hn
      rw [hn] at hn8
      clear hn
      go_wp2
      go_loopw [4] (fun i wr => ∃ v : Nat, v ≤ n ∧ i = .int .i64 (v : Int) ∧ Rx wr m gk go gq r (sv S v 0) N ∧ OnS (Zd m go r S.n) w1 wr) (fun i _ => n - (intOf i).toNat)
      case atStart => exact ⟨0, Nat.zero_le _, rfl, by rw [sv_zero]; exact HR1.out, OnS.refl _ _⟩
      case round =>
        obtain ⟨v, hv, rfl, h2x, hon⟩ := hrel
        have H2X := Lib.hid h2x
        have HON := Lib.hid hon
        obtain ⟨_, _, XQ, _, _, kQ, _, _, c2, hX⟩ := h2x.rows
        rw [show (sv S v 0).n = n from HN.out] at c2
        clear h2x hon
        by_cases hlt : v < n
        · have hvn : v < S.n := by rw [HN.out]; exact hlt
          obtain ⟨_, _, rfl⟩ := hX (Nat.lt_of_le_of_lt (Nat.zero_le _) hvn)
          have d3 := H2X.out.ptr (S := sv S v 0) (i := v) hvn
          obtain ⟨p, hp⟩ : ∃ p, r v = p := ⟨_, rfl⟩
          rw [hp] at d3
          have HPQ := Lib.hid hp
          have HVN := Lib.hid hvn
          have HG := Lib.hid (HF.out.gd v hvn)
          have hids := rids_any p (S.bp v) (S.Q v) wr (by have := H2X.out.rq (S := sv S v 0) hvn hp; rw [sv_at] at this; exact this) HG.out.len
          obtain ⟨L, hL⟩ : ∃ L, S.Q v = L := ⟨_, rfl⟩
          have HL := Lib.hid hL
          rw [hL] at hids HG
          have HIDS := Lib.hid hids
          clear hX hvn hp hids hL
          go_wp2_with fail
          refine HIDS.out.mono ?_
          rintro e w2 ⟨vl, rfl, hol, hb2⟩
          obtain ⟨XL, kL, rfl, _, _⟩ := K.own_form hol
          have hlen : (L.map Prod.fst).length = L.length := by simp
          have hlen16 := HG.out.len
          obtain ⟨n1, hn1⟩ : ∃ n1, L.length = n1 := ⟨_, rfl⟩
          have HN1 := Lib.hid hn1
          unfold Ow at hol
          rw [hlen, hn1] at hol ⊢
          rw [hn1] at hlen16
          have HOL := Lib.hid hol
          have HB2 := Lib.hid hb2
          have HX2 := Lib.hid (H2X.out.below hb2)
          have hbl : w2.heap[b]? = some (.cells cs 72 (0, 0)) := by
            have e1 := HON.out.block b (lt_of_heap H1.out) (HR1.out.nz H1.out (by decide) (by decide) (by decide))
            have e2 := e1.trans H1.out
            exact (hb2.block b (lt_of_heap e2)).trans e2
          have HBL := Lib.hid hbl
          clear hol hb2 hlen hn1 hbl HIDS d3 c2
          go_wp2
          go_loopw [6] (fun i wr => ∃ k : Nat, k ≤ n1 ∧ i = .int .i64 (k : Int) ∧ Rx wr m gk go gq r (sv S v k) N ∧ OnS (Zd m go r S.n) w2 wr) (fun i _ => n1 - (intOf i).toNat)
          case atStart => exact ⟨0, Nat.zero_le _, rfl, HX2.out, OnS.refl _ _⟩
          case round =>
            obtain ⟨k, hk, rfl, h3x, hon3⟩ := hrel
            have H3X := Lib.hid h3x
            have HON3 := Lib.hid hon3
            clear h3x hon3
            by_cases hlk : k < n1
            · obtain ⟨x, hx⟩ : ∃ x, L[k]? = some x := ⟨_, List.getElem?_eq_getElem (by rw [HN1.out]; exact hlk)⟩
              have HXM := Lib.hid (List.mem_of_getElem? hx)
              obtain ⟨gl, cl, rfl, hgl, hhl, hcl⟩ := K.own_at (by omega) HOL.out
              have hzl : ¬ Zd m go r S.n gl := fun hz => by
                have := H2X.out.zlt (S := sv S v 0) hz
                omega
              have hxr := HG.out.rng x HXM.out
              obtain ⟨u, hu⟩ : ∃ u : Nat, x.1 = (u : Int) := ⟨x.1.toNat, by omega⟩
              have hu0 : u ≠ 0 := by omega
              have hu17 : u < 17 := by omega
              have e0 : wr.cell? ⟨gl, k, none⟩ = some (.int .i64 (u : Int)) := by
                rw [cell_of_row wr gl k cl 3 (0, 0) ((HON3.out.block gl (lt_of_heap hhl) hzl).trans hhl), ← hu]
                exact hcl k _ (by rw [K.vals_ci, List.getElem?_map, List.getElem?_map, hx]; rfl)
              have hbr : wr.heap[b]? = some (.cells cs 72 (0, 0)) := (HON3.out.block b (lt_of_heap HBL.out) (HX2.out.nz (S := sv S v 0) HBL.out (by decide) (by decide) (by decide))).trans HBL.out
              have e1 : wr.cell? ⟨b, u, none⟩ = some (.int .i64 (P S (u : Int))) := by rw [cell_of_row wr b u cs 72 (0, 0) hbr, H4.out u hu17, if_neg hu0]
              have e2 := H3X.out.now hu0 hu17
              have e3 : N (u : Int) = x.2 := by rw [← hu]; exact HTD.out v HVN.out x (by rw [HL.out]; exact HXM.out)
              rw [e3] at e2
              have HST := Lib.hid (sv_step S v k (x := x) (by rw [HL.out]; exact hx))
              rw [hu] at HST
              obtain ⟨y, hy⟩ : ∃ y, P S (u : Int) = y := ⟨_, rfl⟩
              rw [hy] at e1 HST
              obtain ⟨_, _, XQ3, _, _, kQ3, _, _, c23, hX3⟩ := H3X.out.rows
              obtain ⟨_, _, rfl⟩ := hX3 (Nat.lt_of_le_of_lt (Nat.zero_le _) HVN.out)
              rw [show (sv S v k).n = n from HN.out] at c23
              have d33 := H3X.out.ptr (S := sv S v k) (i := v) HVN.out
              rw [HPQ.out] at d33
              have b1 : (0 : Int) ≤ (k : Int) := by omega
              have b2 : (k : Int) < (n1 : Int) := by omega
              have b3 : (0 : Int) ≤ (u : Int) := by omega
              have b4 : (u : Int) < 17 := by omega
              have b5 : (0 : Int) ≤ (v : Int) := by omega
              have b6 : (v : Int) < (n : Int) := by omega
              have HUU := Lib.hid hu
              clear hx hgl hhl hcl hzl hxr hbr hy hX3 hu e3
              by_cases c : y = x.2
              · have te : (y != x.2) = false := by simpa using c
                rw [if_pos c, upd_id] at HST
                have HE := Lib.hid (show Rx wr m gk go gq r (sv S v (k + 1)) N by rw [← HST.out]; exact H3X.out)
                clear c HST
                go_wp2
                go_quiet (fail)
                have HE2 := Lib.hid (HE.out.below (below_drewN wr nq))
                have HO2 := Lib.hid (HON3.out.drewN nq)
                clear e0 e1 e2 c23 d33
                go_wp2
                go_roundw
                case rel => exact ⟨k + 1, by omega, by go_num, HE2.out, HO2.out⟩
                case measure => simp [intOf]; omega
              · have te : (y != x.2) = true := by simpa using c
                rw [if_neg c] at HST
                clear c
                go_wp2
                go_quiet (fail)
                have H3Y := Lib.hid (H3X.out.below (below_drewN wr nq))
                have HO2 := Lib.hid (HON3.out.drewN nq)
                have e0' : (wr.drewN nq).cell? ⟨gl, k, none⟩ = some (.int .i64 (u : Int)) := e0
                have e1' : (wr.drewN nq).cell? ⟨b, u, none⟩ = some (.int .i64 y) := e1
                have c23' : (wr.drewN nq).cell? ⟨m, 2, none⟩ = some (.slice (some ⟨gq, 0, none⟩) n kQ3) := c23
                have d33' : (wr.drewN nq).cell? ⟨gq, v, none⟩ = some (PtrV p) := d33
                clear e0 e1 e2 c23 d33
                generalize wr.drewN nq = w5 at *
                go_wp2
                go_still_tail 17, (by kernel_rfl)
                change wpList _ _ _ _ _ w5.drew
                have H3Z := Lib.hid (H3Y.out.below (below_drewN w5 1))
                have HO3 := Lib.hid (HO2.out.drewN 1)
                change Hid (Rx w5.drew m gk go gq r (sv S v k) N) at H3Z
                change Hid (OnS (Zd m go r S.n) w2 w5.drew) at HO3
                clear e0' e1' c23' d33'
                generalize w5.drew = w6 at *
                go_wp2_with fail
                obtain ⟨ck, hck⟩ : ∃ ck, chgOk ((sv S v k).Q v) (u : Int) y = ck := ⟨_, rfl⟩
                refine (rchange_to p (S.bp v) ((sv S v k).Q v) _ ck w6 (H3Z.out.rq (S := sv S v k) HVN.out HPQ.out) ((HF.out.sv v k).gd v HVN.out) (u : Int) y hck rfl).mono ?_
                rintro e w7 ⟨rfl, hq7, ho7⟩
                have hx7 := H3Z.out.turn (S := sv S v k) (i := v) HVN.out (w' := w7) (by rw [HPQ.out]; exact ho7) (by rw [HPQ.out]; exact hq7)
                have HE := Lib.hid (show Rx w7 m gk go gq r (sv S v (k + 1)) N by rw [← HST.out]; exact hx7)
                have HO7 := Lib.hid (HO3.out.trans (.at_ ho7 (by rw [← HPQ.out]; exact zr HVN.out)))
                clear hq7 ho7 hx7 hck
                go_wp2
                go_roundw
                case rel => exact ⟨k + 1, by omega, by go_num, HE.out, HO7.out⟩
                case measure => simp [intOf]; omega
            · have HE := Lib.hid (show Rx wr m gk go gq r (sv S (v + 1) 0) N by
                rw [← sv_next S v (k := k) (by rw [HL.out, HN1.out]; omega)]; exact H3X.out)
              go_wp2
              go_roundw
              case rel => exact ⟨v + 1, by omega, by go_num, HE.out, HON.out.trans ((OnS.of_below HB2.out).trans HON3.out)⟩
              case measure => simp [intOf]; omega
        · have e : v = n := by omega
          subst e
          have hfin := H2X.out
          rw [← HN.out, sv_end] at hfin
          have hbl : wr.heap[b]? = some (.cells cs 72 (0, 0)) := (HON.out.block b (lt_of_heap H1.out) (HR1.out.nz H1.out (by decide) (by decide) (by decide))).trans H1.out
          obtain ⟨cm, _, _, _, _, _, _, hm1, hm2, _⟩ := hfin.ha
          have HFIN := Lib.hid hfin
          have hall : cs.all (·.oneCell') = true := by
            rw [Array.all_eq_true]
            intro i hi
            have := H4.out i (by omega)
            rw [Array.getElem?_eq_getElem hi] at this
            injection this with this
            rw [this]; rfl
          have h1c : ∀ v ∈ cs.toList, v.oneCell' = true := fun v hv => by
            obtain ⟨i, hi, e⟩ := List.getElem_of_mem hv
            have hi' : i < cs.size := by simpa using hi
            have := H4.out i (by omega)
            rw [Array.getElem?_eq_getElem hi'] at this
            injection this with this
            rw [← e, Array.getElem_toList, this]; rfl
          have hi72 : (Try.prog.info? 72).map (·.size) = some cs.size := by rw [h2]; exact info72
          have hi72' : (Try.prog.info? 72).map (·.size) = some cs.toList.length := by rw [Array.length_toList]; exact hi72
          have hfit : 20 + cs.toList.length ≤ cm.size := by rw [Array.length_toList, h2, hm2]; omega
          have HU := Lib.hid und72
          clear hX hfin
          go_wp2_with (first
            | (refine wpList_load_row rfl 72 (.tmp 2) rfl b rfl 72 cs (0, 0) _ hbl HU.out rfl hi72 ?_)
            | (refine wpList_store_in rfl 72 (.tmp 76) (.tmp 74) rfl m 20 cs.toList rfl rfl 74 cm hm1 hfit hi72' h1c ?_
               intro w9 hw9 hon9))
          go_end0
          refine ⟨rfl, HFIN.out.setN hm1 h2 (fun u hu => H4.out u hu) hw9 hon9, ?_⟩
          exact ((OnS.of_below HB.out).trans HON.out).trans (.at_ hon9 (.inl rfl))
end Go.Proofs.Ytmicinenggkmlaa
