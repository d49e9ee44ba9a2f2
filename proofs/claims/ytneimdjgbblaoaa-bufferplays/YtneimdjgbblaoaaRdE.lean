/- The document's message buffer (detentref16): Recv, New. -/
import Derived.Test.YtneimdjgbblaoaaRdD
namespace Go.Proofs.Ytneimdjgbblaoaa
open Go.RowKit
set_option maxRecDepth 100000

theorem gd_form {w0 w : World} {o : Option (List Int)} {outs : List Int} {g : Value} (h : Gd w0 w o outs g) {n : Nat} (hn : outs.length = n) : ∃ X k, g = .agg #[.string (R.str (o.getD [])), .bool o.isSome, .slice X n k] ∧ w.ownsRow w0.heap.size 3 1 (.slice X n k) n (K.vals K.ci outs) := by
  subst hn
  obtain ⟨v2, rfl, h2⟩ := h
  obtain ⟨X, k, rfl, _, _⟩ := K.own_form h2
  exact ⟨X, k, rfl, h2⟩
theorem six_keep {w w' : World} {a b c d : Addr} {x y z v : Value} (k : Below w.heap.size w w') (h : w.cell? a = some x ∧ w.cell? b = some y ∧ w.cell? c = some z ∧ w.cell? d = some v) :
    w'.cell? a = some x ∧ w'.cell? b = some y ∧ w'.cell? c = some z ∧ w'.cell? d = some v :=
  ⟨(k.cell (p := a) (block_lt_of_cell h.1)).trans h.1, (k.cell (p := b) (block_lt_of_cell h.2.1)).trans h.2.1, (k.cell (p := c) (block_lt_of_cell h.2.2.1)).trans h.2.2.1, (k.cell (p := d) (block_lt_of_cell h.2.2.2)).trans h.2.2.2⟩
theorem four_only {q : Nat} {w w' : World} {a b c d : Addr} {x y z v : Value} (k : Only q w w') (h : w.cell? a = some x ∧ w.cell? b = some y ∧ w.cell? c = some z ∧ w.cell? d = some v) (ha : a.block ≠ q) (hb : b.block ≠ q) (hc : c.block ≠ q) (hd : d.block ≠ q) :
    w'.cell? a = some x ∧ w'.cell? b = some y ∧ w'.cell? c = some z ∧ w'.cell? d = some v :=
  ⟨(k.cell (q := a) (block_lt_of_cell h.1) ha).trans h.1, (k.cell (q := b) (block_lt_of_cell h.2.1) hb).trans h.2.1, (k.cell (q := c) (block_lt_of_cell h.2.2.1) hc).trans h.2.2.1, (k.cell (q := d) (block_lt_of_cell h.2.2.2) hd).trans h.2.2.2⟩

section
variable {w : World} {B m g p r : Nat} {t : St}
set_option maxHeartbeats 4000000 in
theorem rrecv_any (t' : St) (id pri e : Int) (o : Option (List Int)) (outs : List Int) (h : Rf w B m g p r t) (hf : Fine t) (hs : recv t id pri = (t', o, outs, e)) :
    Calls Try.prog 16 #[.pointer (some ⟨m, 0, none⟩), .int .i64 id, .int .i64 pri] w fun en w' => ∃ v, en = .returned (.tuple #[v, .int .i64 e]) ∧ Gd w w' o outs v ∧ Rf w' B m g p r t' ∧ Et m g p r w w' := by
  obtain ⟨w0, hw0⟩ : ∃ w0, w.alloc (.cells #[.string ⟨#[]⟩, .bool false, .slice none 0 0] 46) = w0 := ⟨_, rfl⟩
  have hb0 : Below w.heap.size w w0 := by rw [← hw0]; exact (Below.refl _ _).alloc (Nat.le_refl _) _
  have bx : Box3 w0 w.heap.size 46 (.string ⟨#[]⟩) (.bool false) (.slice none 0 0) := by rw [← hw0]; exact box3_new _ _ _ _ _
  have h0 := h.below hb0
  have HE0 := Lib.hid (Et.of_below (m := m) (g := g) (p := p) (r := r) hb0)
  have HLT := Lib.hid (show w.heap.size < w0.heap.size from bx.lt)
  obtain ⟨t1, o1, outs1, h2⟩ : ∃ t1 o1 outs1, tryRecv t = (t1, o1, outs1) := ⟨_, _, _, rfl⟩
  have HT := Lib.hid (rtryRecv_any t1 o1 outs1 h0 hf h2)
  have HF := Lib.hid hf
  have BX := Lib.hid bx
  have H0 := Lib.hid h0
  unfold recv at hs
  rw [h2] at hs
  cases o1 with
  | some x =>
    simp only [Prod.mk.injEq] at hs
    obtain ⟨h1, h3, h4, h5⟩ := hs
    subst h1 h3 h4 h5
    clear h hf h2 h0 bx hb0
    go_enter Try.func16, Try.ntmps16
    go_wp2_with fail
    refine HT.out.mono ?_
    rintro en w1 ⟨gv, rfl, hgd, hq1, hk1⟩
    obtain ⟨X, k, rfl, how⟩ := gd_form hgd (n := outs1.length) rfl
    obtain ⟨n, hn⟩ : ∃ n, outs1.length = n := ⟨_, rfl⟩
    have HNN := Lib.hid hn
    rw [hn] at how ⊢
    have BX1 := Lib.hid (BX.out.et H0.out hk1)
    have HQ1 := Lib.hid hq1
    have HK1 := Lib.hid (HE0.out.trans hk1)
    have HB2 := Lib.hid (show Below w1.heap.size w1 (w1.alloc (.cells #[.string (R.str x), .bool true, .slice X n k] 46)) from (Below.refl _ _).alloc (Nat.le_refl _) _)
    have ax := box3_new w1 46 (.string (R.str x)) (.bool true) (.slice X n k)
    have BX2 := Lib.hid (BX1.out.below HB2.out)
    have HQ2 := Lib.hid (HQ1.out.below HB2.out)
    have HK2 := Lib.hid (HK1.out.trans (.of_below HB2.out))
    have HOW := Lib.hid (K.own_base (K.own_below how HB2.out) (Nat.le_of_lt HLT.out))
    have a0 := ax.c0
    have a1 := ax.c1
    have a2 := ax.c2
    have z0 := BX2.out.fz 0
    have z1 := BX2.out.fz 1
    have z2 := BX2.out.fz 2
    have b0 := BX2.out.c0
    have b1 := BX2.out.c1
    have b2 := BX2.out.c2
    have HX := Lib.hid (BX2.out.all (Nat.le_refl _) (.string (R.str x)) (.bool true) (.slice X n k))
    clear hq1 hk1 HT BX hw0 ax H0 how hgd hn
    go_wp2
    (try simp only [Exit.inBlock, Exit.then]); refine bodyPost_ret (ret_got46b rfl _ _ _ _ _ _ _ rfl HX.out.1) rfl ?_
    exact ⟨_, rfl, ⟨_, rfl, by have := own_box HOW.out BX2.out (by decide) HX.out.2.2; unfold Ow; rw [HNN.out]; exact this⟩, HQ2.out.box BX2.out rfl HX.out.2.2, HK2.out.later HX.out.2.1⟩
  | none =>
    obtain ⟨e1, e2, e3, e4⟩ := tryRecv_none h2
    subst e1 e2
    have HS := Lib.hid e4
    simp only [Prod.mk.injEq] at hs
    obtain ⟨h5, h6, h7, h8⟩ := hs
    subst h6 h7
    clear h hf h2 h0 bx hb0 e3 e4
    by_cases cg : (1 ≤ id ∧ id ≤ 16) ∧ 1 ≤ pri ∧ pri ≤ 16
    · have HG := Lib.hid (fun W => rgood_any id pri W true (by simpa using cg))
      have H5 := Lib.hid h5
      have H8 := Lib.hid h8
      clear h5 h8 cg
      go_enter Try.func16, Try.ntmps16
      go_wp2_with fail
      refine HT.out.mono ?_
      rintro en w1 ⟨gv, rfl, hgd, hq1, hk1⟩
      obtain ⟨X, k, rfl, how⟩ := gd_form hgd (n := 0) rfl
      rw [show (Option.getD (none : Option (List Int)) []) = [] from rfl, str_nil]
      have BX1 := Lib.hid (BX.out.et H0.out hk1)
      have HQ1 := Lib.hid hq1
      have HK1 := Lib.hid (HE0.out.trans hk1)
      have HB2 := Lib.hid (show Below w1.heap.size w1 (w1.alloc (.cells #[.string ⟨#[]⟩, .bool false, .slice X 0 k] 46)) from (Below.refl _ _).alloc (Nat.le_refl _) _)
      have AX := Lib.hid (box3_new w1 46 (.string ⟨#[]⟩) (.bool false) (.slice X 0 k))
      have BX2 := Lib.hid (BX1.out.below HB2.out)
      have HQ2 := Lib.hid (HQ1.out.below HB2.out)
      have HK2 := Lib.hid (HK1.out.trans (.of_below HB2.out))
      have HOW := Lib.hid (K.own_base (K.own_below how HB2.out) (Nat.le_of_lt HLT.out))
      have HGA := Lib.hid (show w1.heap.size ≠ w.heap.size by have := BX1.out.lt; omega)
      have a1 := AX.out.c1
      clear hq1 hk1 HT BX hw0 H0 BX1 HQ1 HK1 HB2 how hgd
      go_wp2_with fail
      generalize w1.alloc _ = w2 at *
      refine (HG.out w2).mono ?_
      rintro en w3 ⟨rfl, rfl⟩
      have c0 := HQ2.out.d.c1
      have hqs := HQ2.out.s
      rw [HS.out] at hqs
      have HA := Lib.hid (rat_any p t1.b [] w2 hqs (by simp) id (-1) (by simp))
      clear hqs HG a1
      go_wp2_with fail
      refine HA.out.mono ?_
      rintro en w3 ⟨rfl, rfl⟩
      have c1 := HQ2.out.d.c2
      have a0 := AX.out.c0
      have a1 := AX.out.c1
      have a2 := AX.out.c2
      have HQd := Lib.hid (HQ2.out.below (below_drewN w2 1))
      have HD := Lib.hid (radd_any r false t1.R w2.drew HQd.out.q HF.out.r id pri)
      clear HA c0
      go_wp2
      go_region_held3 (fun W => W.cell? ⟨m, 2, none⟩ = some (.pointer (some ⟨r, 0, none⟩)) ∧ W.cell? ⟨w1.heap.size, 0, none⟩ = some (.string ⟨#[]⟩) ∧ W.cell? ⟨w1.heap.size, 1, none⟩ = some (.bool false) ∧ W.cell? ⟨w1.heap.size, 2, none⟩ = some (.slice X 0 k))
        (first | exact ⟨c1, a0, a1, a2⟩ | assumption | exact KS.out | exact ⟨HQ5.out.d.c2, AX5.out.c0, AX5.out.c1, AX5.out.c2⟩)
        (first
          | (go_at_call 38; refine HD.out.mono ?_; rintro en w5 ⟨rfl, hl5, ho5⟩
             have HQ5 := Lib.hid (HQd.out.rq ho5 hl5)
             have AX5 := Lib.hid ((AX.out.below (below_drewN w2 1)).keep (ho5.block _ (AX.out.below (below_drewN w2 1)).lt (HQd.out.nb (AX.out.below (below_drewN w2 1))).2.2.2))
             have BX5 := Lib.hid ((BX2.out.below (below_drewN w2 1)).keep (ho5.block _ (BX2.out.below (below_drewN w2 1)).lt (HQd.out.nb (BX2.out.below (below_drewN w2 1))).2.2.2))
             have z0 := BX5.out.fz 0
             have z1 := BX5.out.fz 1
             have z2 := BX5.out.fz 2
             have b0 := BX5.out.c0
             have b1 := BX5.out.c1
             have b2 := BX5.out.c2
             have HX5 := Lib.hid (BX5.out.all (Nat.le_refl _) (.string ⟨#[]⟩) (.bool false) (.slice X 0 k))
             have KS := Lib.hid (four_only HX5.out.2.2 ⟨HQ5.out.d.c2, AX5.out.c0, AX5.out.c1, AX5.out.c2⟩ (Ne.symm (HQ5.out.nb BX5.out).1) HGA.out HGA.out HGA.out)))
      all_goals
        have HE5 := Lib.hid ((HK2.out.trans (.of_below (below_drewN w2 1))).trans (Et.of_only (m := m) (g := g) (p := p) ho5 (.inr (.inr rfl))))
        have HOW5 := Lib.hid (own_et (K.own_below HOW.out (below_drewN w2 1)) HQd.out (Et.of_only (m := m) (g := g) (p := p) ho5 (.inr (.inr rfl))))
        have h8 := H8.out
        unfold waitR at h8
        simp only at h8
        have HQ6 := Lib.hid (show Rf w5 B m g p r t' by rw [← H5.out]; exact HQ5.out)
        rw [h8]
        clear hl5 ho5 h8 HD HQ5
        go_wp2
        (try simp only [Exit.inBlock, Exit.then]); refine bodyPost_ret (ret_got46b rfl _ _ _ _ _ _ _ rfl HX5.out.1) rfl ?_
        exact ⟨_, rfl, ⟨_, rfl, own_box HOW5.out BX5.out (by decide) HX5.out.2.2⟩, HQ6.out.box BX5.out rfl HX5.out.2.2, HE5.out.later HX5.out.2.1⟩
    · have HG := Lib.hid (fun W => rgood_any id pri W false (by simpa using cg))
      rw [waitR_bad cg] at h5 h8
      simp only at h5 h8
      subst h5 h8
      clear cg
      go_enter Try.func16, Try.ntmps16
      go_wp2_with fail
      refine HT.out.mono ?_
      rintro en w1 ⟨gv, rfl, hgd, hq1, hk1⟩
      obtain ⟨X, k, rfl, how⟩ := gd_form hgd (n := 0) rfl
      rw [show (Option.getD (none : Option (List Int)) []) = [] from rfl, str_nil]
      have BX1 := Lib.hid (BX.out.et H0.out hk1)
      have HQ1 := Lib.hid hq1
      have HK1 := Lib.hid (HE0.out.trans hk1)
      have HB2 := Lib.hid (show Below w1.heap.size w1 (w1.alloc (.cells #[.string ⟨#[]⟩, .bool false, .slice X 0 k] 46)) from (Below.refl _ _).alloc (Nat.le_refl _) _)
      have AX := Lib.hid (box3_new w1 46 (.string ⟨#[]⟩) (.bool false) (.slice X 0 k))
      have BX2 := Lib.hid (BX1.out.below HB2.out)
      have HQ2 := Lib.hid (HQ1.out.below HB2.out)
      have HK2 := Lib.hid (HK1.out.trans (.of_below HB2.out))
      have HOW := Lib.hid (K.own_base (K.own_below how HB2.out) (Nat.le_of_lt HLT.out))
      have a1 := AX.out.c1
      clear hq1 hk1 HT BX hw0 H0 BX1 HQ1 HK1 HB2 how hgd
      go_wp2_with fail
      generalize w1.alloc _ = w2 at *
      refine (HG.out w2).mono ?_
      rintro en w3 ⟨rfl, rfl⟩
      have a0 := AX.out.c0
      have a2 := AX.out.c2
      have z0 := BX2.out.fz 0
      have z1 := BX2.out.fz 1
      have z2 := BX2.out.fz 2
      have b0 := BX2.out.c0
      have b1 := BX2.out.c1
      have b2 := BX2.out.c2
      have HX := Lib.hid (BX2.out.all (Nat.le_refl _) (.string ⟨#[]⟩) (.bool false) (.slice X 0 k))
      go_wp2
      (try simp only [Exit.inBlock, Exit.then]); refine bodyPost_ret (ret_got46b rfl _ _ _ _ _ _ _ rfl HX.out.1) rfl ?_
      exact ⟨_, rfl, ⟨_, rfl, own_box HOW.out BX2.out (by decide) HX.out.2.2⟩, HQ2.out.box BX2.out rfl HX.out.2.2, HK2.out.later HX.out.2.1⟩
end

/-- the cells that the document's New builds -/
def r0 (g p r : Nat) (m : Int) : Array Value := ⟨.pointer (some ⟨g, 0, none⟩) :: .pointer (some ⟨p, 0, none⟩) :: .pointer (some ⟨r, 0, none⟩) :: (List.replicate 17 (Value.string ⟨#[]⟩) ++ [.int .i64 m])⟩
theorem built77 (g p r : Nat) (m : Int) : Try.prog.built 77 [(0, .pointer (some ⟨g, 0, none⟩)), (1, .pointer (some ⟨p, 0, none⟩)), (2, .pointer (some ⟨r, 0, none⟩)), (4, .int .i64 m)] = some (r0 g p r m) := by kernel_rfl
theorem rz_r0 (b : Bool) (g p r m N : Nat) : Rz (r0 g p r m) g p r (st0 b m N) := by
  refine ⟨rfl, rfl, rfl, rfl, ⟨fun i hi => ?_, fun y hy => by simp [st0] at hy⟩, rfl⟩
  match i, hi with
  | 0, _ | 1, _ | 2, _ | 3, _ | 4, _ | 5, _ | 6, _ | 7, _ | 8, _ | 9, _ | 10, _ | 11, _ | 12, _ | 13, _ | 14, _ | 15, _ | 16, _ => exact ⟨_, rfl⟩
  | n + 17, h => omega

set_option maxHeartbeats 1600000 in
theorem rnew_par (b : Bool) (m z : Int) (hm : m < 1 ∨ 1024 < m) (w : World) : Calls Try.prog 10 #[.bool b, .int .i64 m, .int .i64 z] w fun e w' => e = .returned (.tuple #[.pointer none, .int .i64 (-17)]) ∧ w = w' := by
  by_cases c : m < 1
  · have t1 : decide (m < 1) = true := by simpa using c
    clear hm
    go_enter Try.func10, Try.ntmps10
    go_wp2
    go_ret2
    exact ⟨rfl, rfl⟩
  · have t1 : decide (m < 1) = false := by simpa using c
    have t2 : decide (1024 < m) = true := by simp; omega
    clear hm c
    go_enter Try.func10, Try.ntmps10
    go_wp2
    go_ret2
    exact ⟨rfl, rfl⟩
set_option maxHeartbeats 1600000 in
theorem rnew_size (b : Bool) (m z : Int) (hm : 1 ≤ m ∧ m ≤ 1024) (hz : z < 0 ∨ 65536 < z ∨ z % 4 ≠ 0) (w : World) : Calls Try.prog 10 #[.bool b, .int .i64 m, .int .i64 z] w fun e w' => e = .returned (.tuple #[.pointer none, .int .i64 (-17)]) ∧ w = w' := by
  have t1 : decide (m < 1) = false := by simp; omega
  have t2 : decide (1024 < m) = false := by simp; omega
  have HR := Lib.hid (R.rnew_bad z hz w)
  clear hm hz
  go_enter Try.func10, Try.ntmps10
  go_wp2_with fail
  refine HR.out.mono ?_
  rintro e w1 ⟨rfl, rfl⟩
  go_wp2
  go_ret2
  exact ⟨rfl, rfl⟩
set_option maxHeartbeats 4000000 in
theorem rnew_ok (b : Bool) (m N : Nat) (hm : 1 ≤ m ∧ m ≤ 1024) (hN : N ≤ 65536) (h4 : N % 4 = 0) (z : Int) (hz : z = N) (y : Int) (hy : y = m) (w : World) : Calls Try.prog 10 #[.bool b, .int .i64 y, .int .i64 z] w fun e w' =>
    ∃ q g p r : Nat, e = .returned (.tuple #[.pointer (some ⟨q, 0, none⟩), .int .i64 0]) ∧ Rf w' w.heap.size q g p r (st0 b m N) ∧ Below w.heap.size w w' := by
  have t2 : decide (1024 < y) = false := by simp; omega
  have t1 : decide (y < 1) = false := by simp; omega
  have HY := Lib.hid hy
  have HR := Lib.hid (R.rnew_ok N hN h4 w)
  rw [← hz] at HR
  clear hm hy hz h4 hN
  go_enter Try.func10, Try.ntmps10
  go_wp2_with fail
  refine HR.out.mono ?_
  rintro e wa ⟨rfl, hrf, hba⟩
  have HRF := Lib.hid hrf
  have HBA := Lib.hid hba
  have hf := built77 w.heap.size wa.heap.size (wa.heap.size + 1) y
  obtain ⟨C, hC⟩ : ∃ C, r0 w.heap.size wa.heap.size (wa.heap.size + 1) y = C := ⟨_, rfl⟩
  rw [hC] at hf
  have HC := Lib.hid hC
  clear hC HR hrf hba
  go_wp2_with (first | (refine wpList_buildTo rfl 77 _ rfl _ rfl C (Eq.trans (b := Try.prog.built 77 [(0, .pointer (some ⟨w.heap.size, 0, none⟩)), (1, .pointer (some ⟨wa.heap.size, 0, none⟩)), (2, .pointer (some ⟨wa.heap.size + 1, 0, none⟩)), (4, .int .i64 y)]) (by kernel_rfl) hf) ?_))
  go_ret2
  obtain ⟨A, hA⟩ : ∃ A, Obj.cells #[Value.bool b, Value.slice none 0 0] 93 = A := ⟨_, rfl⟩
  obtain ⟨E, hE⟩ : ∃ E, Obj.cells #[Value.bool false, Value.slice none 0 0] 93 = E := ⟨_, rfl⟩
  rw [hA, hE]
  have e1 : (wa.alloc A).heap.size = wa.heap.size + 1 := size_alloc wa A
  have e2 : ((wa.alloc A).alloc E).heap.size = wa.heap.size + 1 + 1 := by rw [size_alloc, e1]
  have hbl : Below wa.heap.size wa (((wa.alloc A).alloc E).alloc (.cells C 77)) := (((Below.refl _ _).alloc (Nat.le_refl _) A).alloc (by rw [e1]; omega) E).alloc (by rw [e2]; omega) _
  have q2 : (((wa.alloc A).alloc E).alloc (.cells C 77)).heap[wa.heap.size + 1 + 1]? = some (.cells C 77 (0, 0)) := by rw [← e2]; exact heap_alloc_new _ _
  have q1 : (((wa.alloc A).alloc E).alloc (.cells C 77)).heap[wa.heap.size + 1]? = some E := by
    rw [Below.heap_alloc _ _ _ (by rw [e2]; omega), ← e1]; exact heap_alloc_new _ _
  have q0 : (((wa.alloc A).alloc E).alloc (.cells C 77)).heap[wa.heap.size]? = some A := by
    rw [Below.heap_alloc _ _ _ (by rw [e2]; omega), Below.heap_alloc _ _ _ (by rw [e1]; omega)]; exact heap_alloc_new _ _
  have hsz := HBA.out.size
  refine ⟨wa.heap.size + 1 + 1, w.heap.size, wa.heap.size, wa.heap.size + 1, rfl, ⟨⟨C, q2, by rw [← HC.out, HY.out]; exact rz_r0 b _ _ _ m N⟩, ⟨none, 0, by rw [q0, ← hA]; rfl, .inl ⟨rfl, rfl⟩, Nat.le_refl _, by omega⟩, ⟨none, 0, by rw [q1, ← hE]; rfl, .inl ⟨rfl, rfl⟩, Nat.le_refl _, by omega⟩, HRF.out.below hbl, by omega, by omega, Nat.le_refl _, by omega, by omega⟩, below_trans HBA.out hbl⟩

set_option maxHeartbeats 4000000 in
/-- the law's got: the two tell the same -/
theorem got_ok {w : World} {o : Option (List Int)} {outs : List Int} {v1 : Value} {X Y : Option Addr} {n i j : Nat} (hv : ∃ Z a b, v1 = .slice Z a b) (h1 : Tx w v1 (o.getD [])) (h2 : Nr w (.slice X n i) outs) (h3 : Nr w (.slice Y n j) outs) :
    Calls Try.prog 17 #[.agg #[v1, .bool o.isSome, .slice X n i], .agg #[.string (R.str (o.getD [])), .bool o.isSome, .slice Y n j]] w fun e w' => e = .returned (.bool true) ∧ Below w.heap.size w w' := by
  obtain ⟨Z, a, b, rfl⟩ := hv
  obtain ⟨k, hk⟩ : ∃ k, o.isSome = k := ⟨_, rfl⟩
  obtain ⟨x, hx⟩ : ∃ x, o.getD [] = x := ⟨_, rfl⟩
  rw [hk, hx]
  rw [hx] at h1
  clear hk hx
  have HB1 : Below w.heap.size w (w.alloc (.cells #[.slice Z a b, .bool k, .slice X n i] 42)) := (Below.refl _ _).alloc (Nat.le_refl _) _
  have bx := box3_new w 42 (.slice Z a b) (.bool k) (.slice X n i)
  obtain ⟨w1, hw1⟩ : ∃ w1, w.alloc (.cells #[.slice Z a b, .bool k, .slice X n i] 42) = w1 := ⟨_, rfl⟩
  rw [hw1] at HB1 bx
  have HB2 : Below w1.heap.size w1 (w1.alloc (.cells #[.string (R.str x), .bool k, .slice Y n j] 46)) := (Below.refl _ _).alloc (Nat.le_refl _) _
  have by_ := box3_new w1 46 (.string (R.str x)) (.bool k) (.slice Y n j)
  obtain ⟨w2, hw2⟩ : ∃ w2, w1.alloc (.cells #[.string (R.str x), .bool k, .slice Y n j] 46) = w2 := ⟨_, rfl⟩
  rw [hw2] at HB2 by_
  have HB := Lib.hid (below_trans HB1 HB2)
  have bx2 := bx.below HB2
  have a0 := bx2.c0
  have a1 := bx2.c1
  have a2 := bx2.c2
  have b0 := by_.c0
  have b1 := by_.c1
  have b2 := by_.c2
  have hs := (h1.below HB.out).str
  have HSM := Lib.hid (same_any _ _ outs outs true w2 (h2.below HB.out) (h3.below HB.out) (by simp))
  have t2 : (k == k) = true := by simp
  clear h1 h2 h3 bx by_ bx2 HB1 HB2
  go_enter Try.func17, Try.ntmps17
  go_wp2_with fail
  refine HSM.out.mono ?_
  rintro e w3 ⟨rfl, hb3⟩
  have HB3 := Lib.hid (below_trans HB.out hb3)
  clear hb3 HSM
  go_wp2
  go_ret
  exact ⟨rfl, HB3.out⟩
end Go.Proofs.Ytneimdjgbblaoaa
