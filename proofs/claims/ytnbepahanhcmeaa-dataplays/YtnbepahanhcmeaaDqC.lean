/- Contracts of package dtq: TrySend, Send, Force, TryRecv, Recv, Drop, Change. -/
import Derived.Test.YtnbepahanhcmeaaDqB
namespace Go.Proofs.Ytnbepahanhcmeaa
open Go.RowKit
set_option maxRecDepth 100000

set_option maxHeartbeats 1600000 in
theorem trySend_any (B s : Nat) (v : Value) (t t' : St) (x r : Int) (k : Bool) (w : World) (h : Dq w B s v t) (hf : Fine t) (hs : trySend t x = (t', k, r)) :
    Calls Try.prog 14 #[.pointer (some ⟨s, 0, none⟩), .int .i64 x] w fun e w' => e = .returned (.tuple #[.bool k, .int .i64 r]) ∧ ∃ v', Dq w' B s v' t' ∧ Dt s v v' w w' := by
  obtain ⟨X, hl, hX⟩ := h.c.rq
  have H := Lib.hid h
  cases hr : t.R with
  | cons y R =>
    rw [trySend_yes hr] at hs
    injection hs with h1 h2
    injection h2 with h2 h3
    subst h2 h3
    have H1 := Lib.hid h1
    have hlen := hf.r.len
    rw [hr] at hl hlen
    have HT := Lib.hid (take_some s 82 false y R w hl hlen)
    have HX := Lib.hid hX
    obtain ⟨y1, y2⟩ := y
    simp only at HT ⊢
    clear h hl hX hlen hr hf h1
    go_enter Try.func14, Try.ntmps14
    go_wp2_with fail
    refine HT.out.mono ?_
    rintro e w1 ⟨rfl, hl1, ho⟩
    have HQ := Lib.hid (H.out.turn ho (HX.out w1 R hl1) rfl)
    have HO := Lib.hid ho
    have bx := box_new w1 68 (.int .i64 y1) (.int .i64 y2)
    have HB := Lib.hid (show Below w1.heap.size w1 (w1.alloc (.cells #[.int .i64 y1, .int .i64 y2] 68)) from (Below.refl _ _).alloc (Nat.le_refl _) _)
    have q0 := bx.c0
    clear hl1 ho bx HX HT H
    go_wp2
    go_quiet (fail)
    go_wp2
    go_ret2
    rw [← H1.out]
    exact ⟨rfl, v, (HQ.out.below HB.out).drewN _, ((Dt.of_only HO.out).trans (.of_below HB.out)).drewN _⟩
  | nil =>
    rw [hr] at hl
    have HT := Lib.hid (take_none s 82 false w hl)
    obtain ⟨XA, K, rfl, _, _⟩ := K.own_form h.o
    obtain ⟨n, hn⟩ : ∃ n, t.D.length = n := ⟨_, rfl⟩
    obtain ⟨m, hm⟩ : ∃ m, t.m = m := ⟨_, rfl⟩
    have hd := hf.d
    have hm64 := hf.m
    rw [hn, hm] at hd
    by_cases c : n < m
    · rw [trySend_room hr (by rw [hn, hm]; exact c)] at hs
      injection hs with h1 h2
      injection h2 with h2 h3
      subst h2 h3
      have H1 := Lib.hid h1
      have HN := Lib.hid hn
      have HM := Lib.hid hm
      have t1 : decide ((m : Int) ≤ (n : Int)) = false := by simp; omega
      have t2 : decide (m ≤ n) = false := by simp; omega
      have hn1000 : n ≤ 1000 := by rw [hm] at hm64; omega
      rw [hn] at H ⊢
      clear h hl hX hr hf h1 hd hm64 hn hm
      go_enter Try.func14, Try.ntmps14
      go_wp2_with fail
      refine HT.out.mono ?_
      rintro e w1 ⟨rfl, hb⟩
      have HB2 := Lib.hid (show Below w1.heap.size w1 (w1.alloc (.cells #[.int .i64 0, .int .i64 0] 68)) from (Below.refl _ _).alloc (Nat.le_refl _) _)
      have hq2 := (H.out.below hb).below HB2.out
      have HB := Lib.hid (below_trans hb HB2.out)
      have d0 := hq2.c.data
      have d1 := hq2.c.room
      rw [HM.out] at d1
      have HQ := Lib.hid hq2
      clear hb hq2 HT H
      go_wp2
      go_quiet (fail)
      have HA := Lib.hid (add_any' B s _ t x _ (HQ.out.drewN nq) (by rw [HN.out]; exact hn1000))
      have HK := Lib.hid ((Dt.of_below (s := s) (v := .slice XA n K) HB.out).drewN nq)
      clear d0 d1 HQ
      go_wp2_with fail
      refine HA.out.mono ?_
      rintro e w2 ⟨rfl, v', hq3, hk3⟩
      have HQ := Lib.hid hq3
      have HK3 := Lib.hid hk3
      clear hq3 hk3 HA
      go_wp2
      go_ret2
      rw [← H1.out]
      exact ⟨rfl, v', HQ.out, HK.out.trans HK3.out⟩
    · rw [trySend_no hr (by rw [hn, hm]; exact c)] at hs
      injection hs with h1 h2
      injection h2 with h2 h3
      subst h1 h2 h3
      have HM := Lib.hid hm
      have t1 : decide ((m : Int) ≤ (n : Int)) = true := by simp; omega
      have t2 : decide (m ≤ n) = true := by simp; omega
      rw [hn] at H ⊢
      clear h hl hX hr hf hd hm64 hn hm
      go_enter Try.func14, Try.ntmps14
      go_wp2_with fail
      refine HT.out.mono ?_
      rintro e w1 ⟨rfl, hb⟩
      have HB2 := Lib.hid (show Below w1.heap.size w1 (w1.alloc (.cells #[.int .i64 0, .int .i64 0] 68)) from (Below.refl _ _).alloc (Nat.le_refl _) _)
      have hq2 := (H.out.below hb).below HB2.out
      have HB := Lib.hid (below_trans hb HB2.out)
      have d0 := hq2.c.data
      have d1 := hq2.c.room
      rw [HM.out] at d1
      have HQ := Lib.hid hq2
      clear hb hq2 HT H
      go_wp2
      go_quiet (fail)
      go_wp2
      go_ret2
      exact ⟨rfl, _, HQ.out.drewN _, (Dt.of_below (s := s) (v := .slice XA n K) HB.out).drewN _⟩

set_option maxHeartbeats 1600000 in
theorem send_any (B s : Nat) (v : Value) (t t' : St) (id pri x r e : Int) (k : Bool) (w : World) (h : Dq w B s v t) (hf : Fine t) (hs : send t id pri x = (t', k, r, e)) :
    Calls Try.prog 12 #[.pointer (some ⟨s, 0, none⟩), .int .i64 id, .int .i64 pri, .int .i64 x] w fun en w' => en = .returned (.tuple #[.bool k, .int .i64 r, .int .i64 e]) ∧ ∃ v', Dq w' B s v' t' ∧ Dt s v v' w w' := by
  obtain ⟨t1, k1, r1, h0⟩ : ∃ t1 k1 r1, trySend t x = (t1, k1, r1) := ⟨_, _, _, rfl⟩
  have HT := Lib.hid (trySend_any B s v t t1 x r1 k1 w h hf h0)
  have HF := Lib.hid (hf.trySend h0)
  unfold send at hs
  rw [h0] at hs
  cases k1 with
  | true =>
    simp only [Prod.mk.injEq] at hs
    obtain ⟨h1, h2, h3, h4⟩ := hs
    subst h2 h3 h4
    have H1 := Lib.hid h1
    clear h hf h0 h1
    go_enter Try.func12, Try.ntmps12
    go_wp2_with fail
    refine HT.out.mono ?_
    rintro en w1 ⟨rfl, v', hq, hk⟩
    have HQ := Lib.hid hq
    have HK := Lib.hid hk
    clear hq hk HT
    go_wp2
    go_ret3
    rw [← H1.out]
    exact ⟨rfl, v', HQ.out, HK.out⟩
  | false =>
    obtain ⟨t2, e2, h5⟩ : ∃ t2 e2, waitS t1 id pri x = (t2, e2) := ⟨_, _, rfl⟩
    simp only [h5, Prod.mk.injEq] at hs
    obtain ⟨h1, h2, h3, h4⟩ := hs
    subst h2 h3 h4
    have H1 := Lib.hid h1
    have H5 := Lib.hid h5
    clear h hf h0 h1 h5
    go_enter Try.func12, Try.ntmps12
    go_wp2_with fail
    refine HT.out.mono ?_
    rintro en w1 ⟨rfl, v', hq, hk⟩
    have HW := Lib.hid (wait_any B s v' t1 t2 id pri x e2 w1 hq HF.out H5.out)
    have HK := Lib.hid hk
    clear hq hk HT
    go_wp2_with fail
    refine HW.out.mono ?_
    rintro en w2 ⟨rfl, hq, hk⟩
    have HQ := Lib.hid hq
    have HK2 := Lib.hid hk
    clear hq hk HW
    go_wp2
    go_ret3
    rw [← H1.out]
    exact ⟨rfl, v', HQ.out, HK.out.trans HK2.out⟩

set_option maxHeartbeats 1600000 in
theorem force_any (B s : Nat) (v : Value) (t t' : St) (x r e : Int) (w : World) (h : Dq w B s v t) (hf : Fine t) (hs : force t x = (t', r, e)) :
    Calls Try.prog 16 #[.pointer (some ⟨s, 0, none⟩), .int .i64 x] w fun en w' => en = .returned (.tuple #[.int .i64 r, .int .i64 e]) ∧ ∃ v', Dq w' B s v' t' ∧ Dt s v v' w w' := by
  have d1 := h.c.room
  have H := Lib.hid h
  unfold force at hs
  by_cases c : t.m = 0
  · rw [if_pos c] at hs
    simp only [Prod.mk.injEq] at hs
    obtain ⟨h1, h2, h3⟩ := hs
    subst h1 h2 h3
    rw [c] at d1
    clear h hf c
    go_enter Try.func16, Try.ntmps16
    go_wp2
    go_ret2
    exact ⟨rfl, v, H.out, Dt.refl _ _ _⟩
  · rw [if_neg c] at hs
    obtain ⟨t1, k1, r1, h0⟩ : ∃ t1 k1 r1, trySend t x = (t1, k1, r1) := ⟨_, _, _, rfl⟩
    have HT := Lib.hid (trySend_any B s v t t1 x r1 k1 w h hf h0)
    have HF := Lib.hid (hf.trySend h0)
    rw [h0] at hs
    have tm : ((t.m : Int) == 0) = false := by simp; omega
    obtain ⟨m, hm⟩ : ∃ m, t.m = m := ⟨_, rfl⟩
    rw [hm] at d1 tm
    cases k1 with
    | true =>
      simp only [Prod.mk.injEq] at hs
      obtain ⟨h1, h2, h3⟩ := hs
      subst h2 h3
      have H1 := Lib.hid h1
      clear h hf h0 h1 c hm H
      go_enter Try.func16, Try.ntmps16
      go_wp2_with fail
      refine HT.out.mono ?_
      rintro en w1 ⟨rfl, v', hq, hk⟩
      have HQ := Lib.hid hq
      have HK := Lib.hid hk
      clear hq hk HT d1
      go_wp2
      go_ret2
      rw [← H1.out]
      exact ⟨rfl, v', HQ.out, HK.out⟩
    | false =>
      simp only [Prod.mk.injEq] at hs
      obtain ⟨h1, h2, h3⟩ := hs
      subst h2 h3
      obtain ⟨e1, e3, e4, e2⟩ := trySend_false h0
      obtain ⟨d, D, hD⟩ : ∃ d D, t1.D = d :: D := by
        rw [e1]
        cases q : t.D with
        | nil => rw [q] at e2; simp at e2; omega
        | cons d D => exact ⟨d, D, rfl⟩
      have h1 : ({ ({ t1 with D := D } : St) with D := D ++ [x] } : St) = t' := by rw [← h1, hD]; rfl
      have hDl : D.length ≤ 1000 := by
        have := HF.out.d; have := HF.out.m; rw [hD] at *; simp at *; omega
      have H1 := Lib.hid h1
      have HD := Lib.hid hD
      clear h hf h0 h1 c hm H e1 e2 e3 e4 hD
      go_enter Try.func16, Try.ntmps16
      go_wp2_with fail
      refine HT.out.mono ?_
      rintro en w1 ⟨rfl, v1, hq, hk⟩
      have HTO := Lib.hid (takeOldest_any B s v1 t1 d D w1 hq HD.out)
      have HK := Lib.hid hk
      clear hq hk HT d1
      go_wp2_with fail
      refine HTO.out.mono ?_
      rintro en w2 ⟨rfl, v2, hq, hk⟩
      have HA := Lib.hid (add_any' B s v2 { t1 with D := D } x w2 hq hDl)
      have HK2 := Lib.hid (HK.out.trans hk)
      clear hq hk HTO
      go_wp2_with fail
      refine HA.out.mono ?_
      rintro en w3 ⟨rfl, v3, hq, hk⟩
      have HQ := Lib.hid hq
      have HK3 := Lib.hid (HK2.out.trans hk)
      clear hq hk HA
      go_wp2
      go_ret2
      rw [← H1.out]
      exact ⟨rfl, v3, HQ.out, HK3.out⟩

/-- what TryRecv and Recv return -/
def gv (d : Int) (k : Bool) (r : Int) : Value := .agg #[.int .i64 d, .bool k, .int .i64 r]
theorem und44 : ∃ fs, Try.prog.underlying 44 = some (.struct fs) := struct_of (by kernel_rfl)
theorem info44 : (Try.prog.info? 44).map (·.size) = some 3 := by kernel_rfl
theorem ret_got {fn : Func} {s : Tmp} (h : fn.results = #[.cell s 44]) (tmps : Array Value) (w : World) (g : Nat) (a b c : Value) (fr : Nat × Nat)
    (hp : tmps.getD s undef = .pointer (some ⟨g, 0, none⟩)) (hg : w.heap[g]? = some (.cells #[a, b, c] 44 fr)) : (results fn tmps).run Try.prog w = .ok (.agg #[a, b, c]) w := by
  obtain ⟨fs, h1⟩ := und44
  exact results_cell_row h tmps w g 44 #[a, b, c] fr (.struct fs) hp hg h1 rfl info44
theorem ret_got2 {fn : Func} {s u : Tmp} (h : fn.results = #[.cell s 44, .tmp u]) (tmps : Array Value) (w : World) (g : Nat) (a b c : Value) (fr : Nat × Nat)
    (hp : tmps.getD s undef = .pointer (some ⟨g, 0, none⟩)) (hg : w.heap[g]? = some (.cells #[a, b, c] 44 fr)) : (results fn tmps).run Try.prog w = .ok (.tuple #[.agg #[a, b, c], tmps.getD u undef]) w := by
  obtain ⟨fs, h1⟩ := und44
  have hl := run_loadVar_row (P := Try.prog) w g 44 44 #[a, b, c] fr (.struct fs) hg h1 rfl info44
  rw [results_cell_tmp h, hp]
  simp [asAddr, hl]

/-- a variable of three cells -/
def Box3 (w : World) (g : Nat) (T : TypeId) (a b c : Value) : Prop := w.heap[g]? = some (.cells #[a, b, c] T (0, 0))
section
variable {w w' : World} {g : Nat} {T : TypeId} {a b c : Value}
theorem Box3.c0 (h : Box3 w g T a b c) : w.cell? ⟨g, 0, none⟩ = some a := by rw [cell_of_row w g 0 _ T (0, 0) h]; rfl
theorem Box3.c1 (h : Box3 w g T a b c) : w.cell? ⟨g, 1, none⟩ = some b := by rw [cell_of_row w g 1 _ T (0, 0) h]; rfl
theorem Box3.c2 (h : Box3 w g T a b c) : w.cell? ⟨g, 2, none⟩ = some c := by rw [cell_of_row w g 2 _ T (0, 0) h]; rfl
theorem Box3.fz (h : Box3 w g T a b c) (i : Nat) : w.frozen? ⟨g, i, none⟩ = false := frozen_of_row w g i _ T h
theorem Box3.lt (h : Box3 w g T a b c) : g < w.heap.size := lt_of_heap h
theorem Box3.keep (h : Box3 w g T a b c) (k : w'.heap[g]? = w.heap[g]?) : Box3 w' g T a b c := k.trans h
theorem Box3.below (h : Box3 w g T a b c) (k : Below w.heap.size w w') : Box3 w' g T a b c := h.keep (k.block g h.lt)
theorem Box3.set0 (h : Box3 w g T a b c) (u : Value) : Box3 (w.setCell ⟨g, 0, none⟩ u) g T u b c := heap_setCell_same w g 0 #[a, b, c] T u h
theorem Box3.set1 (h : Box3 w g T a b c) (u : Value) : Box3 (w.setCell ⟨g, 1, none⟩ u) g T a u c := heap_setCell_same w g 1 #[a, b, c] T u h
theorem Box3.set2 (h : Box3 w g T a b c) (u : Value) : Box3 (w.setCell ⟨g, 2, none⟩ u) g T a b u := heap_setCell_same w g 2 #[a, b, c] T u h
end
theorem box3_new (w : World) (T : TypeId) (a b c : Value) : Box3 (w.alloc (.cells #[a, b, c] T)) w.heap.size T a b c := heap_alloc_new w _
/-- all of it laid anew: a block of the call's own -/
theorem Box3.all {w : World} {g B : Nat} {T : TypeId} {a b c : Value} (h : Box3 w g T a b c) (hB : B ≤ g) (x y z : Value) : Box3 (((w.setCell ⟨g, 0, none⟩ x).setCell ⟨g, 1, none⟩ y).setCell ⟨g, 2, none⟩ z) g T x y z ∧
    Below B w (((w.setCell ⟨g, 0, none⟩ x).setCell ⟨g, 1, none⟩ y).setCell ⟨g, 2, none⟩ z) ∧ Only g w (((w.setCell ⟨g, 0, none⟩ x).setCell ⟨g, 1, none⟩ y).setCell ⟨g, 2, none⟩ z) :=
  ⟨((h.set0 x).set1 y).set2 z, (((Below.refl B w).setCell (p := ⟨g, 0, none⟩) hB x).setCell (p := ⟨g, 1, none⟩) hB y).setCell (p := ⟨g, 2, none⟩) hB z,
   (((Only.refl g w).setCell (q := ⟨g, 0, none⟩) (.inl rfl) x).setCell (q := ⟨g, 1, none⟩) (.inl rfl) y).setCell (q := ⟨g, 2, none⟩) (.inl rfl) z⟩
theorem Dq.only {w w' : World} {B s q : Nat} {v : Value} {t : St} (h : Dq w B s v t) (k : Only q w w') (h1 : s ≠ q) (h3 : v.ownBlock ≠ some q) : Dq w' B s v t :=
  ⟨h.c.keep (k.block s h.lt h1), K.own_keep h.o fun g cs hg hv => k.block g (lt_of_heap hg) (by rintro rfl; exact h3 hv), h.b⟩
theorem Dq.box {w w' : World} {B s g : Nat} {v a b c : Value} {t : St} (h : Dq w B s v t) (bx : Box3 w g 44 a b c) (k : Only g w w') : Dq w' B s v t :=
  h.only k (by rintro rfl; exact h.c.type (e := 44) (by decide) _ _ bx) (own_ne h.o (fun cs fr e => by unfold Box3 at bx; rw [bx] at e; injection e with e; injection e with _ e; cases e))

set_option maxHeartbeats 1600000 in
theorem tryRecv_any (B s : Nat) (v : Value) (t t' : St) (d r : Int) (k : Bool) (w : World) (h : Dq w B s v t) (hf : Fine t) (hs : tryRecv t = (t', d, k, r)) :
    Calls Try.prog 21 #[.pointer (some ⟨s, 0, none⟩)] w fun e w' => e = .returned (gv d k r) ∧ ∃ v', Dq w' B s v' t' ∧ Dt s v v' w w' := by
  -- behind the call's own variable
  obtain ⟨w0, hw0⟩ : ∃ w0, w.alloc (.cells #[.int .i64 0, .bool false, .int .i64 0] 44) = w0 := ⟨_, rfl⟩
  have hb0 : Below w.heap.size w w0 := by rw [← hw0]; exact (Below.refl _ _).alloc (Nat.le_refl _) _
  have bx : Box3 w0 w.heap.size 44 (.int .i64 0) (.bool false) (.int .i64 0) := by rw [← hw0]; exact box3_new _ _ _ _ _
  have hgs : w.heap.size ≠ s := by have := h.lt; omega
  have hgv : v.ownBlock ≠ some w.heap.size := fun e => by obtain ⟨_, _, _, _, h1, _⟩ := own_blk h.o e; omega
  have h0 := h.below hb0
  have HB0 := Lib.hid hb0
  have HN := Lib.hid hgs
  have hsz : w.heap.size < w0.heap.size := bx.lt
  have hd1000 : t.D.length ≤ 1000 := by have := hf.d; have := hf.m; omega
  unfold tryRecv at hs
  cases hS : t.S with
  | nil =>
    have HR := Lib.hid (release_none B s v t w0 h0 hS)
    cases hD : t.D with
    | nil =>
      rw [hS, hD] at hs
      simp only [Prod.mk.injEq] at hs
      obtain ⟨h1, h2, h3, h4⟩ := hs
      subst h1 h2 h3 h4
      obtain ⟨u, hu⟩ : ∃ u, t.W 0 = u := ⟨_, rfl⟩
      rw [hu] at HR
      have H0 := Lib.hid h0
      have BX := Lib.hid bx
      have hv : ∃ X K, v = .slice X 0 K := by
        obtain ⟨X, K, e, _⟩ := K.own_form h.o; rw [hD] at e; exact ⟨X, K, e⟩
      obtain ⟨X, K, rfl⟩ := hv
      clear h hf hS hD hu h0 bx hb0 hgs hgv hsz hd1000
      go_enter Try.func21, Try.ntmps21
      go_wp2_with fail
      refine HR.out.mono ?_
      rintro en w1 ⟨rfl, hb⟩
      have HQ := Lib.hid (H0.out.below hb)
      have BX1 := Lib.hid (BX.out.below hb)
      have HB1 := Lib.hid (below_trans HB0.out hb)
      have c0 := HQ.out.c.data
      have z0 := BX1.out.fz 0
      have z1 := BX1.out.fz 1
      have z2 := BX1.out.fz 2
      have b0 := BX1.out.c0
      have b1 := BX1.out.c1
      have b2 := BX1.out.c2
      have HE := Lib.hid (BX1.out.all (Nat.le_refl _) (.int .i64 0) (.bool false) (.int .i64 0))
      clear hb HR BX H0 hw0
      go_wp2
      (try simp only [Exit.inBlock, Exit.then]); refine bodyPost_ret (ret_got rfl _ _ _ _ _ _ _ rfl HE.out.1) rfl ?_
      exact ⟨rfl, _, HQ.out.box BX1.out HE.out.2.2, (Dt.of_below HB1.out).later HE.out.2.1⟩
    | cons d0 D0 =>
      rw [hS, hD] at hs
      simp only [Prod.mk.injEq] at hs
      obtain ⟨h1, h2, h3, h4⟩ := hs
      subst h2 h3 h4
      have H1 := Lib.hid (show ({ t with D := D0 } : St) = t' by rw [← h1]; simp [hS])
      obtain ⟨u, hu⟩ : ∃ u, t.W 0 = u := ⟨_, rfl⟩
      rw [hu] at HR
      have H0 := Lib.hid h0
      have BX := Lib.hid bx
      have HD := Lib.hid hD
      have hv : ∃ X n K, v = .slice X n K ∧ 0 < n := by
        obtain ⟨X, K, e, _⟩ := K.own_form h.o; rw [hD] at e; exact ⟨X, _, K, e, by simp⟩
      obtain ⟨X, n, K, rfl, hn0⟩ := hv
      have tn : ((n : Int) == 0) = false := by simp; omega
      have HGV := Lib.hid hgv
      clear h hf hS hD hu h0 bx hb0 hgs hgv hd1000 h1 hsz
      go_enter Try.func21, Try.ntmps21
      go_wp2_with fail
      refine HR.out.mono ?_
      rintro en w1 ⟨rfl, hb⟩
      have HQ := Lib.hid (H0.out.below hb)
      have BX1 := Lib.hid (BX.out.below hb)
      have HB1 := Lib.hid (below_trans HB0.out hb)
      have c0 := HQ.out.c.data
      have HTO := Lib.hid (takeOldest_any B s _ t d0 D0 w1 HQ.out HD.out)
      clear hb HR BX H0 hw0
      go_wp2_with fail
      refine HTO.out.mono ?_
      rintro en w2 ⟨rfl, v2, hq2, hk2⟩
      have BX2 := Lib.hid (BX1.out.keep (hk2.block _ BX1.out.lt HN.out HGV.out))
      have HQ2 := Lib.hid hq2
      have HK2 := Lib.hid ((Dt.of_below HB1.out).trans hk2)
      clear hq2 hk2 HTO c0
      have z0 := BX2.out.fz 0
      have z1 := BX2.out.fz 1
      have z2 := BX2.out.fz 2
      have b0 := BX2.out.c0
      have b1 := BX2.out.c1
      have b2 := BX2.out.c2
      have HE := Lib.hid (BX2.out.all (Nat.le_refl _) (.int .i64 d0) (.bool true) (.int .i64 0))
      go_wp2
      (try simp only [Exit.inBlock, Exit.then]); refine bodyPost_ret (ret_got rfl _ _ _ _ _ _ _ rfl HE.out.1) rfl ?_
      rw [← H1.out]
      exact ⟨rfl, _, HQ2.out.box BX2.out HE.out.2.2, HK2.out.later HE.out.2.1⟩
  | cons y S =>
    obtain ⟨x, hx⟩ : ∃ x, t.W y.1.toNat = x := ⟨_, rfl⟩
    obtain ⟨e, E, hE⟩ : ∃ e E, t.D ++ [x] = e :: E := by
      cases q : t.D with
      | nil => exact ⟨x, [], rfl⟩
      | cons d0 D0 => exact ⟨d0, D0 ++ [x], rfl⟩
    have h1 : ({ ({ ({ t with S := S } : St) with D := t.D ++ [x] } : St) with D := E } : St) = t' ∧ e = d ∧ true = k ∧ y.1 = r := by
      rw [hS] at hs
      cases q : t.D with
      | nil =>
        rw [q] at hs hE
        simp only [List.nil_append, List.cons.injEq] at hE
        simp only [Prod.mk.injEq] at hs
        obtain ⟨e1, e2⟩ := hE
        subst e1 e2
        refine ⟨?_, by rw [← hs.2.1, hx], hs.2.2.1, hs.2.2.2⟩
        rw [← hs.1, ← q]
      | cons d0 D0 =>
        rw [q] at hs hE
        simp only [List.cons_append, List.cons.injEq] at hE
        simp only [Prod.mk.injEq] at hs
        obtain ⟨e1, e2⟩ := hE
        subst e1 e2
        refine ⟨?_, hs.2.1, hs.2.2.1, hs.2.2.2⟩
        rw [← hs.1, hx]
    obtain ⟨h1, h2, h3, h4⟩ := h1
    subst h2 h3 h4
    have H1 := Lib.hid h1
    have HR := Lib.hid (release_some B s v t y S w0 h0 hf hS)
    rw [hx] at HR
    have BX := Lib.hid bx
    have HGV := Lib.hid hgv
    have HDL := Lib.hid hd1000
    have HE1 := Lib.hid hE
    obtain ⟨y1, y2⟩ := y
    simp only at HR ⊢
    clear h hf hS hx hE h1 h0 bx hb0 hgs hgv hd1000 hsz hs
    go_enter Try.func21, Try.ntmps21
    go_wp2_with fail
    refine HR.out.mono ?_
    rintro en w1 ⟨rfl, hq1, hk1⟩
    have BX1 := Lib.hid (BX.out.keep (hk1.block _ BX.out.lt HN.out HGV.out))
    have HA := Lib.hid (add_any' B s v _ x w1 hq1 HDL.out)
    have HK1 := Lib.hid ((Dt.of_below HB0.out).trans hk1)
    clear hq1 hk1 HR BX hw0
    go_wp2_with fail
    refine HA.out.mono ?_
    rintro en w2 ⟨rfl, v2, hq2, hk2⟩
    have BX2 := Lib.hid (BX1.out.keep (hk2.block _ BX1.out.lt HN.out HGV.out))
    have HK2 := Lib.hid (HK1.out.trans hk2)
    have HTO := Lib.hid (takeOldest_any B s v2 _ e E w2 hq2 HE1.out)
    have hv : ∃ X n K, v2 = .slice X n K ∧ 0 < n := by
      obtain ⟨X, K, e, _⟩ := K.own_form hq2.o
      exact ⟨X, _, K, e, by show 0 < (t.D ++ [x]).length; simp⟩
    obtain ⟨X, n, K, rfl, hn0⟩ := hv
    have tn : ((n : Int) == 0) = false := by simp; omega
    have c0 := hq2.c.data
    have HG2 := Lib.hid (own_ne hq2.o (s := w.heap.size) (fun cs fr e => by have bx := BX2.out; unfold Box3 at bx; rw [bx] at e; injection e with e; injection e with _ e; cases e))
    clear hq2 hk2 HA BX1 HK1
    go_wp2_with fail
    refine HTO.out.mono ?_
    rintro en w3 ⟨rfl, v3, hq3, hk3⟩
    have BX3 := Lib.hid (BX2.out.keep (hk3.block _ BX2.out.lt HN.out HG2.out))
    have HQ3 := Lib.hid hq3
    have HK3 := Lib.hid (HK2.out.trans hk3)
    clear hq3 hk3 HTO c0 tn BX2
    have z0 := BX3.out.fz 0
    have z1 := BX3.out.fz 1
    have z2 := BX3.out.fz 2
    have b0 := BX3.out.c0
    have b1 := BX3.out.c1
    have b2 := BX3.out.c2
    have HE := Lib.hid (BX3.out.all (Nat.le_refl _) (.int .i64 e) (.bool true) (.int .i64 y1))
    go_wp2
    (try simp only [Exit.inBlock, Exit.then]); refine bodyPost_ret (ret_got rfl _ _ _ _ _ _ _ rfl HE.out.1) rfl ?_
    rw [← H1.out]
    exact ⟨rfl, _, HQ3.out.box BX3.out HE.out.2.2, HK3.out.later HE.out.2.1⟩

set_option maxHeartbeats 1600000 in
theorem recv_any (B s : Nat) (v : Value) (t t' : St) (id pri d r e : Int) (k : Bool) (w : World) (h : Dq w B s v t) (hf : Fine t) (hs : recv t id pri = (t', d, k, r, e)) :
    Calls Try.prog 18 #[.pointer (some ⟨s, 0, none⟩), .int .i64 id, .int .i64 pri] w fun en w' => en = .returned (.tuple #[gv d k r, .int .i64 e]) ∧ ∃ v', Dq w' B s v' t' ∧ Dt s v v' w w' := by
  obtain ⟨w0, hw0⟩ : ∃ w0, w.alloc (.cells #[.int .i64 0, .bool false, .int .i64 0] 44) = w0 := ⟨_, rfl⟩
  have hb0 : Below w.heap.size w w0 := by rw [← hw0]; exact (Below.refl _ _).alloc (Nat.le_refl _) _
  have bx : Box3 w0 w.heap.size 44 (.int .i64 0) (.bool false) (.int .i64 0) := by rw [← hw0]; exact box3_new _ _ _ _ _
  have hgs : w.heap.size ≠ s := by have := h.lt; omega
  have hgv : v.ownBlock ≠ some w.heap.size := fun e => by obtain ⟨_, _, _, _, h1, _⟩ := own_blk h.o e; omega
  have h0 := h.below hb0
  have HB0 := Lib.hid hb0
  have HN := Lib.hid hgs
  have HGV := Lib.hid hgv
  obtain ⟨t1, d1, k1, r1, h2⟩ : ∃ t1 d1 k1 r1, tryRecv t = (t1, d1, k1, r1) := ⟨_, _, _, _, rfl⟩
  have HT := Lib.hid (tryRecv_any B s v t t1 d1 r1 k1 w0 h0 hf h2)
  have HF := Lib.hid (hf.tryRecv h2)
  have BX := Lib.hid bx
  unfold recv at hs
  rw [h2] at hs
  unfold gv at HT
  -- behind the call: its answer in a variable
  cases k1 with
  | true =>
    simp only [Prod.mk.injEq] at hs
    obtain ⟨h1, h3, h4, h5, h6⟩ := hs
    subst h3 h4 h5 h6
    have H1 := Lib.hid h1
    clear h hf h2 h0 bx hb0 hgs hgv h1
    go_enter Try.func18, Try.ntmps18
    go_wp2_with fail
    refine HT.out.mono ?_
    rintro en w1 ⟨rfl, v1, hq1, hk1⟩
    have BX1 := Lib.hid (BX.out.keep (hk1.block _ BX.out.lt HN.out HGV.out))
    have HQ1 := Lib.hid hq1
    have HK1 := Lib.hid ((Dt.of_below HB0.out).trans hk1)
    have HB2 := Lib.hid (show Below w1.heap.size w1 (w1.alloc (.cells #[.int .i64 d1, .bool true, .int .i64 r1] 44)) from (Below.refl _ _).alloc (Nat.le_refl _) _)
    have ax := box3_new w1 44 (.int .i64 d1) (.bool true) (.int .i64 r1)
    have BX2 := Lib.hid (BX1.out.below HB2.out)
    have HQ2 := Lib.hid (HQ1.out.below HB2.out)
    have HK2 := Lib.hid (HK1.out.trans (.of_below HB2.out))
    have a0 := ax.c0
    have a1 := ax.c1
    have a2 := ax.c2
    have z0 := BX2.out.fz 0
    have z1 := BX2.out.fz 1
    have z2 := BX2.out.fz 2
    have b0 := BX2.out.c0
    have b1 := BX2.out.c1
    have b2 := BX2.out.c2
    have HE := Lib.hid (BX2.out.all (Nat.le_refl _) (.int .i64 d1) (.bool true) (.int .i64 r1))
    clear hq1 hk1 HT BX hw0 ax
    go_wp2
    (try simp only [Exit.inBlock, Exit.then]); refine bodyPost_ret (ret_got2 rfl _ _ _ _ _ _ _ rfl HE.out.1) rfl ?_
    rw [← H1.out]
    exact ⟨rfl, _, HQ2.out.box BX2.out HE.out.2.2, HK2.out.later HE.out.2.1⟩
  | false =>
    obtain ⟨e1, e2, e3, e4, e5⟩ := tryRecv_false h2
    subst e1 e2 e3
    obtain ⟨t2, e2, h5⟩ : ∃ t2 e2, waitR t1 id pri = (t2, e2) := ⟨_, _, rfl⟩
    simp only [h5, Prod.mk.injEq] at hs
    obtain ⟨h1, h3, h4, h6, h7⟩ := hs
    subst h1 h3 h4 h6 h7
    have H5 := Lib.hid h5
    clear h hf h2 h0 bx hb0 hgs hgv h5 e4 e5
    go_enter Try.func18, Try.ntmps18
    go_wp2_with fail
    refine HT.out.mono ?_
    rintro en w1 ⟨rfl, v1, hq1, hk1⟩
    have BX1 := Lib.hid (BX.out.keep (hk1.block _ BX.out.lt HN.out HGV.out))
    have HQ1 := Lib.hid hq1
    have HK1 := Lib.hid ((Dt.of_below HB0.out).trans hk1)
    have HB2 := Lib.hid (show Below w1.heap.size w1 (w1.alloc (.cells #[.int .i64 0, .bool false, .int .i64 0] 44)) from (Below.refl _ _).alloc (Nat.le_refl _) _)
    have ax := box3_new w1 44 (.int .i64 0) (.bool false) (.int .i64 0)
    have BX2 := Lib.hid (BX1.out.below HB2.out)
    have hq2 := HQ1.out.below HB2.out
    have HK2 := Lib.hid (HK1.out.trans (.of_below HB2.out))
    have a0 := ax.c0
    have a1 := ax.c1
    have a2 := ax.c2
    obtain ⟨X, hl, hX⟩ := hq2.c.rq
    have HA := Lib.hid (add_any s 82 false t1.R _ hl HF.out.r id pri)
    have HX := Lib.hid hX
    have HQ2 := Lib.hid hq2
    clear hq1 hk1 HT BX hw0 ax hq2 hl hX
    go_wp2_with fail
    refine HA.out.mono ?_
    rintro en w3 ⟨rfl, hl3, ho3⟩
    have h5 := H5.out
    unfold waitR at h5
    injection h5 with h5 h6
    have HQ3 := Lib.hid (show Dq w3 B s v1 t2 by rw [← h5]; exact HQ2.out.turn ho3 (HX.out w3 _ hl3) rfl)
    have BX3 := Lib.hid (BX2.out.keep (ho3.block _ BX2.out.lt HN.out))
    have HK3 := Lib.hid (HK2.out.trans (Dt.of_only (v := v1) ho3))
    rw [h6]
    clear hl3 ho3 h5 h6 a0 a1 a2 HA
    have z0 := BX3.out.fz 0
    have z1 := BX3.out.fz 1
    have z2 := BX3.out.fz 2
    have b0 := BX3.out.c0
    have b1 := BX3.out.c1
    have b2 := BX3.out.c2
    have HE := Lib.hid (BX3.out.all (Nat.le_refl _) (.int .i64 0) (.bool false) (.int .i64 0))
    go_wp2
    (try simp only [Exit.inBlock, Exit.then]); refine bodyPost_ret (ret_got2 rfl _ _ _ _ _ _ _ rfl HE.out.1) rfl ?_
    exact ⟨rfl, _, HQ3.out.box BX3.out HE.out.2.2, HK3.out.later HE.out.2.1⟩

set_option maxHeartbeats 1600000 in
theorem drop_any (B s : Nat) (v : Value) (t t' : St) (id : Int) (k : Bool) (w : World) (h : Dq w B s v t) (hf : Fine t) (hs : drop t id = (t', k)) :
    Calls Try.prog 23 #[.pointer (some ⟨s, 0, none⟩), .int .i64 id] w fun e w' => e = .returned (.bool k) ∧ Dq w' B s v t' ∧ Dt s v v w w' := by
  obtain ⟨X, hl, hX⟩ := h.c.sq
  have HA := Lib.hid (remove_any s 82 t.b t.S w hl hf.s.len id)
  have HX := Lib.hid hX
  have H := Lib.hid h
  unfold drop at hs
  by_cases c : pos t.S id < t.S.length
  · rw [if_pos c] at hs
    injection hs with h1 h2
    subst h2
    have H1 := Lib.hid h1
    rw [decide_eq_true c] at HA
    clear h hl hX hf h1 c
    go_enter Try.func23, Try.ntmps23
    go_wp2_with fail
    refine HA.out.mono ?_
    rintro en w1 ⟨rfl, hl1, ho⟩
    have HQ := Lib.hid (H.out.turn ho (HX.out w1 _ hl1) rfl)
    have HO := Lib.hid ho
    clear hl1 ho HX HA H
    go_wp2
    go_ret
    rw [← H1.out]
    exact ⟨rfl, HQ.out, Dt.of_only HO.out⟩
  · rw [if_neg c] at hs
    injection hs with h1 h2
    have H1 := Lib.hid h1
    have H2 := Lib.hid h2
    rw [decide_eq_false c, List.eraseIdx_of_length_le (by omega)] at HA
    have HF := Lib.hid hf
    clear h hl hX hf h1 c h2
    go_enter Try.func23, Try.ntmps23
    go_wp2_with fail
    refine HA.out.mono ?_
    rintro en w1 ⟨rfl, hl1, ho⟩
    have hq1 := H.out.turn ho (HX.out w1 _ hl1) rfl
    obtain ⟨Y, hr, hY⟩ := hq1.c.rq
    have HR := Lib.hid (remove_any s 82 false t.R w1 hr HF.out.r.len id)
    rw [H2.out] at HR
    have HQ := Lib.hid hq1
    have HY := Lib.hid hY
    have HO := Lib.hid ho
    clear hl1 ho HX HA H hq1 hr hY
    go_wp2_with fail
    refine HR.out.mono ?_
    rintro en w2 ⟨rfl, hl2, ho2⟩
    have HQ2 := Lib.hid (HQ.out.turn ho2 (HY.out w2 _ hl2) rfl)
    have HO2 := Lib.hid (HO.out.trans ho2)
    clear hl2 ho2 HR HQ HY HO
    go_wp2
    go_ret
    rw [← H1.out]
    exact ⟨rfl, HQ2.out, Dt.of_only HO2.out⟩

set_option maxHeartbeats 1600000 in
theorem change_any' (B s : Nat) (v : Value) (t t' : St) (id pri : Int) (k : Bool) (w : World) (h : Dq w B s v t) (hf : Fine t) (hs : change t id pri = (t', k)) :
    Calls Try.prog 25 #[.pointer (some ⟨s, 0, none⟩), .int .i64 id, .int .i64 pri] w fun e w' => e = .returned (.bool k) ∧ Dq w' B s v t' ∧ Dt s v v w w' := by
  obtain ⟨X, hl, hX⟩ := h.c.sq
  have HA := Lib.hid (change_any s 82 t.b t.S w hl hf.s id pri)
  have HX := Lib.hid hX
  have H := Lib.hid h
  unfold change at hs
  by_cases c : chgOk t.S id pri = true
  · rw [if_pos c] at hs
    injection hs with h1 h2
    subst h2
    have H1 := Lib.hid h1
    rw [c] at HA
    clear h hl hX hf h1 c
    go_enter Try.func25, Try.ntmps25
    go_wp2_with fail
    refine HA.out.mono ?_
    rintro en w1 ⟨rfl, hl1, ho⟩
    have HQ := Lib.hid (H.out.turn ho (HX.out w1 _ hl1) rfl)
    have HO := Lib.hid ho
    clear hl1 ho HX HA H
    go_wp2
    go_ret
    rw [← H1.out]
    exact ⟨rfl, HQ.out, Dt.of_only HO.out⟩
  · rw [if_neg c] at hs
    injection hs with h1 h2
    have H1 := Lib.hid h1
    have H2 := Lib.hid h2
    have c2 : chgOk t.S id pri = false := by simpa using c
    have c3 : chgL t.b t.S id pri = t.S := by unfold chgL; unfold chgOk at c; rw [if_neg (by simpa using c)]
    rw [c2, c3] at HA
    have HF := Lib.hid hf
    clear h hl hX hf h1 c h2 c2 c3
    go_enter Try.func25, Try.ntmps25
    go_wp2_with fail
    refine HA.out.mono ?_
    rintro en w1 ⟨rfl, hl1, ho⟩
    have hq1 := H.out.turn ho (HX.out w1 _ hl1) rfl
    obtain ⟨Y, hr, hY⟩ := hq1.c.rq
    have HR := Lib.hid (change_any s 82 false t.R w1 hr HF.out.r id pri)
    rw [H2.out] at HR
    have HQ := Lib.hid hq1
    have HY := Lib.hid hY
    have HO := Lib.hid ho
    clear hl1 ho HX HA H hq1 hr hY
    go_wp2_with fail
    refine HR.out.mono ?_
    rintro en w2 ⟨rfl, hl2, ho2⟩
    have HQ2 := Lib.hid (HQ.out.turn ho2 (HY.out w2 _ hl2) rfl)
    have HO2 := Lib.hid (HO.out.trans ho2)
    clear hl2 ho2 HR HQ HY HO
    go_wp2
    go_ret
    rw [← H1.out]
    exact ⟨rfl, HQ2.out, Dt.of_only HO2.out⟩
end Go.Proofs.Ytnbepahanhcmeaa
