/- Contracts of the document's data queue: TryRecv, Recv, Drop, Change, New; IDs. -/
import Derived.Test.YtnbepahanhcmeaaRfB
namespace Go.Proofs.Ytnbepahanhcmeaa.K
open Go.RowKit
set_option maxRecDepth 100000
theorem step_append_one {α : Type} {cc : α → List Value} {ts te : TypeId} {z : Nat} (kd : Kd α cc ts te z) (hz0 : 0 < z) {w : World} {ops : Array Oper} {o : Oper} {a : Act} {K : Act → World → Prop} {Q : Exit → Act → World → Prop} {E : Prop} (hgd : o.guard = none) (s x : Operand)
    (ho : o.op = .call { callee := .builtin .append, args := #[s, x], argTypes := #[ts, ts] })
    (base : Nat) (v : Value) (L1 : List α) (y : α) (n1 : Nat) (hn1 : L1.length = n1) (hs : a.eval s = v) (hown : w.ownsRow base te z v n1 (vals cc L1)) (X : Option Addr) (k : Nat) (hx : a.eval x = .slice X 1 k)
    (hsrc : Sr cc w X k [y]) (h63 : n1 + 1 ≤ 100000) (hbase : base ≤ w.heap.size)
    (h : ∀ X' k' w', w'.ownsRow base te z (.slice X' (n1 + 1) k') (n1 + 1) (vals cc (L1 ++ [y])) → w.grownBy w' v.ownBlock → ((Value.slice X' (n1 + 1) k').ownBlock = v.ownBlock ∨ (Value.slice X' (n1 + 1) k').ownBlock = some w.heap.size) → K (a.put o.dst (.slice X' (n1 + 1) k')) w') :
    if Region.wanted o (yielded ops a.tmps) = true then Oper.wp Try.prog o a w K Q else E := by
  have hw : Region.wanted o (yielded ops a.tmps) = true := by simp [Region.wanted, hgd]
  rw [if_pos hw]
  obtain ⟨i0, zr, b0, hi, hzr, hz1, hz2, hzs, hb0⟩ := kd.info
  subst hn1
  rcases hsrc with ⟨_, h0, _⟩ | ⟨b, off, rfl, _, hc⟩
  · cases h0
  · have hb1 : (L1.length + 1) * b0 ≤ 140737488355328 := by
      have : (L1.length + 1) * b0 ≤ 100000 * 32 := Nat.mul_le_mul h63 hb0
      omega
    have hc' : ∀ j u, (vals cc [y])[j]? = some u → w.cell? ((⟨b, off, none⟩ : Addr).add j) = some u := fun j u hu => by rw [addr_add]; exact hc j u hu
    have h1' : ∀ u ∈ vals cc [y], u.oneCell' = true := fun u hu => by
      obtain ⟨y', _, hy⟩ := List.mem_flatMap.1 hu
      exact kd.one y' u hy
    have hl' := vals_len kd.len [y]
    have hm' : L1.length + 1 ≤ maxLen := by unfold maxLen; omega
    obtain ⟨v', w', hr, h2, h3, h4⟩ := run_append_own (P := Try.prog) w base ts o.type te i0 zr z b0 kd.und hi hzr hz1 hz2 hzs hz0 v L1.length (vals cc L1) hown ⟨b, off, none⟩ 1 k (vals cc [y]) hl' hc' h1' hm' hb1 hbase
    have hwh := append_where kd.und hi hzr hz1 hz2 hown hl' hc' h1' hm' hb1 (Nat.one_pos) hr
    have h3' : w'.ownsRow base te z v' (L1.length + 1) (vals cc (L1 ++ [y])) := by rw [vals_append]; exact h2
    obtain ⟨X', k', rfl, _⟩ := own_form h3'
    unfold Oper.wp execOp
    simp only [ho, resolve, invoke, builtin, Sem.run_bind, Sem.run_pure, Result.andThen_ok, List.map_toArray, List.map_cons, List.map_nil, hs, hx, hr]
    exact h X' k' w' h3' h3 hwh

end Go.Proofs.Ytnbepahanhcmeaa.K
namespace Go.Proofs.Ytnbepahanhcmeaa
open Go.RowKit
set_option maxRecDepth 100000

theorem und47 : ∃ fs, Try.prog.underlying 47 = some (.struct fs) := struct_of (by kernel_rfl)
theorem info47 : (Try.prog.info? 47).map (·.size) = some 3 := by kernel_rfl
theorem ret_rgot {fn : Func} {s : Tmp} (h : fn.results = #[.cell s 47]) (tmps : Array Value) (w : World) (g : Nat) (a b c : Value) (fr : Nat × Nat)
    (hp : tmps.getD s undef = .pointer (some ⟨g, 0, none⟩)) (hg : w.heap[g]? = some (.cells #[a, b, c] 47 fr)) : (results fn tmps).run Try.prog w = .ok (.agg #[a, b, c]) w := by
  obtain ⟨fs, h1⟩ := und47
  exact results_cell_row h tmps w g 47 #[a, b, c] fr (.struct fs) hp hg h1 rfl info47
theorem ret_rgot2 {fn : Func} {s u : Tmp} (h : fn.results = #[.cell s 47, .tmp u]) (tmps : Array Value) (w : World) (g : Nat) (a b c : Value) (fr : Nat × Nat)
    (hp : tmps.getD s undef = .pointer (some ⟨g, 0, none⟩)) (hg : w.heap[g]? = some (.cells #[a, b, c] 47 fr)) : (results fn tmps).run Try.prog w = .ok (.tuple #[.agg #[a, b, c], tmps.getD u undef]) w := by
  obtain ⟨fs, h1⟩ := und47
  have hl := run_loadVar_row (P := Try.prog) w g 47 47 #[a, b, c] fr (.struct fs) hg h1 rfl info47
  rw [results_cell_tmp h, hp]
  simp [asAddr, hl]

/-- a call's own variable (type 47) is none of the queue's blocks -/
theorem Rf.nb {w : World} {B m p r g : Nat} {u a b c : Value} {t : St} (h : Rf w B m p r u t) (bx : Box3 w g 47 a b c) : g ≠ m ∧ g ≠ p ∧ g ≠ r := by
  refine ⟨?_, ?_, ?_⟩
  · rintro rfl; exact h.d.type (e := 47) (by decide) _ _ bx
  · rintro rfl; exact h.s.type (e := 47) (by decide) _ _ bx
  · rintro rfl; exact h.q.type (e := 47) (by decide) _ _ bx
theorem Box3.et {w w' : World} {B m p r g : Nat} {u u' a b c : Value} {t : St} (bx : Box3 w g 47 a b c) (h : Rf w B m p r u t) (k : Et m p r u u' w w') : Box3 w' g 47 a b c :=
  bx.keep (k.block g bx.lt (h.nb bx).1 (h.nb bx).2.1 (h.nb bx).2.2)
theorem Rf.box {w w' : World} {B m p r g : Nat} {u a b c : Value} {t : St} (h : Rf w B m p r u t) (bx : Box3 w g 47 a b c) (k : Only g w w') : Rf w' B m p r u t :=
  ⟨h.d.keep (k.block m h.d.lt (Ne.symm (h.nb bx).1)), h.s.keepT (fun q cs e hq he => k.block q (lt_of_heap hq) (by
      rintro rfl
      have h47 := heap_type hq bx
      rcases he with ⟨e1, _⟩ | e1 <;> subst e1 <;> exact absurd h47 (by decide))), h.q.keepT (fun q cs e hq he => k.block q (lt_of_heap hq) (by
      rintro rfl
      have h47 := heap_type hq bx
      rcases he with ⟨e1, _⟩ | e1 <;> subst e1 <;> exact absurd h47 (by decide))), own_only h.o k (fun cs fr e => absurd (heap_type e bx) (by decide)), h.n, h.bm, h.bp, h.br⟩
/-- a variable of the call's own turned: nothing of what was there -/
theorem Et.own {m p r g : Nat} {u u' : Value} {w w1 w2 : World} (h : Et m p r u u' w w1) (k : Only g w1 w2) (hg : w.heap.size ≤ g) : Et m p r u u' w w2 :=
  ⟨k.os.trans h.os, k.tape.trans h.tape, k.output.trans h.output, Nat.le_trans h.size k.size, fun i hi h1 h2 h3 => (k.block i (Nat.lt_of_lt_of_le hi h.size) (by omega)).trans (h.block i hi h1 h2 h3), h.wh⟩

set_option maxHeartbeats 1600000 in
/-- nothing is there -/
theorem rtryRecv_none (B m p r : Nat) (u : Value) (t t' : St) (d c : Int) (k : Bool) (w : World) (h : Rf w B m p r u t) (hf : Fine t) (hs : tryRecv t = (t', d, k, c)) (hD : t.D = []) :
    Calls Try.prog 22 #[.pointer (some ⟨m, 0, none⟩)] w fun e w' => e = .returned (gv d k c) ∧ ∃ u', Rf w' B m p r u' t' ∧ Et m p r u u' w w' := by
  have hb0 : Below w.heap.size w (w.alloc (.cells #[.int .i64 0, .bool false, .int .i64 0] 47)) := (Below.refl _ _).alloc (Nat.le_refl _) _
  have bx := box3_new w 47 (.int .i64 0) (.bool false) (.int .i64 0)
  have h0 := h.below hb0
  have HE0 := Lib.hid (Et.of_below (m := m) (p := p) (r := r) (u := u) hb0)
  obtain ⟨w0, hw0⟩ : ∃ w0, w.alloc (.cells #[.int .i64 0, .bool false, .int .i64 0] 47) = w0 := ⟨_, rfl⟩
  rw [hw0] at bx h0 HE0
  obtain ⟨XA, KA, rfl, _, _⟩ := K.own_form h.o
  have hl : t.D.length = 0 := by rw [hD]; rfl
  rw [hl] at h0 HE0 ⊢
  have d0 := h0.d.data
  have c0 := h0.d.c0
  have H0 := Lib.hid h0
  have BX := Lib.hid bx
  cases hS : t.S with
  | nil =>
    have hq := h0.s
    rw [hS] at hq
    have HT := Lib.hid (rtake_none p t.b w0 hq)
    rw [tryRecv_none hS hD] at hs
    simp only [Prod.mk.injEq] at hs
    obtain ⟨h1, h2, h3, h4⟩ := hs
    subst h1 h2 h3 h4
    clear h hf hS hD hq bx h0 hb0 hl
    go_enter Try.func22, Try.ntmps22
    go_wp2_with fail
    refine HT.out.mono ?_
    rintro en w1 ⟨rfl, hb⟩
    have hb2 : Below w1.heap.size w1 (w1.alloc (.cells #[.int .i64 0, .int .i64 0] 97)) := (Below.refl _ _).alloc (Nat.le_refl _) _
    have HB2 := Lib.hid (below_trans hb hb2)
    have BX2 := Lib.hid (BX.out.below HB2.out)
    have HQ2 := Lib.hid (H0.out.below HB2.out)
    have HE2 := Lib.hid (HE0.out.trans (.of_below HB2.out))
    have z0 := BX2.out.fz 0
    have z1 := BX2.out.fz 1
    have z2 := BX2.out.fz 2
    have b0 := BX2.out.c0
    have b1 := BX2.out.c1
    have b2 := BX2.out.c2
    have HX := Lib.hid (BX2.out.all (Nat.le_refl _) (.int .i64 0) (.bool false) (.int .i64 0))
    clear hb hb2 HT d0 c0
    go_wp2
    (try simp only [Exit.inBlock, Exit.then]); refine bodyPost_ret (ret_rgot rfl _ _ _ _ _ _ _ rfl HX.out.1) rfl ?_
    exact ⟨rfl, _, HQ2.out.box BX2.out HX.out.2.2, HE2.out.own HX.out.2.2 (Nat.le_refl _)⟩
  | cons y S =>
    have hq := h0.s
    have hlen := hf.s.len
    have hrng := hf.s.rng y (by rw [hS]; simp)
    rw [hS] at hq hlen
    have HT := Lib.hid (rtake_some p t.b y S w0 hq hlen)
    rw [tryRecv_hand hS hD] at hs
    simp only [Prod.mk.injEq] at hs
    obtain ⟨h1, h2, h3, h4⟩ := hs
    obtain ⟨j, hj⟩ : ∃ j : Nat, y.1 = (j : Int) := ⟨y.1.toNat, by omega⟩
    have hj17 : j < 17 := by omega
    have hji : (j : Int) < 17 := by omega
    obtain ⟨y1, y2⟩ := y
    simp only at hj
    subst hj
    rw [show ((j : Int), y2).1.toNat = j from rfl] at h2
    simp only at HT h4
    subst h3 h4
    obtain ⟨x, hx⟩ : ∃ x, t.W j = x := ⟨_, rfl⟩
    have hxd : x = d := by rw [← hx]; exact h2
    subst hxd
    have HXW := Lib.hid hx
    have H1 := Lib.hid h1
    clear h hf hS hD hq bx h0 hb0 hl hlen hrng h1 h2 hx
    go_enter Try.func22, Try.ntmps22
    go_wp2_with fail
    refine HT.out.mono ?_
    rintro en w1 ⟨rfl, hl1, ho1⟩
    have HQ1 := Lib.hid (H0.out.sq ho1 hl1)
    have HE1 := Lib.hid (HE0.out.trans (Et.of_only (m := m) (p := p) (r := r) (u := .slice XA 0 KA) ho1 (.inr (.inl rfl))))
    have BX1 := Lib.hid (BX.out.keep (ho1.block _ BX.out.lt (H0.out.nb BX.out).2.1))
    have ax := box_new w1 97 (.int .i64 (j : Int)) (.int .i64 y2)
    have HB2 := Lib.hid (show Below w1.heap.size w1 (w1.alloc (.cells #[.int .i64 (j : Int), .int .i64 y2] 97)) from (Below.refl _ _).alloc (Nat.le_refl _) _)
    have BX2 := Lib.hid (BX1.out.below HB2.out)
    have HQ2 := Lib.hid (HQ1.out.below HB2.out)
    have HE2 := Lib.hid (HE1.out.trans (.of_below HB2.out))
    have q0 := ax.c0
    have hw2 := HQ2.out.d.wish hj17
    rw [show ({ t with S := S } : St).W j = t.W j from rfl, HXW.out] at hw2
    clear hl1 ho1 HT ax d0 c0
    go_wp2
    generalize w1.alloc _ = w2 at *
    go_still_tail 10, (by kernel_rfl)
    change wpList _ _ _ _ _ w2.drew
    have BX3 := Lib.hid (BX2.out.below (below_drewN w2 1))
    have HQ3 := Lib.hid (HQ2.out.below (below_drewN w2 1))
    have HE3 := Lib.hid (HE2.out.trans (.of_below (below_drewN w2 1)))
    clear q0 hw2
    have e3 : w2.drewN 1 = w2.drew := rfl
    rw [e3] at BX3 HQ3 HE3
    generalize w2.drew = w3 at *
    have z0 := BX3.out.fz 0
    have z1 := BX3.out.fz 1
    have z2 := BX3.out.fz 2
    have b0 := BX3.out.c0
    have b1 := BX3.out.c1
    have b2 := BX3.out.c2
    have HX := Lib.hid (BX3.out.all (Nat.le_refl _) (.int .i64 x) (.bool true) (.int .i64 (j : Int)))
    go_wp2
    (try simp only [Exit.inBlock, Exit.then]); refine bodyPost_ret (ret_rgot rfl _ _ _ _ _ _ _ rfl HX.out.1) rfl ?_
    rw [← H1.out]
    exact ⟨rfl, _, HQ3.out.box BX3.out HX.out.2.2, HE3.out.own HX.out.2.2 (Nat.le_refl _)⟩

theorem own_head {w : World} {B n k : Nat} {X : Option Addr} {d : Int} {D : List Int} (h : w.ownsRow B 3 1 (.slice X (n + 1) k) (n + 1) (K.vals K.ci (d :: D))) : ∃ g, X = some ⟨g, 0, none⟩ ∧ g < w.heap.size ∧ w.cell? ⟨g, 0, none⟩ = some (.int .i64 d) := by
  rcases h.2 with ⟨_, e⟩ | ⟨g, cap, cur, hv, _, hh, hn, hm, hsz, htk⟩
  · cases e
  · injection hv with e1 _ e3
    subst e1 e3
    refine ⟨g, rfl, lt_of_heap hh, ?_⟩
    rw [cell_of_row w g 0 cur 3 (0, 0) hh]
    have h2 : (cur.toList.take ((n + 1) * 1))[0]? = some (.int .i64 d) := by rw [htk, vals_ci]; rfl
    rw [List.getElem?_take] at h2
    split at h2
    · simpa using h2
    · cases h2
theorem Box.dt {w w' : World} {g m : Nat} {a b : Value} (bx : Box w g 97 a b) (k : Only m w w') (hm : ∀ cs fr, w.heap[m]? ≠ some (.cells cs 97 fr)) : Box w' g 97 a b :=
  (k.block g bx.lt (by rintro rfl; exact hm _ _ bx)).trans bx

theorem Et.grow {m p r : Nat} {u u1 u2 : Value} {w w1 w2 : World} (h : Et m p r u u1 w w1) (k : w1.grownBy w2 u1.ownBlock) (hn : ∀ g, u1.ownBlock = some g → w.heap.size ≤ g) (hw : u2.ownBlock = u1.ownBlock ∨ u2.ownBlock = some w1.heap.size) : Et m p r u u2 w w2 :=
  ⟨k.os.trans h.os, k.tape.trans h.tape, k.output.trans h.output, Nat.le_trans h.size k.size,
   fun i hi h1 h2 h3 => (k.block i (Nat.lt_of_lt_of_le hi h.size) (fun e => by have := hn i e.symm; omega)).trans (h.block i hi h1 h2 h3),
   fun i hi e => by
    rcases hw with hw | hw
    · rw [hw] at e; exact h.wh i hi e
    · rw [hw] at e; injection e with e; have := h.size; omega⟩
/-- what is of another type stays where a row of numbers grew -/
theorem grown_at {w w' : World} {B n g : Nat} {u : Value} {xs : List Value} (k : w.grownBy w' u.ownBlock) (ho : w.ownsRow B 3 1 u n xs) {cs : Array Value} {e : TypeId} {fr : Nat × Nat} (hg : w.heap[g]? = some (.cells cs e fr)) (he : e ≠ 3) : w'.heap[g]? = w.heap[g]? :=
  k.block g (lt_of_heap hg) (fun q => own_ne ho (fun _ _ h2 => he (heap_type hg h2)) q.symm)
theorem Rf.grow {w w' : World} {B m p r : Nat} {u u' : Value} {t : St} {D : List Int} (h : Rf w B m p r u t) (k : w.grownBy w' u.ownBlock) (ho : Ow w' B u' D) : Rf (w'.setCell ⟨m, 20, none⟩ u') B m p r u' { t with D := D } := by
  have hm : w'.heap[m]? = w.heap[m]? := by obtain ⟨cs, hh, _⟩ := h.d; exact grown_at k h.o hh (by decide)
  have h1 := h.d.keep hm
  have s1 : Rq w' p t.b t.S := h.s.keepT (fun g cs e hg he => grown_at k h.o hg (by rcases he with ⟨e1, _⟩ | e1 <;> subst e1 <;> decide))
  have q1 : Rq w' r false t.R := h.q.keepT (fun g cs e hg he => grown_at k h.o hg (by rcases he with ⟨e1, _⟩ | e1 <;> subst e1 <;> decide))
  have ko : Only m w' (w'.setCell ⟨m, 20, none⟩ u') := (Only.refl m w').setCell (q := ⟨m, 20, none⟩) (.inl rfl) u'
  exact ⟨(h1.setData u').to rfl rfl, s1.keepT (fun g cs e hg he => ko.block g (lt_of_heap hg) (by
      rintro rfl
      rcases he with ⟨e1, _⟩ | e1 <;> subst e1 <;> exact h1.type (by decide) _ _ hg)),
   q1.keepT (fun g cs e hg he => ko.block g (lt_of_heap hg) (by
      rintro rfl
      rcases he with ⟨e1, _⟩ | e1 <;> subst e1 <;> exact h1.type (by decide) _ _ hg)),
   own_only ho ko (h1.type (by decide)), h.n, h.bm, h.bp, h.br⟩

theorem own0j {B : Nat} (W : World) (o : Obj) (hB : B ≤ (W.alloc o).heap.size) : ((W.alloc o).alloc (.cells #[] 3)).ownsRow B 3 1 (.slice (some ⟨W.heap.size + 1, 0, none⟩) 0 0) 0 (K.vals K.ci []) := by
  have h := own0i (B := B) (W.alloc o) hB
  rw [size_alloc] at h
  exact h

set_option maxHeartbeats 4000000 in
theorem rtryRecv_some (B m p r : Nat) (u : Value) (t t' : St) (d c : Int) (k : Bool) (w : World) (h : Rf w B m p r u t) (hf : Fine t) (hs : tryRecv t = (t', d, k, c)) (dd : Int) (D : List Int) (hD : t.D = dd :: D) :
    Calls Try.prog 22 #[.pointer (some ⟨m, 0, none⟩)] w fun e w' => e = .returned (gv d k c) ∧ ∃ u', Rf w' B m p r u' t' ∧ Et m p r u u' w w' := by
  have hb0 : Below w.heap.size w (w.alloc (.cells #[.int .i64 0, .bool false, .int .i64 0] 47)) := (Below.refl _ _).alloc (Nat.le_refl _) _
  have bx := box3_new w 47 (.int .i64 0) (.bool false) (.int .i64 0)
  have h0 := h.below hb0
  have HE0 := Lib.hid (Et.of_below (m := m) (p := p) (r := r) (u := u) hb0)
  obtain ⟨w0, hw0⟩ : ∃ w0, w.alloc (.cells #[.int .i64 0, .bool false, .int .i64 0] 47) = w0 := ⟨_, rfl⟩
  rw [hw0] at bx h0 HE0
  have HSZ := Lib.hid (show w.heap.size < w0.heap.size from bx.lt)
  obtain ⟨n, hn⟩ : ∃ n, D.length = n := ⟨_, rfl⟩
  obtain ⟨XA, KA, rfl, _, _⟩ := K.own_form h.o
  have hl : t.D.length = n + 1 := by rw [hD, List.length_cons, hn]
  have hoo := h0.o
  unfold Ow at hoo
  rw [hl, hD] at hoo
  obtain ⟨ga, rfl, hga, hca⟩ := own_head hoo
  obtain ⟨XF, KF, hsl, hsr⟩ := own_cut hoo
  rw [hl] at h0 HE0 ⊢
  have d0 := h0.d.data
  have hp0 : (0 : Int) < (n : Int) + 1 := by omega
  have HN := Lib.hid hn
  have hn1000 : n ≤ 1000 := by have := hf.d; have := hf.m; omega
  have H0 := Lib.hid h0
  have HF := Lib.hid hf
  have HS := Lib.hid hs
  have HD := Lib.hid hD
  -- behind the call's second variable, and the row's beginning
  have hb1 : Below w0.heap.size w0 (w0.alloc (.cells #[.int .i64 dd, .bool true, .int .i64 0] 47)) := (Below.refl _ _).alloc (Nat.le_refl _) _
  have gx := box3_new w0 47 (.int .i64 dd) (.bool true) (.int .i64 0)
  have d1 := (H0.out.below hb1).d.data
  have hb2 : Below (w0.alloc (.cells #[.int .i64 dd, .bool true, .int .i64 0] 47)).heap.size (w0.alloc (.cells #[.int .i64 dd, .bool true, .int .i64 0] 47)) ((w0.alloc (.cells #[.int .i64 dd, .bool true, .int .i64 0] 47)).alloc (.cells #[] 3)) := (Below.refl _ _).alloc (Nat.le_refl _) _
  have d2 := ((H0.out.below hb1).below hb2).d.data
  have own := own0j (B := (w0.alloc (.cells #[.int .i64 dd, .bool true, .int .i64 0] 47)).heap.size) w0 (.cells #[.int .i64 dd, .bool true, .int .i64 0] 47) (Nat.le_refl _)
  have src := (hsr.below hb1).below hb2
  have b1 : 0 + n ≤ 100000 := by omega
  have HB1 := Lib.hid hb1
  have HB2 := Lib.hid hb2
  have H1 := Lib.hid (H0.out.below hb1)
  have HE1 := Lib.hid (HE0.out.trans (.of_below hb1))
  have BX1 := Lib.hid (bx.below hb1)
  have GX1 := Lib.hid gx
  clear h hf hs hD hn hl hoo hsr h0 hb0 bx hb1 hb2 gx
  go_enter Try.func22, Try.ntmps22
  go_wp2_with (first
    | (refine K.wpList_append_row K.ki (by decide) rfl _ _ rfl (w0.alloc (.cells #[.int .i64 dd, .bool true, .int .i64 0] 47)).heap.size _ [] D 0 rfl rfl own XF n KF rfl HN.out src b1 HB2.out.size n (Nat.zero_add _) ?_
       intro X3 k3 w3 hown3 hgr3
       have HB3 := Lib.hid (below_grown HB2.out hgr3 HB2.out.size (fun g hg => by obtain ⟨_, _, _, q, _⟩ := own_blk own hg; exact q))
       rw [List.nil_append] at hown3
       have HO3 : Hid (Ow w3 (w0.alloc (.cells #[.int .i64 dd, .bool true, .int .i64 0] 47)).heap.size (.slice X3 n k3) D) := Lib.hid (by unfold Ow; rw [HN.out]; exact hown3)
       have d3 := (H1.out.below HB3.out).d.data
       have z3 := (H1.out.below HB3.out).d.fz 20
       have HDN := Lib.hid (H1.out.done HE1.out HB3.out HO3.out)
       have c4 := HDN.out.1.d.c0
       clear hgr3 hown3))
  -- the senders
  obtain ⟨w4, hw4⟩ : ∃ w4, w3.setCell ⟨m, 20, none⟩ (.slice X3 n k3) = w4 := ⟨_, rfl⟩
  have HK34 := Lib.hid (show Only m w3 w4 by rw [← hw4]; exact (Only.refl m w3).setCell (q := ⟨m, 20, none⟩) (.inl rfl) _)
  rw [hw4] at HDN c4 ⊢
  have H4 := Lib.hid HDN.out.1
  have HE4 := Lib.hid HDN.out.2
  have BX4 := Lib.hid ((BX1.out.below HB3.out).keep (HK34.out.block _ (BX1.out.below HB3.out).lt ((H1.out.below HB3.out).nb (BX1.out.below HB3.out)).1))
  have GX4 := Lib.hid ((GX1.out.below HB3.out).keep (HK34.out.block _ (GX1.out.below HB3.out).lt ((H1.out.below HB3.out).nb (GX1.out.below HB3.out)).1))
  have HX3 := Lib.hid (show ∀ g, (Value.slice X3 n k3).ownBlock = some g → w.heap.size ≤ g from fun g hg => by obtain ⟨_, _, _, q, _⟩ := own_blk HO3.out hg; have := HSZ.out; rw [size_alloc] at q; omega)
  clear d0 d1 d2 d3 z3 hca hsl HK34 hw4 own src HDN HB1 HB2 H1 HE1 BX1 GX1 HB3 HO3 H0 HE0
  cases hS : t.S with
  | nil =>
    have hq := H4.out.s
    rw [show ({ t with D := D } : St).S = t.S from rfl, hS] at hq
    have HT := Lib.hid (rtake_none p t.b w4 hq)
    have hst := HS.out
    rw [tryRecv_data hS HD.out] at hst
    simp only [Prod.mk.injEq] at hst
    obtain ⟨h1, h2, h3, h4⟩ := hst
    subst h2 h3 h4
    have HT1 := Lib.hid h1
    clear hq hS h1
    refine HT.out.mono ?_
    rintro en w5 ⟨rfl, hb⟩
    have hb5 : Below w5.heap.size w5 (w5.alloc (.cells #[.int .i64 0, .int .i64 0] 97)) := (Below.refl _ _).alloc (Nat.le_refl _) _
    have HB5 := Lib.hid (below_trans hb hb5)
    have BX6 := Lib.hid (BX4.out.below HB5.out)
    have GX6 := Lib.hid (GX4.out.below HB5.out)
    have H6 := Lib.hid (H4.out.below HB5.out)
    have HE6 := Lib.hid (HE4.out.trans (.of_below HB5.out))
    have g0 := GX6.out.c0
    have g1 := GX6.out.c1
    have g2 := GX6.out.c2
    have z0 := BX6.out.fz 0
    have z1 := BX6.out.fz 1
    have z2 := BX6.out.fz 2
    have b0 := BX6.out.c0
    have b1 := BX6.out.c1
    have b2 := BX6.out.c2
    have HX := Lib.hid (BX6.out.all (Nat.le_refl _) (.int .i64 dd) (.bool true) (.int .i64 0))
    clear hb hb5 HT c4
    go_wp2
    (try simp only [Exit.inBlock, Exit.then]); refine bodyPost_ret (ret_rgot rfl _ _ _ _ _ _ _ rfl HX.out.1) rfl ?_
    rw [← HT1.out]
    exact ⟨rfl, _, H6.out.box BX6.out HX.out.2.2, HE6.out.own HX.out.2.2 (Nat.le_refl _)⟩
  | cons y S =>
    have hq := H4.out.s
    have hlen := HF.out.s.len
    have hrng := HF.out.s.rng y (by rw [hS]; simp)
    rw [show ({ t with D := D } : St).S = t.S from rfl, hS] at hq
    rw [hS] at hlen
    have HT := Lib.hid (rtake_some p t.b y S w4 hq hlen)
    have hst := HS.out
    rw [tryRecv_both hS HD.out] at hst
    simp only [Prod.mk.injEq] at hst
    obtain ⟨h1, h2, h3, h4⟩ := hst
    obtain ⟨j, hj⟩ : ∃ j : Nat, y.1 = (j : Int) := ⟨y.1.toNat, by omega⟩
    have hj17 : j < 17 := by omega
    have hji : (j : Int) < 17 := by omega
    obtain ⟨y1, y2⟩ := y
    simp only at hj
    subst hj
    rw [show ((j : Int), y2).1.toNat = j from rfl] at h1
    simp only at HT h4
    subst h2 h3 h4
    obtain ⟨x, hx⟩ : ∃ x, t.W j = x := ⟨_, rfl⟩
    rw [hx] at h1
    have HXW := Lib.hid hx
    have HT1 := Lib.hid h1
    clear hq hlen hrng hS h1 hx c4
    refine HT.out.mono ?_
    rintro en w5 ⟨rfl, hl5, ho5⟩
    have H5 := Lib.hid (H4.out.sq ho5 hl5)
    have HE5 := Lib.hid (HE4.out.trans (Et.of_only (m := m) (p := p) (r := r) (u := .slice X3 n k3) ho5 (.inr (.inl rfl))))
    have BX5 := Lib.hid (BX4.out.keep (ho5.block _ BX4.out.lt (H4.out.nb BX4.out).2.1))
    have GX5 := Lib.hid (GX4.out.keep (ho5.block _ GX4.out.lt (H4.out.nb GX4.out).2.1))
    have AX6 := Lib.hid (box_new w5 97 (.int .i64 (j : Int)) (.int .i64 y2))
    have hb6 : Below w5.heap.size w5 (w5.alloc (.cells #[.int .i64 (j : Int), .int .i64 y2] 97)) := (Below.refl _ _).alloc (Nat.le_refl _) _
    have BX6 := Lib.hid (BX5.out.below hb6)
    have GX6 := Lib.hid (GX5.out.below hb6)
    have H6 := Lib.hid (H5.out.below hb6)
    have HE6 := Lib.hid (HE5.out.trans (.of_below hb6))
    clear hl5 ho5 hb6 HT
    go_wp2
    generalize w5.alloc _ = w6 at *
    have q0 := AX6.out.c0
    have d6 := H6.out.d.data
    have hw6 := H6.out.d.wish hj17
    rw [show ({ ({ t with D := D } : St) with S := S } : St).W j = t.W j from rfl, HXW.out] at hw6
    have hb7 : Below w6.heap.size w6 (w6.alloc (.cells #[.int .i64 x] 3)).drew := ((Below.refl _ _).alloc (Nat.le_refl _) _).drew
    have H7 := Lib.hid (H6.out.below hb7)
    have d7 : (w6.alloc (.cells #[.int .i64 x] 3)).cell? ⟨m, 20, none⟩ = _ := H7.out.d.data
    have own7 := H7.out.o
    unfold Ow at own7
    rw [show ({ ({ t with D := D } : St) with S := S } : St).D = D from rfl, HN.out] at own7
    have src7 : K.Sr K.ci (w6.alloc (.cells #[.int .i64 x] 3)).drew (some ⟨w6.heap.size, 0, none⟩) 1 [x] := K.sr_one K.ci w6 3 x
    have b2 : n + 1 ≤ 100000 := by omega
    have HB7 := Lib.hid hb7
    have hsz7 := H7.out.size
    clear hb7
    go_region_law (refine K.step_append_one K.ki (by decide) rfl _ _ rfl B (.slice X3 n k3) D x n HN.out rfl own7 _ 1 rfl src7 b2 hsz7 ?_; intro X8 k8 w8 hown8 hgr8 hwh8; have hm8 := (by obtain ⟨cs, hh, _⟩ := H7.out.d; exact grown_at hgr8 own7 hh (by decide) : w8.heap[m]? = (w6.alloc (.cells #[.int .i64 x] 3)).drew.heap[m]?); have d8 := (H7.out.d.keep hm8).data; have z8 := (H7.out.d.keep hm8).fz 20)
    all_goals
      have HO8 : Hid (Ow w8 B (.slice X8 (n + 1) k8) (D ++ [x])) := Lib.hid (by unfold Ow; rw [List.length_append, HN.out]; exact hown8)
      have H9 := Lib.hid (H7.out.grow hgr8 HO8.out)
      have HE9 := Lib.hid (((HE6.out.trans (.of_below HB7.out)).grow hgr8 HX3.out hwh8).trans (Et.of_only (p := p) (r := r) (u := .slice X8 (n + 1) k8) ((Only.refl m w8).setCell (q := ⟨m, 20, none⟩) (.inl rfl) (.slice X8 (n + 1) k8)) (.inl rfl)))
      have BX7 := BX6.out.below HB7.out
      have GX7 := GX6.out.below HB7.out
      have AX7 : Box (w6.alloc (.cells #[.int .i64 x] 3)).drew w5.heap.size 97 (.int .i64 (j : Int)) (.int .i64 y2) := AX6.out.below HB7.out
      have BX8 := BX7.keep (grown_at hgr8 own7 BX7 (by decide))
      have GX8 := GX7.keep (grown_at hgr8 own7 GX7 (by decide))
      have AX8 : Box w8 w5.heap.size 97 (.int .i64 (j : Int)) (.int .i64 y2) := (grown_at hgr8 own7 AX7 (by decide)).trans AX7
      have ko : Only m w8 (w8.setCell ⟨m, 20, none⟩ (.slice X8 (n + 1) k8)) := (Only.refl m w8).setCell (q := ⟨m, 20, none⟩) (.inl rfl) _
      have hd8 := H7.out.d.keep hm8
      have BX9 := BX8.keep (ko.block _ BX8.lt (by rintro e; exact hd8.type (e := 47) (by decide) _ _ (e ▸ BX8)))
      have GX9 := GX8.keep (ko.block _ GX8.lt (by rintro e; exact hd8.type (e := 47) (by decide) _ _ (e ▸ GX8)))
      have AX9 := AX8.dt ko (hd8.type (by decide))
      clear hown8 hgr8 hwh8 hm8 d8 z8 BX7 GX7 AX7 BX8 GX8 AX8 ko hd8 own7 src7 q0 d6 hw6 d7 HB7 H7
      generalize w8.setCell _ _ = w9 at *
      have q9 := AX9.c0
      have y2' := GX9.c2
      have yz2 := GX9.fz 2
      have GXA := GX9.set2 (.int .i64 (j : Int))
      have BXA := BX9.keep (Below.heap_setCell w9 ⟨w0.heap.size, 2, none⟩ (.int .i64 (j : Int)) w.heap.size (by have := HSZ.out; simp only; omega))
      have g0 := GXA.c0
      have g1 := GXA.c1
      have g2 := GXA.c2
      have z0 := BXA.fz 0
      have z1 := BXA.fz 1
      have z2 := BXA.fz 2
      have b0 := BXA.c0
      have b1 := BXA.c1
      have b2' := BXA.c2
      have HKA := Lib.hid ((Only.refl w0.heap.size w9).setCell (q := ⟨w0.heap.size, 2, none⟩) (.inl rfl) (.int .i64 (j : Int)))
      have HA := Lib.hid (H9.out.box GX9 HKA.out)
      have HEA := Lib.hid (HE9.out.own HKA.out (Nat.le_of_lt HSZ.out))
      have HX := Lib.hid (BXA.all (Nat.le_refl _) (.int .i64 dd) (.bool true) (.int .i64 (j : Int)))
      have BXA' := Lib.hid BXA
      clear AX9 GX9 BX9 GXA BXA
      go_wp2
      (try simp only [Exit.inBlock, Exit.then]); refine bodyPost_ret (ret_rgot rfl _ _ _ _ _ _ _ rfl HX.out.1) rfl ?_
      rw [← HT1.out]
      exact ⟨rfl, _, HA.out.box BXA'.out HX.out.2.2, HEA.out.own HX.out.2.2 (Nat.le_refl _)⟩
end Go.Proofs.Ytnbepahanhcmeaa
