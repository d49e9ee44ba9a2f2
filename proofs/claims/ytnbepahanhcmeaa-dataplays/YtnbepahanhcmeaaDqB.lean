/- Contracts of package dtq: slices.Delete, add, takeOldest, release, wait. -/
import Derived.Test.YtnbepahanhcmeaaDqA
import Derived.Lib.SliceRun
import Derived.Deep.RegionHeld3
namespace Go.Proofs.Ytnbepahanhcmeaa
open Go.RowKit
set_option maxRecDepth 100000

theorem vals_ci (D : List Int) : K.vals K.ci D = D.map (Value.int .i64) := by
  unfold K.vals K.ci; induction D with
  | nil => rfl
  | cons d D ih => rw [List.flatMap_cons, ih]; rfl
theorem zero3 (W : World) : (zeroValue 3).run Try.prog W = .ok (.int .i64 0) W := by
  obtain ⟨i, h1, h2, _⟩ := info_parts K.info3
  simp [zeroValue, typeInfo, h1, h2]

set_option maxHeartbeats 4000000 in
theorem delete_ok (B : Nat) (v : Value) (d : Int) (D : List Int) (w : World) (h : Ow w B v (d :: D)) :
    Calls Try.prog 56 #[v, .int .i64 0, .int .i64 1] w fun e w' => ∃ v', e = .returned v' ∧ v'.ownBlock = v.ownBlock ∧ Ow w' B v' D ∧ w.grownBy w' v.ownBlock := by
  obtain ⟨g, hg⟩ : ∃ g, v.ownBlock = some g := by
    rcases h.2 with ⟨_, h0⟩ | ⟨g, cap, cur, rfl, _⟩
    · simp at h0
    · exact ⟨g, rfl⟩
  obtain ⟨cap, cur, rfl, hB, hlt, hh, hn, hm, hsz, htk⟩ := own_blk h hg
  rw [vals_ci] at htk
  obtain ⟨n, hlen⟩ : ∃ n, D.length = n := ⟨_, rfl⟩
  simp only [List.length_cons, hlen, Nat.mul_one] at hn hsz htk ⊢
  obtain ⟨i0, hi0, hz0, hz1, hz2⟩ := info_parts K.info3
  obtain ⟨news, hnews⟩ : ∃ news, news = D.map (Value.int .i64) := ⟨_, rfl⟩
  have hnl : news.length = n * 1 := by rw [hnews]; simp [hlen]
  have hat : ∀ j u, news[j]? = some u → cur[1 + j]? = some u := fun j u hu => by
    have h2 : (cur.toList.take (n + 1))[1 + j]? = some u := by rw [htk, Nat.add_comm 1 j]; rw [hnews] at hu; simpa using hu
    rw [List.getElem?_take] at h2
    split at h2
    · simpa using h2
    · cases h2
  have hcap63 : cap ≤ 9223372036854775807 := by unfold maxLen at hm; omega
  obtain ⟨A, hA, hsrc⟩ : ∃ A : Addr, (if cap = 1 then some (⟨g, 0, none⟩ : Addr) else some ⟨g, 1, none⟩) = some A ∧ Hid (∀ t u, news[t]? = some u → w.drew.cell? (A.add t) = some u) := by
    by_cases c : cap = 1
    · refine ⟨⟨g, 0, none⟩, by simp [c], fun t u hu => ?_⟩
      have h0 : news.length = 0 := by rw [hnl]; omega
      rw [List.length_eq_zero_iff.1 h0] at hu
      simp at hu
    · refine ⟨⟨g, 1, none⟩, by simp [c], fun t u hu => ?_⟩
      rw [addr_add]
      show w.cell? _ = _
      rw [cell_of_row w g _ cur 3 (0, 0) hh]
      exact hat t u hu
  have s1 : Hid (news.length = n * 1) := hnl
  have s2 : Hid (∀ u ∈ news, u.oneCell' = true) := by
    intro u hu
    rw [hnews] at hu
    obtain ⟨x, _, rfl⟩ := List.mem_map.1 hu
    rfl
  have s3 : Hid (∀ t, t < news.length → (w.drew.cell? ⟨g, 0 + 0 * 1 + t, none⟩).isSome = true ∧ w.drew.frozen? ⟨g, 0 + 0 * 1 + t, none⟩ = false) := by
    intro t ht
    rw [hnl] at ht
    refine ⟨?_, frozen_of_row w.drew g _ cur 3 hh⟩
    show (w.cell? _).isSome = true
    rw [cell_of_row w g _ cur 3 (0, 0) hh, Array.getElem?_eq_getElem (by omega)]; rfl
  -- the world behind the append
  obtain ⟨W1, hW1⟩ : ∃ W1, W1 = w.drew.setCells g (0 + 0 * 1) news := ⟨_, rfl⟩
  obtain ⟨cur1, hcur1, hsz1, hat1, hgr1⟩ : ∃ cur1 : Array Value, W1.heap[g]? = some (.cells cur1 3 (0, 0)) ∧ cur1.size = cap ∧ (∀ j u, news[j]? = some u → cur1[j]? = some u) ∧ w.grownBy W1 (some g) := by
    obtain ⟨cur1, q1, q2⟩ : ∃ cur1 : Array Value, (w.drew.setCells g 0 news).heap[g]? = some (.cells cur1 3 (0, 0)) ∧ cur1.size = cur.size := by
      have gen : ∀ (vs : List Value) (o : Nat) (W : World) (c : Array Value), W.heap[g]? = some (.cells c 3 (0, 0)) → ∃ c1 : Array Value, (W.setCells g o vs).heap[g]? = some (.cells c1 3 (0, 0)) ∧ c1.size = c.size := by
        intro vs
        induction vs with
        | nil => intro o W c hc; exact ⟨c, hc, rfl⟩
        | cons x vs ih =>
          intro o W c hc
          obtain ⟨c1, k1, k2⟩ := ih (o + 1) (W.setCell ⟨g, o, none⟩ x) _ (heap_setCell_same W g o c 3 x hc)
          exact ⟨c1, k1, by rw [k2]; simp⟩
      exact gen news 0 w.drew cur hh
    refine ⟨cur1, by rw [hW1]; exact q1, by rw [q2, hsz], fun j u hu => ?_, ?_⟩
    · have hj : j < news.length := (List.getElem?_eq_some_iff.1 hu).1
      have e1 := World.cell?_setCells_in g news 0 w.drew (fun i hi => by have := (s3 i hi).1; simpa using this) j hj
      rw [cell_of_row _ g _ cur1 3 (0, 0) q1, Nat.zero_add] at e1
      rw [e1, ← hu, List.getElem?_eq_getElem hj]
    · rw [hW1]
      have gen : ∀ (vs : List Value) (o : Nat) (W : World), W.grownBy (W.setCells g o vs) (some g) := by
        intro vs
        induction vs with
        | nil => intro o W; exact K.grownBy_refl _ _
        | cons x vs ih =>
          intro o W
          have k := ih (o + 1) (W.setCell ⟨g, o, none⟩ x)
          exact ⟨k.os, k.tape, k.output, Nat.le_trans (by simp [World.setCell]) k.size, fun q hq hne => (k.block q (by simpa [World.setCell] using hq) hne).trans (Below.heap_setCell _ _ _ _ (by intro e; exact hne (by rw [e])))⟩
      have k := gen news (0 + 0 * 1) w.drew
      exact ⟨k.os, k.tape, k.output, k.size, k.block⟩
  have hcl : ∀ ty, (Builtin.clear_ #[58] ty #[.slice (some ⟨g, n, none⟩) 1 (cap - n)]).run Try.prog W1 = .ok (.tuple #[]) (W1.setCells g n [.int .i64 0]) := fun ty =>
    Lib.run_clear_slice W1 58 3 ty _ Try.underlying58 zero3 rfl rfl g n 1 _ (by omega)
      (fun t ht => by rw [cell_of_row W1 g _ cur1 3 (0, 0) hcur1, Array.getElem?_eq_getElem (by omega)]; rfl) (fun t ht => frozen_of_row W1 g _ cur1 3 hcur1)
  have HW := Lib.hid hW1
  have HE : Hid (∃ v', Value.slice (some ⟨g, 0, none⟩) n cap = v' ∧ v'.ownBlock = some g ∧ Ow (W1.setCells g n [.int .i64 0]) B v' D ∧ w.grownBy (W1.setCells g n [.int .i64 0]) (some g)) := Lib.hid (by
    refine ⟨_, rfl, rfl, ⟨by rw [vals_ci]; simp, .inr ⟨g, cap, _, by rw [hlen], hB, heap_setCell_same W1 g n cur1 3 (.int .i64 0) hcur1, by omega, hm, by simp [hsz1], ?_⟩⟩, ?_⟩
    · rw [vals_ci, hlen, Nat.mul_one, ← hnews]
      apply List.ext_getElem?
      intro j
      rw [List.getElem?_take]
      by_cases c : j < n
      · rw [if_pos c, Array.getElem?_toList, Array.getElem?_setIfInBounds_ne (by omega)]
        rw [hat1 j news[j] (List.getElem?_eq_getElem (by omega))]; rw [List.getElem?_eq_getElem (by omega)]
      · rw [if_neg c, List.getElem?_eq_none (by omega)]
    · exact ⟨hgr1.os, hgr1.tape, hgr1.output, by show _ ≤ (W1.setCell _ _).heap.size; simpa [World.setCell] using hgr1.size, fun q hq hne => (Below.heap_setCell _ _ _ _ (by intro e; exact hne (by rw [e]))).trans (hgr1.block q hq hne)⟩)
  clear hW1 hcur1 hsz1 hat1 hgr1 hat hnews hnl h hg hh htk hsz hB hlt hi0 hz2
  have hn1 : 1 ≤ cap := by omega
  have hn2 : (1 : Int) ≤ (n : Int) + 1 := by omega
  have hlen0 : D.length = n := hlen
  clear hlen
  obtain ⟨i0, hi0, hz0, hz1, hz2⟩ := info_parts K.info3
  go_enter Try.func56, Try.ntmps56
  go_wp2_with fail
  go_region_law (refine step_append_room rfl (.tmp 22) (.tmp 25) 58 rfl 3 i0 1 Try.underlying58 hi0 hz1 g 0 0 cap (by simp [Act.eval, Act.put]) A n (cap - 1) news (by simp [Act.eval, Act.put]) s1.out hsrc.out s2.out (by omega) s3.out ?_; rw [← HW.out])
  go_wp2
  go_ret
  obtain ⟨v', e, r⟩ := HE.out
  exact ⟨v', by rw [← e]; rfl, r⟩

theorem Dt.grown {s g0 : Nat} {v v' : Value} {w w' : World} (h : w.grownBy w' v.ownBlock) (hw : v'.ownBlock = v.ownBlock ∨ v'.ownBlock = some g0) (hg : w.heap.size ≤ g0) : Dt s v v' w w' :=
  ⟨h.os, h.tape, h.output, h.size, fun k hk _ h2 => h.block k hk (fun e => h2 e.symm), fun k hk e => by
    rcases hw with hw | hw
    · rw [← hw]; exact e
    · rw [hw] at e; injection e with e; omega⟩
theorem Dt.setCell {s : Nat} {v v' : Value} {a w : World} (h : Dt s v v' a w) (i : Nat) (u : Value) : Dt s v v' a (w.setCell ⟨s, i, none⟩ u) :=
  h.trans (.of_only ((Only.refl s w).setCell (q := ⟨s, i, none⟩) (.inl rfl) u))

/-- the row has turned, and the queue's own cell is told -/
theorem Dq.lay {a w : World} {B s : Nat} {v v' : Value} {t : St} (h : Dq a B s v t) (D : List Int) (ho : Ow w B v' D) (hs : w.heap[s]? = a.heap[s]?) : Dq (w.setCell ⟨s, 86, none⟩ v') B s v' { t with D := D } := by
  have c := (h.c.keep hs).setData v' D
  refine ⟨c, K.own_keep ho fun g cs hg _ => Below.heap_setCell _ _ _ _ ?_, h.b⟩
  rintro rfl
  exact (h.c.keep hs).type (e := 3) (by decide) _ _ hg

set_option maxHeartbeats 800000 in
theorem add_any' (B s : Nat) (v : Value) (t : St) (x : Int) (w : World) (h : Dq w B s v t) (hn : t.D.length ≤ 1000) :
    Calls Try.prog 40 #[.pointer (some ⟨s, 0, none⟩), .int .i64 x] w fun e w' => e = .returned (.tuple #[]) ∧ ∃ v', Dq w' B s v' { t with D := t.D ++ [x] } ∧ Dt s v v' w w' := by
  have hs := h.lt
  have hb0 : Below w.heap.size w (w.alloc (.cells #[.int .i64 x] 3)) := (Below.refl _ _).alloc (Nat.le_refl _) _
  have h0 := h.below hb0
  have c0 := h.c.data
  have src := K.sr_one K.ci w 3 x
  rw [show (K.ci x).toArray = #[.int .i64 x] from rfl] at src
  have hk0 : Dt s v v w (w.alloc (.cells #[.int .i64 x] 3)) := .of_below hb0
  obtain ⟨n, hlen⟩ : ∃ n, t.D.length = n := ⟨_, rfl⟩
  have hown := h0.o
  unfold Ow at hown
  rw [hlen] at hn hown
  have b2 : n + 1 ≤ 100000 := by omega
  have H0 := Lib.hid h0
  have HK := Lib.hid hk0
  have HB := Lib.hid (show B ≤ (w.alloc (.cells #[.int .i64 x] 3)).heap.size by have := hb0.size; have := h.b; omega)
  have HL := Lib.hid hlen
  have HSW := Lib.hid hs
  obtain ⟨D, hD⟩ : ∃ D, t.D = D := ⟨_, rfl⟩
  rw [hD] at hown HL
  have HD := Lib.hid hD
  clear h h0 hb0 hk0 hn hlen hD hs
  go_enter Try.func40, Try.ntmps40
  go_wp2_with (first
    | (refine K.wpList_append_one K.ki (by decide) rfl _ _ rfl B v D x n HL.out rfl hown _ 1 rfl src b2 HB.out ?_
       intro X k w1 hown1 hgr hwh
       have HG := Lib.hid (Dt.grown (s := s) hgr hwh (Nat.le_refl _))
       have hsb := hgr.block s H0.out.lt (fun e => H0.out.ne e.symm)
       have c1 := (H0.out.c.keep hsb).data
       have z1 := (H0.out.c.keep hsb).fz 86
       have HS := Lib.hid hsb
       have HO := Lib.hid hown1
       clear hgr hwh hsb hown1 src hown c0))
  go_end0
  have hl : (D ++ [x]).length = n + 1 := by rw [List.length_append, HL.out]; rfl
  refine ⟨rfl, _, H0.out.lay (t.D ++ [x]) (by rw [HD.out]; unfold Ow; rw [hl]; exact HO.out) HS.out, ((HK.out.trans HG.out).setCell 86 _)⟩

set_option maxHeartbeats 800000 in
theorem takeOldest_any (B s : Nat) (v : Value) (t : St) (d : Int) (D : List Int) (w : World) (h : Dq w B s v t) (hd : t.D = d :: D) :
    Calls Try.prog 42 #[.pointer (some ⟨s, 0, none⟩)] w fun e w' => e = .returned (.int .i64 d) ∧ ∃ v', Dq w' B s v' { t with D := D } ∧ Dt s v v' w w' := by
  have hown := h.o
  unfold Ow at hown
  rw [hd] at hown
  have HDel := Lib.hid (delete_ok B v d D w hown)
  have c0 := h.c.data
  obtain ⟨g, hg⟩ : ∃ g, v.ownBlock = some g := by
    rcases hown.2 with ⟨_, h0⟩ | ⟨g, cap, cur, rfl, _⟩
    · simp at h0
    · exact ⟨g, rfl⟩
  have H := Lib.hid h
  obtain ⟨cap, cur, rfl, hB, hlt, hh, hn, hm, hsz, htk⟩ := own_blk hown hg
  have hcell : w.cell? ⟨g, 0, none⟩ = some (.int .i64 d) := by
    rw [cell_of_row w g 0 cur 3 (0, 0) hh]
    have h2 : (cur.toList.take ((d :: D).length * 1))[0]? = some (.int .i64 d) := by rw [htk, vals_ci]; rfl
    rw [List.getElem?_take] at h2
    split at h2
    · simpa using h2
    · cases h2
  have hpos : (0 : Int) < ((d :: D).length : Int) := by simp
  obtain ⟨n, hlen⟩ : ∃ n, (d :: D).length = n := ⟨_, rfl⟩
  rw [hlen] at hpos c0 H HDel ⊢
  have hn1 : 0 < n := by omega
  clear h hown hg hB hlt hh hn hm hsz htk hd hlen
  go_enter Try.func42, Try.ntmps42
  go_wp2_with fail
  refine HDel.out.mono ?_
  rintro e w1 ⟨v', rfl, hv, ho, hgr⟩
  obtain ⟨X', k', rfl, _⟩ := K.own_form ho
  have hsb := hgr.block s H.out.lt (fun e => H.out.ne e.symm)
  have c1 := (H.out.c.keep hsb).data
  have z1 := (H.out.c.keep hsb).fz 86
  have HG := Lib.hid (Dt.grown (s := s) (g0 := w.heap.size) hgr (.inl hv) (Nat.le_refl _))
  have HS := Lib.hid hsb
  have HO := Lib.hid ho
  clear hgr hv ho hsb HDel hcell c0
  go_wp2
  go_ret
  exact ⟨rfl, _, H.out.lay D HO.out HS.out, HG.out.setCell 86 _⟩

set_option maxHeartbeats 800000 in
theorem release_some (B s : Nat) (v : Value) (t : St) (y : It) (S : List It) (w : World) (h : Dq w B s v t) (hf : Fine t) (hy : t.S = y :: S) :
    Calls Try.prog 44 #[.pointer (some ⟨s, 0, none⟩)] w fun e w' => e = .returned (.tuple #[.int .i64 y.1, .int .i64 (t.W y.1.toNat), .bool true]) ∧ Dq w' B s v { t with S := S } ∧ Dt s v v w w' := by
  obtain ⟨X, hl, hX⟩ := h.c.sq
  have hlen := hf.s.len
  have hr := hf.s.rng y (by rw [hy]; simp)
  rw [hy] at hl hlen
  have HT := Lib.hid (take_some s 82 t.b y S w hl hlen)
  have HX := Lib.hid hX
  have H := Lib.hid h
  obtain ⟨j, hj⟩ : ∃ j : Nat, y.1 = (j : Int) := ⟨y.1.toNat, by omega⟩
  have hj17 : j < 17 := by omega
  have hji : (j : Int) < 17 := by omega
  obtain ⟨y1, y2⟩ := y
  simp only at hj
  subst hj
  rw [show ((j : Int), y2).1.toNat = j from rfl]
  simp only at HT ⊢
  obtain ⟨u, hu⟩ : ∃ u, t.W j = u := ⟨_, rfl⟩
  rw [hu]
  have HU := Lib.hid hu
  clear hu
  clear h hl hX hlen hr hf hy
  go_enter Try.func44, Try.ntmps44
  go_wp2_with fail
  refine HT.out.mono ?_
  rintro e w1 ⟨rfl, hl1, ho⟩
  have hc := HX.out w1 S hl1
  have HQ := Lib.hid (H.out.turn ho hc rfl)
  have HO := Lib.hid ho
  have hw := hc.wish hj17
  rw [show ({ t with S := S } : St).W j = t.W j from rfl, HU.out] at hw
  have bx := box_new w1 68 (.int .i64 (j : Int)) (.int .i64 y2)
  have hb2 : Below w1.heap.size w1 (w1.alloc (.cells #[.int .i64 (j : Int), .int .i64 y2] 68)) := (Below.refl _ _).alloc (Nat.le_refl _) _
  have hw2 := (hb2.cell (p := ⟨s, 34 + j, none⟩) HQ.out.lt).trans hw
  have HB := Lib.hid hb2
  have q0 := bx.c0
  clear hc hl1 ho bx hb2 HX HT
  go_wp2
  go_quiet (fail)
  go_wp2
  go_ret3
  exact ⟨rfl, (HQ.out.below HB.out).drewN _, ((Dt.of_only HO.out).trans (.of_below HB.out)).drewN _⟩

set_option maxHeartbeats 800000 in
theorem release_none (B s : Nat) (v : Value) (t : St) (w : World) (h : Dq w B s v t) (hy : t.S = []) :
    Calls Try.prog 44 #[.pointer (some ⟨s, 0, none⟩)] w fun e w' => e = .returned (.tuple #[.int .i64 0, .int .i64 (t.W 0), .bool false]) ∧ Below w.heap.size w w' := by
  obtain ⟨X, hl, hX⟩ := h.c.sq
  rw [hy] at hl
  have HT := Lib.hid (take_none s 82 t.b w hl)
  have H := Lib.hid h
  obtain ⟨u, hu⟩ : ∃ u, t.W 0 = u := ⟨_, rfl⟩
  rw [hu]
  have HU := Lib.hid hu
  clear h hl hX hy hu
  go_enter Try.func44, Try.ntmps44
  go_wp2_with fail
  refine HT.out.mono ?_
  rintro e w1 ⟨rfl, hb⟩
  have HQ := Lib.hid (H.out.below hb)
  have hw := HQ.out.c.wish (i := 0) (by omega)
  rw [HU.out] at hw
  have bx := box_new w1 68 (.int .i64 0) (.int .i64 0)
  have hb2 : Below w1.heap.size w1 (w1.alloc (.cells #[.int .i64 0, .int .i64 0] 68)) := (Below.refl _ _).alloc (Nat.le_refl _) _
  have hw2 := (hb2.cell (p := ⟨s, 34 + 0, none⟩) HQ.out.lt).trans hw
  have HB := Lib.hid (below_trans hb hb2)
  have q0 := bx.c0
  simp only [Nat.add_zero] at hw hw2
  clear bx hb2 HT hb
  go_wp2
  go_quiet (fail)
  go_wp2
  go_ret3
  exact ⟨rfl, below_trans HB.out (below_drewN _ _)⟩

set_option maxHeartbeats 800000 in
theorem wait_any (B s : Nat) (v : Value) (t t' : St) (id pri x e : Int) (w : World) (h : Dq w B s v t) (hf : Fine t) (hs : waitS t id pri x = (t', e)) :
    Calls Try.prog 35 #[.pointer (some ⟨s, 0, none⟩), .int .i64 id, .int .i64 pri, .int .i64 x] w fun en w' => en = .returned (.int .i64 e) ∧ Dq w' B s v t' ∧ Dt s v v w w' := by
  obtain ⟨X, hl, hX⟩ := h.c.sq
  have HA := Lib.hid (add_any s 82 t.b t.S w hl hf.s id pri)
  have HX := Lib.hid hX
  have H := Lib.hid h
  unfold waitS at hs
  injection hs with h1 h2
  rw [h2] at HA
  by_cases c : e = 0
  · subst c
    rw [if_pos h2] at h1
    have hid : 1 ≤ id ∧ id ≤ 16 := by
      unfold addC at h2
      split at h2
      · rename_i c; exact c.1
      · omega
    obtain ⟨j, rfl⟩ : ∃ j : Nat, id = (j : Int) := ⟨id.toNat, by omega⟩
    have hj17 : j < 17 := by omega
    have hji : (j : Int) < 17 := by omega
    rw [show (j : Int).toNat = j from rfl] at h1
    have H1 := Lib.hid h1
    clear h hl hX h1 h2 hf hid
    go_enter Try.func35, Try.ntmps35
    go_wp2_with fail
    refine HA.out.mono ?_
    rintro en w1 ⟨rfl, hl1, ho⟩
    have hc := HX.out w1 _ hl1
    have HQ := Lib.hid (H.out.turn ho hc rfl)
    have HO := Lib.hid ho
    have hw := hc.wish hj17
    have hz := hc.fz (34 + j)
    have HC := Lib.hid (hc.setW hj17 x)
    clear hc hl1 ho HX HA H
    go_wp2
    go_ret
    refine ⟨rfl, ?_, (Dt.of_only HO.out).setCell _ _⟩
    rw [← H1.out]
    exact HQ.out.turn ((Only.refl s w1).setCell (q := ⟨s, 34 + j, none⟩) (.inl rfl) _) HC.out rfl
  · have t1 : (e == 0) = false := by simpa using c
    rw [if_neg (by rw [h2]; exact c)] at h1
    have H1 := Lib.hid h1
    clear h hl hX h1 h2 hf c
    go_enter Try.func35, Try.ntmps35
    go_wp2_with fail
    refine HA.out.mono ?_
    rintro en w1 ⟨rfl, hl1, ho⟩
    have HQ := Lib.hid (H.out.turn ho (HX.out w1 _ hl1) rfl)
    have HO := Lib.hid ho
    clear hl1 ho HX HA H
    go_wp2
    go_ret
    rw [← H1.out]
    exact ⟨rfl, HQ.out, Dt.of_only HO.out⟩
end Go.Proofs.Ytnbepahanhcmeaa
