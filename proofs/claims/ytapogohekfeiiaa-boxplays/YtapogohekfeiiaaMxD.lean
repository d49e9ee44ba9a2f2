/- Contracts of package mbx: Messages, Apart, NewBox. -/
import Derived.Test.YtapogohekfeiiaaMxC
import Derived.Great.BuildSlice
namespace Go.Proofs.Ytapogohekfeiiaa
open Go.RowKit
set_option maxRecDepth 100000

/-- a row of numbers of one's own -/
abbrev Ow (w : World) (B : Nat) (v : Value) (D : List Int) : Prop := w.ownsRow B 3 1 v D.length (K.vals K.ci D)
/-- the t-th message; behind the last one: 0 -/
def cur (I : List Int) (t : Nat) : Int := (I[t]?).getD 0
def lenV : Value → Nat
  | .slice _ n _ => n
  | _ => 0
theorem cur_at {I : List Int} {t : Nat} (h : t < I.length) : cur I t ∈ I ∧ I[t]? = some (cur I t) := by
  have e := List.getElem?_eq_getElem h
  unfold cur
  rw [e]
  exact ⟨List.getElem_mem _, rfl⟩
theorem cur_end {I : List Int} : cur I I.length = 0 := by unfold cur; rw [List.getElem?_eq_none (Nat.le_refl _)]; rfl
theorem nxt_cur {I : List Int} (hn : (0 :: I).Nodup) {t : Nat} (h : t < I.length) : nxt (0 :: I) (cur I t) = cur I (t + 1) := by
  rw [nxt_at (i := t + 1) hn (by rw [List.getElem?_cons_succ]; exact (cur_at h).2), List.getElem?_cons_succ]; rfl
theorem nxt_0 {I : List Int} (hn : (0 :: I).Nodup) : nxt (0 :: I) 0 = cur I 0 := by
  rw [nxt_at (i := 0) hn rfl, List.getElem?_cons_succ]; rfl

set_option maxHeartbeats 1600000 in
theorem messages_any (s q n c : Nat) (S : St) (w : World) (h : Bx w s q n c S) (hg : Gm S.mp S.m S.M) (hl : S.M.length ≤ 1000) :
    Calls Try.prog 22 #[.pointer (some ⟨s, 0, none⟩)] w fun e w' => ∃ v, e = .returned v ∧ Ow w' w.heap.size v (ids S.M) ∧ Below w.heap.size w w' := by
  have hnd := hg.nd
  have hwf : ∀ x, x ∈ ids S.M → In64 x := fun x hx => by obtain ⟨y, h1, rfl⟩ := mem_ids.1 hx; exact hg.wf y h1
  obtain ⟨hk, _, hh, hp, _⟩ := h
  have hlen0 : (ids S.M).length ≤ 1000 := by simpa [ids] using hl
  generalize ids S.M = I at *
  obtain ⟨N, hN⟩ : ∃ N, I.length = N := ⟨_, rfl⟩
  rw [hN] at hlen0
  have d3 := hk.c3
  have l0 := hp.look (k := 0) in0
  rw [nxt_0 hnd] at l0
  have HND := Lib.hid hnd
  have HWF := Lib.hid hwf
  have HN := Lib.hid hN
  have HK := Lib.hid hk
  have HP := Lib.hid hp
  clear hnd hwf hk hp hg hN hl
  go_enter Try.func22, Try.ntmps22
  go_wp2
  go_loopw [3, 4] (fun v i wr => ∃ (t : Nat) (vo : Value), t ≤ N ∧ i = .int .i64 (cur I t) ∧ v = vo ∧ Ow wr w.heap.size vo (I.take t) ∧ Below w.heap.size w wr) (fun v _ _ => N - lenV v)
  case atStart => exact ⟨0, _, Nat.zero_le _, rfl, rfl, ⟨rfl, .inl ⟨rfl, rfl⟩⟩, Below.refl _ _⟩
  case round =>
    obtain ⟨t, vo, ht, rfl, rfl, hown, hb⟩ := hrel
    obtain ⟨X, k, rfl, _, _⟩ := K.own_form hown
    have hlen : (I.take t).length = t := by have := HN.out; simp; omega
    have HO := Lib.hid hown
    have HL := Lib.hid hlen
    have HB := Lib.hid hb
    rw [hlen]
    by_cases hlt : t < N
    · have hy := (cur_at (I := I) (t := t) (by rw [HN.out]; exact hlt))
      have hyw := HWF.out _ hy.1
      have hy0 : cur I t ≠ 0 := fun e => (List.nodup_cons.1 HND.out).1 (e ▸ hy.1)
      have hnx := nxt_cur HND.out (t := t) (by rw [HN.out]; exact hlt)
      have HY := Lib.hid hy.2
      obtain ⟨y, hyy⟩ : ∃ y, cur I t = y := ⟨_, rfl⟩
      rw [hyy] at hyw hy0 hnx HY
      have HNX := Lib.hid hnx
      have HYW := Lib.hid hyw
      rw [hyy]
      have t0 : (y != 0) = true := by simpa using hy0
      obtain ⟨wb, hwb⟩ : ∃ wb, wr.alloc (.cells #[.int .i64 y] 3) = wb := ⟨_, rfl⟩
      have HBB := Lib.hid (show Below wr.heap.size wr wb by rw [← hwb]; exact (Below.refl _ _).alloc (Nat.le_refl _) _)
      have src := K.sr_one K.ci wr 3 y
      rw [show (K.ci y).toArray = #[.int .i64 y] from rfl, hwb] at src
      have hownb := K.own_below HO.out HBB.out
      rw [hlen] at hownb
      have hbs : w.heap.size ≤ wb.heap.size := by have := HB.out.size; have := HBB.out.size; omega
      have HBS := Lib.hid hbs
      have b2 : t + 1 ≤ 100000 := by omega
      have HWB := Lib.hid hwb
      clear hown hb hlen hy hyw hy0 hnx hyy hbs d3 l0
      go_wp2_with (first
        | (refine K.wpList_append_row K.ki (by decide) rfl _ _ rfl w.heap.size (.slice X t k) (I.take t) [y] t HL.out rfl hownb _ 1 1 rfl rfl src b2 HBS.out (t + 1) rfl ?_
           intro X7 k7 w7 hown7 hgr7
           have HO7 := Lib.hid hown7
           have hb7 : Below w.heap.size w w7 := (HB.out.trans (HBB.out.mono HB.out.size)).grown hgr7 HBS.out (fun k hk => (hownb.lt k hk).1)
           have HB7 := Lib.hid hb7
           have d3 := (HK.out.keep (hb7.block s HK.out.lt)).c3
           have l7 := (HP.out.keep (hb7.block n HP.out.lt)).look (k := y) HYW.out
           rw [HNX.out] at l7
           clear hown7 hgr7 hb7))
      have e1 : I.take (t + 1) = I.take t ++ [y] := by rw [List.take_add_one, HY.out]; rfl
      have e2 : (I.take (t + 1)).length = t + 1 := by rw [e1, List.length_append, HL.out]; rfl
      exact ⟨⟨t + 1, _, by omega, rfl, rfl, by unfold Ow; rw [e2, e1]; exact HO7.out, HB7.out⟩, by simp [lenV]; omega⟩
    · have e : t = N := by omega
      have e0 : cur I t = 0 := by rw [e, ← HN.out]; exact cur_end
      rw [e0]
      have HE := Lib.hid e
      clear hown hb e e0 l0 d3
      go_wp2
      go_ret
      refine ⟨_, rfl, ?_, HB.out⟩
      have := HO.out
      rw [HL.out] at this
      rw [List.take_of_length_le (by rw [HN.out, HE.out]; exact Nat.le_refl _)] at this
      exact this

set_option maxHeartbeats 1600000 in
theorem clone_ok (n c : Nat) (f : Int → Int) (hh : Int → Bool) (w : World) (h : Mp w n c f hh) :
    Calls Try.prog 41 #[.map (some n)] w fun e w' => ∃ p : Nat, e = .returned (.map (some p)) ∧ w.heap.size ≤ p ∧ Mp w' p c f hh ∧ Below w.heap.size w w' := by
  obtain ⟨D, ⟨es, cl, hb, r⟩, h2⟩ := h
  have hq := fun w => run_eql_map_nil_sl (P := Try.prog) w 45 _ _ (some n) Try.underlying45
  have HR := Lib.hid r
  have H2 := Lib.hid h2
  clear r h2
  go_enter Try.func41, Try.ntmps41
  go_wp2
  rw [run_callFunc_extern Try.func49 (by kernel_rfl) (by kernel_rfl) (by kernel_rfl) (e := Extern.MapsClone.clone) (by kernel_rfl), run_maps_clone_sl w 45 hb]
  simp only [Result.andThen]
  rw [Oper.upon_value]
  go_wp2
  rw [run_typeAssert_map_sl _ 45 20 _ _ _ Try.underlying45]
  simp only [Result.andThen]
  rw [Oper.upon_value]
  go_wp2
  go_ret
  exact ⟨_, rfl, Nat.le_refl _, ⟨D, ⟨es, cl, heap_alloc_new w _, HR.out⟩, H2.out⟩, (Below.refl _ _).alloc (Nat.le_refl _) _⟩

/-- what a new mailbox's cells are -/
def c0 (q n : Nat) (mp : Bool) (m : Int) : Array Value := #[.pointer (some ⟨q, 0, none⟩), .bool mp, .int .i64 m, .map (some n)] ++ Array.replicate 256 (.int .i64 0)
def zer : Array Value := #[.pointer none, .bool false, .int .i64 0, .map none] ++ Array.replicate 256 (.int .i64 0)
theorem built48 (q n : Nat) (mp : Bool) (m : Int) : Try.prog.built 48 [(0, .pointer (some ⟨q, 0, none⟩)), (1, .bool mp), (2, .int .i64 m), (3, .map (some n))] = some (c0 q n mp m) := by kernel_rfl
theorem zero_info : (Try.prog.info? 48).map (·.zero) = some (some (.agg zer)) := by kernel_rfl
theorem zero48 (W : World) : (zeroValue 48).run Try.prog W = .ok (.agg zer) W := by
  have h := zero_info
  cases hq : Try.prog.info? 48 with
  | none => simp [hq] at h
  | some i =>
    have hz : i.zero = some (.agg zer) := by simpa [hq] using h
    simp [zeroValue, typeInfo, hq, hz]
theorem und48 : ∃ fs, Try.prog.underlying 48 = some (.struct fs) := struct_of (by kernel_rfl)
theorem info48 : (Try.prog.info? 48).map (·.size) = some 260 := by kernel_rfl
theorem bk_new (w : World) (s q n : Nat) (mp : Bool) (m : Int) (h : w.heap[s]? = some (.cells (c0 q n mp m) 48 (0, 0))) : Bk w s q n mp m (lst mp []) := by
  refine ⟨_, h, by simp [c0], by simp [c0], by simp [c0], by simp [c0], by simp [c0], fun i hi => ?_⟩
  unfold c0
  rw [Array.getElem?_append_right (by simp)]
  simp [hi, lst]
theorem bk_one {w : World} {s q n : Nat} {mp : Bool} {m : Int} {f : Int → Int} (h : Bk w s q n mp m f) : ∃ cs : Array Value, w.heap[s]? = some (.cells cs 48 (0, 0)) ∧ cs.size = 260 ∧ (cs.all fun x => x.oneCell') = true ∧
    ∀ W g, W.heap[g]? = some (.cells cs 48 (0, 0)) → Bk W g q n mp m f := by
  obtain ⟨cs, h1, h2, h3, h4, h5, h6, h7⟩ := h
  refine ⟨cs, h1, h2, ?_, fun W g hW => ⟨cs, hW, h2, h3, h4, h5, h6, h7⟩⟩
  rw [Array.all_eq_true]
  intro i hi
  have one : ∀ u, cs[i]? = some u → u.oneCell' = true → cs[i].oneCell' = true := fun u hu ho => by
    rw [Array.getElem?_eq_getElem hi] at hu
    injection hu with hu; rw [hu]; exact ho
  have hi4 : i < 260 := by omega
  by_cases c : 4 ≤ i
  · have := h7 (i - 4) (by omega)
    rw [show 4 + (i - 4) = i by omega] at this
    exact one _ this rfl
  · have c4 : i = 0 ∨ i = 1 ∨ i = 2 ∨ i = 3 := by omega
    rcases c4 with rfl | rfl | rfl | rfl
    · exact one _ h3 rfl
    · exact one _ h4 rfl
    · exact one _ h5 rfl
    · exact one _ h6 rfl
theorem mr_new {w : World} {n : Nat} (h : Mp w n 0 (fun _ => 0) (fun _ => false)) : Mr w n 0 [] :=
  ⟨_, h.congr fun k => by simp [ids, nxt], fun k _ => by simp [ids]⟩

/-- a mailbox that came behind w -/
def MadeB (S : St) (c : Nat) (w : World) (v : Value) (w' : World) : Prop :=
  ∃ s q n : Nat, v = .pointer (some ⟨s, 0, none⟩) ∧ w.heap.size ≤ s ∧ w.heap.size ≤ q ∧ w.heap.size ≤ n ∧ Bx w' s q n c S ∧ Below w.heap.size w w'

set_option maxHeartbeats 1600000 in
theorem newbox_bad (b mp : Bool) (m : Int) (hm : m < 1 ∨ 255 < m) (w : World) : Calls Try.prog 8 #[.bool b, .bool mp, .int .i64 m] w fun e w' => e = .returned (.tuple #[.pointer none, .int .i64 (-17)]) ∧ w = w' := by
  by_cases c : m < 1
  · have t1 : decide (m < 1) = true := by simpa using c
    clear hm
    go_enter Try.func8, Try.ntmps8
    go_wp2
    go_ret2
    exact ⟨rfl, rfl⟩
  · have t1 : decide (m < 1) = false := by simpa using c
    have t2 : decide (255 < m) = true := by simp; omega
    clear hm c
    go_enter Try.func8, Try.ntmps8
    go_wp2
    go_ret2
    exact ⟨rfl, rfl⟩

set_option maxHeartbeats 4000000 in
theorem newbox_ok (b mp : Bool) (m : Int) (h1 : 1 ≤ m) (h2 : m ≤ 255) (w : World) : Calls Try.prog 8 #[.bool b, .bool mp, .int .i64 m] w fun e w' => ∃ v, e = .returned (.tuple #[v, .int .i64 0]) ∧ MadeB ⟨b, [], mp, m, []⟩ 0 w v w' := by
  have t1 : decide (m < 1) = false := by simp; omega
  have t2 : decide ((255 : Int) < m) = false := by simp; omega
  have HN := Lib.hid (new_ok b w)
  have hmm := @run_makeMap Try.prog
  clear h1 h2
  go_enter Try.func8, Try.ntmps8
  go_wp2_with fail
  refine HN.out.mono ?_
  rintro e w1 ⟨q, hq, rfl, hl, hb⟩
  obtain ⟨n, hn⟩ : ∃ n, w1.heap.size = n := ⟨_, rfl⟩
  have hM : Mp (w1.alloc (.map #[] 0)) n 0 (fun _ => 0) (fun _ => false) := by rw [← hn]; exact Mp.made w1
  have hl2 := hl.alloc (.map #[] 0)
  have hb2 := hb.alloc hb.size (.map #[] 0)
  have hf : Try.prog.built 48 [(0, .pointer (some ⟨q, 0, none⟩)), (1, .bool mp), (2, .int .i64 m), (3, .map (some n))] = some (c0 q n mp m) := built48 q n mp m
  obtain ⟨C, hC⟩ : ∃ C, c0 q n mp m = C := ⟨_, rfl⟩
  rw [hC] at hf
  have HC := Lib.hid hC
  have HL := Lib.hid hl2
  have HB := Lib.hid hb2
  have HM := Lib.hid hM
  have HQ := Lib.hid (show w.heap.size ≤ q ∧ w.heap.size ≤ n from ⟨hq, by rw [← hn]; exact hb.size⟩)
  have hmm1 := hmm 45 w1
  rw [hn] at hmm1
  clear hmm hC hl hb hl2 hb2 hM hq HN
  generalize w1.alloc (.map #[] 0) = w2 at *
  go_wp2_with (first | (refine wpList_buildTo rfl 48 _ rfl _ rfl C (Eq.trans (b := Try.prog.built 48 [(0, .pointer (some ⟨q, 0, none⟩)), (1, .bool mp), (2, .int .i64 m), (3, .map (some n))]) (by kernel_rfl) hf) ?_))
  go_ret2
  have e : (w2.alloc (.cells C 48)).heap[w2.heap.size]? = some (.cells (c0 q n mp m) 48 (0, 0)) := by rw [HC.out]; exact heap_alloc_new w2 _
  have ha := (Below.refl w2.heap.size w2).alloc (Nat.le_refl _) (.cells C 48)
  exact ⟨_, rfl, w2.heap.size, q, n, rfl, HB.out.size, HQ.out.1, HQ.out.2, ⟨bk_new _ _ _ _ _ _ e, HL.out.below ha, mr_new (HM.out.below ha)⟩, HB.out.alloc HB.out.size _⟩

theorem gen_row {w : World} {cur cs : Array Value} {P : World → Prop} (h : ∀ W, Below w.heap.size w W → W.heap[w.heap.size]? = some (.cells cs 48 (0, 0)) → P W) :
    P ((w.alloc (.cells cur 48)).setRow w.heap.size cs) :=
  h _ (below_setRow ((Below.refl _ _).alloc (Nat.le_refl _) _) (Nat.le_refl _) _) (setRow_heap _ _ _ _ _ _ (heap_alloc_new w _))

set_option maxHeartbeats 4000000 in
theorem apart_any (s q n c : Nat) (S : St) (w : World) (h : Bx w s q n c S) :
    Calls Try.prog 20 #[.pointer (some ⟨s, 0, none⟩)] w fun e w' => ∃ v, e = .returned v ∧ MadeB S c w v w' := by
  have HE := Lib.hid (ensure_ok s q n c S w h)
  have HX := Lib.hid h
  obtain ⟨h1, h2, hh, h3, h4⟩ := h
  obtain ⟨cs, hcs, hsz, hall, hmk⟩ := bk_one h1
  obtain ⟨fs, hu⟩ := und48
  have hi : (Try.prog.info? 48).map (·.size) = some cs.size := by rw [hsz]; exact info48
  have hz48 := zero48
  obtain ⟨Z, hZ⟩ : ∃ Z, zer = Z := ⟨_, rfl⟩
  have hzs : Z.size = cs.size := by rw [hsz, ← hZ]; simp [zer]
  rw [hZ] at hz48
  have HMK := Lib.hid hmk
  have H3 := Lib.hid h3
  have H4 := Lib.hid h4
  have hsw := h1.lt
  have d0 := h1.c0
  clear hZ h1 h2 h3 h4 hmk
  go_enter Try.func20, Try.ntmps20
  go_wp2_with fail
  refine HE.out.mono ?_
  rintro e w1 ⟨rfl, rfl⟩
  clear HE
  have hnw := HX.out.p.lt
  go_wp2_with (first
    | (refine wpList_load_row rfl 48 (.tmp 7) rfl s rfl 48 cs (0, 0) (.struct fs) hcs hu rfl hi ?_)
    | (refine wpList_store_row rfl 48 (.tmp 3) (.tmp 8) rfl w.heap.size cs rfl rfl 48 _ (heap_alloc_new w _) hi hzs hall ?_; refine gen_row ?_; intro w2 hb2 hh2
       have d2 := (HX.out.below hb2).k.c0
       have hgs : s ≠ w.heap.size := by omega
       have hgn : n ≠ w.heap.size := by omega
       have hg2 := lt_of_heap hh2
       have K2 := Lib.hid (HMK.out w2 _ hh2)
       have M2 := Lib.hid (H3.out.below hb2)
       have B2 := Lib.hid hb2
       have X2 := Lib.hid (HX.out.below hb2)
       obtain ⟨g, hg⟩ : ∃ g, w.heap.size = g := ⟨_, rfl⟩
       rw [hg] at hgs hgn hg2 K2
       have HG := Lib.hid hg
       have G2 := Lib.hid hg2
       clear hcs hi hzs hall hz48 hh2 hb2 hnw hsw d0))
  clear hg hg2
  refine (twin_ok q S.b S.L w2 X2.out.l).mono ?_
  rintro e w3 ⟨q', hq', rfl, hl3, hb3⟩
  have K3 := Lib.hid (K2.out.below hb3)
  have M3 := Lib.hid (M2.out.below hb3)
  have e3 := K3.out.c0
  have z3 := K3.out.fz 0
  have d3 := (X2.out.below hb3).k.c3
  have L3 := Lib.hid hl3
  have B3 := Lib.hid (B2.out.trans (hb3.mono B2.out.size))
  have S3 := Lib.hid hb3.size
  have QQ := Lib.hid hq'
  clear hl3 hb3 hq' d2
  go_wp2_with fail
  have K4 := Lib.hid (K3.out.setQ q')
  have M4 := Lib.hid (M3.out.keep (w' := w3.setCell ⟨g, 0, none⟩ (.pointer (some ⟨q', 0, none⟩))) (Below.heap_setCell _ _ _ _ hgn))
  have L4 := Lib.hid (L3.out.keep (w' := w3.setCell ⟨g, 0, none⟩ (.pointer (some ⟨q', 0, none⟩))) (Below.heap_setCell _ _ _ _ (by have := G2.out; have := QQ.out; simp only; omega)))
  have B4 := Lib.hid (B3.out.setCell (p := ⟨g, 0, none⟩) (by rw [HG.out]; exact Nat.le_refl _) (.pointer (some ⟨q', 0, none⟩)))
  have S4 := Lib.hid (show w3.heap.size = (w3.setCell ⟨g, 0, none⟩ (.pointer (some ⟨q', 0, none⟩))).heap.size by simp [World.setCell])
  generalize w3.setCell ⟨g, 0, none⟩ (.pointer (some ⟨q', 0, none⟩)) = w4 at *
  clear e3 z3 d3
  refine (clone_ok n c _ hh w4 M4.out).mono ?_
  rintro e w5 ⟨n', rfl, hn', hm5, hb5⟩
  have K5 := Lib.hid (K4.out.below hb5)
  have e5 := K5.out.c3
  have z5 := K5.out.fz 3
  have M5 := Lib.hid hm5
  have L5 := Lib.hid (L4.out.below hb5)
  have B5 := Lib.hid (B4.out.trans (hb5.mono B4.out.size))
  have NN := Lib.hid hn'
  clear hm5 hb5 hn'
  go_wp2
  go_ret
  have g2 := G2.out
  have qq := QQ.out
  have s3 := S3.out
  have s4 := S4.out
  have nn := NN.out
  have hg := HG.out
  have hqg : q' ≠ g := by omega
  have hng : n' ≠ g := by omega
  exact ⟨_, rfl, g, q', n', rfl, by omega, by omega, by omega, ⟨K5.out.setN n', L5.out.keep (Below.heap_setCell _ _ _ _ hqg), ⟨hh, M5.out.keep (Below.heap_setCell _ _ _ _ hng), H4.out⟩⟩, B5.out.setCell (p := ⟨g, 3, none⟩) (by rw [hg]; exact Nat.le_refl _) _⟩
end Go.Proofs.Ytapogohekfeiiaa
