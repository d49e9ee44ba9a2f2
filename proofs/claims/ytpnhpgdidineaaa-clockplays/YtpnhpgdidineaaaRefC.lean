/- The document's own timers: Cancel, Next, Left. -/
import Derived.Test.YtpnhpgdidineaaaRefA
namespace Go.Proofs.Ytpnhpgdidineaaa
open Go.RowKit

/-- the document's timers shut again -/
theorem rf_mk {w : World} {q n : Nat} {v : Value} {L S : List En} {last : Int} (hp : L.Perm S) (hL : L.Pairwise fun x y => x.2.1 < y.2.1) (hh : w.heap[q]? = some (.cells #[v, .int .i64 last] 64 (0, 0))) (hr : w.ownsRow 0 89 3 v n (vals cr L)) (hn : L.length = n) (hG : Good S last) : Rf w q S last := by
  subst hn
  exact ⟨⟨L, v, hp, hL, hh, hr⟩, hG⟩

theorem hu28 : Try.prog.underlying 62 = some (.slice (Try.prog.elem 62)) := by kernel_rfl
theorem hz28 (W : World) : (sizeOf (Try.prog.elem 62)).run Try.prog W = .ok 3 W := by
  have e : Try.prog.elem 62 = 89 := by kernel_rfl
  obtain ⟨i0, hi, _, hz1, _⟩ := info_parts info68
  rw [e]; simp [sizeOf, typeInfo, hi, hz1]
/-- the first i of a row -/
theorem cut_hi {w : World} {X : Option Addr} {n k : Nat} {L : List En} (h : w.ownsRow 0 89 3 (.slice X n k) n (vals cr L)) (hn : L.length = n) (hk : n ≤ k) {i : Nat} (hi : i ≤ n) :
    (∀ (W : World) (x : Int), x = (i : Int) → (Instr.slice 62 (.slice X n k) none (some (.int .i64 x)) none).run Try.prog W = .ok (.slice X i k) W) ∧ Sr cr w X k (L.take i) := by
  refine ⟨fun W x hx => ?_, ?_⟩
  · subst hx
    rw [run_slice_h W 62 _ _ k hu28 .i64 i (by omega) (by omega), hz28]
    rcases h.2 with ⟨h1, h2⟩ | ⟨g, cap, cur, h1, _⟩
    · injection h1 with e1 _ e2
      subst e1 e2
      have : i = 0 := by omega
      subst this
      simp [Result.andThen, sliced]
    · injection h1 with e1 _ e2
      subst e1
      simp [Result.andThen, sliced, Addr.add]
  · rcases own_src hn h with ⟨h1, h2, h3⟩ | ⟨b, o, h1, h2, h3⟩
    · exact .inl ⟨h1, by rw [h2]; simp, h3⟩
    · refine .inr ⟨b, o, h1, h2, fun j u hu => h3 j u ?_⟩
      have e : vals cr L = vals cr (L.take i) ++ vals cr (L.drop i) := by rw [← vals_append, List.take_append_drop]
      rw [e, List.getElem?_append_left (List.getElem?_eq_some_iff.1 hu).1]; exact hu
/-- what is behind the first i -/
theorem cut_lo {w : World} {X : Option Addr} {n k : Nat} {L : List En} (h : w.ownsRow 0 89 3 (.slice X n k) n (vals cr L)) (hn : L.length = n) (hk : n ≤ k) {i : Nat} (hi : i ≤ n) :
    ∃ X2 k2, (∀ (W : World) (x : Int), x = (i : Int) → (Instr.slice 62 (.slice X n k) (some (.int .i64 x)) none none).run Try.prog W = .ok (.slice X2 (n - i) k2) W) ∧ Sr cr w X2 k2 (L.drop i) := by
  rcases h.2 with ⟨h1, h2⟩ | ⟨g, cap, cur, h1, _, hh, hc1, _, hsz, ht⟩
  · injection h1 with e1 _ e2
    subst e1 e2
    have : i = 0 := by omega
    subst this h2
    have hL : L = [] := List.eq_nil_of_length_eq_zero hn
    subst hL
    refine ⟨none, 0, fun W x hx => ?_, .inl ⟨rfl, rfl, rfl⟩⟩
    subst hx
    have := run_slice_l W 62 none 0 0 hu28 .i64 0 (by omega) (by omega)
    rw [hz28] at this; exact this
  · injection h1 with e1 _ e2
    subst e1 e2
    have src := own_src hn h
    have e : vals cr L = vals cr (L.take i) ++ vals cr (L.drop i) := by rw [← vals_append, List.take_append_drop]
    have el : (vals cr (L.take i)).length = i * 3 := by rw [vals_len cr_len, List.length_take]; congr 1; omega
    by_cases hc : k = i
    · have h0 : L.drop i = [] := List.drop_eq_nil_of_le (by omega)
      refine ⟨some ⟨g, 0, none⟩, k - i, fun W x hx => ?_, .inr ⟨g, 0, rfl, lt_of_heap hh, fun j u hu => by rw [h0] at hu; simp [vals] at hu⟩⟩
      subst hx
      rw [run_slice_l W 62 _ _ k hu28 .i64 i (by omega) (by omega), hz28]
      simp [Result.andThen, sliced, hc]
    · refine ⟨some ⟨g, i * 3, none⟩, k - i, fun W x hx => ?_, .inr ⟨g, i * 3, rfl, lt_of_heap hh, fun j u hu => ?_⟩⟩
      · subst hx
        rw [run_slice_l W 62 _ _ k hu28 .i64 i (by omega) (by omega), hz28]
        simp [Result.andThen, sliced, hc, addr_add]
      · rcases src with ⟨h1, _⟩ | ⟨b, o, h1, h2, h3⟩
        · cases h1
        · injection h1 with h1; injection h1 with h1 h4; subst h1 h4
          have := h3 (i * 3 + j) u (by rw [e, List.getElem?_append_right (by omega), el, Nat.add_sub_cancel_left]; exact hu)
          rw [Nat.zero_add] at this; exact this

theorem rdel_perm {L S : List En} {i : Nat} (hp : L.Perm S) (ha : S.Pairwise fun x y => x.2.1 ≠ y.2.1) (hi : i < L.length) : (L.take i ++ L.drop (i + 1)).Perm (del S (ix L i).2.1) := by
  refine perm_del ha hp (x := ix L i) ?_
  have e : L = L.take i ++ ix L i :: L.drop (i + 1) := by
    rw [← ix_eq hi, ← List.drop_eq_getElem_cons hi, List.take_append_drop]
  conv => rhs; rw [e]
  exact List.perm_middle.symm

set_option maxHeartbeats 1600000 in
theorem rcancel_any (w : World) (q : Nat) (S : List En) (last : Int) (h : Rf w q S last) (hd : Int) (b : Bool) (hb : (fnd S hd).isSome = b) :
    Calls Try.prog 19 #[.pointer (some ⟨q, 0, none⟩), .int .i64 hd] w fun e w' => e = .returned (.bool b) ∧ Rf w' q (del S hd) last ∧ Only q q w w' := by
  obtain ⟨L, X, k, hp, hL, hn, hh, hE, hk1, hk2⟩ := h.open
  have hlen := h.good.len
  obtain ⟨n, hSn⟩ : ∃ n, S.length = n := ⟨_, rfl⟩
  rw [hSn] at hh hn hE hk1 hlen
  have HF := Lib.hid (rfind_any q n k X L (.int .i64 last) w hh hE hn hlen hd)
  have HT := Lib.hid h
  have HN := Lib.hid hn
  have HP := Lib.hid hp
  have HLL := Lib.hid hL
  have HHH := Lib.hid hh
  have HE := Lib.hid hE
  have HB := Lib.hid hb
  have hlt := lt_of_heap hh
  clear h hp hL hn hSn hh hE hb
  go_enter Try.func19, Try.ntmps19
  go_wp2_with fail
  refine HF.out.mono ?_
  rintro e w1 ⟨r, rfl, hr, rfl⟩
  clear HF
  rcases hr with ⟨i, rfl, hi, hih⟩ | ⟨rfl, hno⟩
  · rw [HN.out] at hi
    have HBB : Hid (∀ W : World, Below w.heap.size w W → W.heap[q]? = some (.cells #[.slice X n k, .int .i64 last] 64 (0, 0)) ∧ W.cell? ⟨q, 0, none⟩ = some (.slice X n k) ∧ W.frozen? ⟨q, 0, none⟩ = false) := fun W hb => by
      have e := (hb.block q (lt_of_heap HHH.out)).trans HHH.out
      exact ⟨e, by rw [cell_of_row W q 0 _ 64 (0, 0) e]; rfl, frozen_of_row W q 0 _ 64 e⟩
    obtain ⟨cA, s1⟩ := cut_hi HE.out HN.out hk1 (i := i) (by omega)
    obtain ⟨X2, k2, cB, s2⟩ := cut_lo HE.out HN.out hk1 (i := i + 1) (by omega)
    have cA' := fun W => cA W (i : Int) rfl
    have cB' := fun W => cB W ((i : Int) + 1) (by omega)
    have B1 := ((Below.refl w.heap.size w).alloc (Nat.le_refl _) (.cells #[] 89))
    have l1 := (HBB.out _ B1).2.1
    have own0 : (w.alloc (.cells #[] 89)).ownsRow w.heap.size 89 3 (.slice (some ⟨w.heap.size, 0, none⟩) 0 0) 0 (vals cr []) := World.ownsRow_lit w #[] 0 (Nat.le_refl _) (by unfold maxLen; omega) rfl
    have hl1 : (L.take i).length = i := by rw [List.length_take, HN.out]; omega
    have hl2 : (L.drop (i + 1)).length = n - (i + 1) := by rw [List.length_drop, HN.out]
    have b1 : 0 + i ≤ 100000 := by omega
    have b2 : i + (n - (i + 1)) ≤ 100000 := by omega
    have s1' := s1.below B1
    have HL1 := Lib.hid hl1
    have HL2 := Lib.hid hl2
    have HS2 := Lib.hid s2
    have HIH := Lib.hid hih
    have i0 : decide ((i : Int) < 0) = false := by simp <;> omega
    clear cA cB hl1 hl2 s1 s2 hih
    obtain ⟨n2, hn2⟩ : ∃ n2, n - (i + 1) = n2 := ⟨_, rfl⟩
    rw [hn2] at cB' b2 HL2
    go_wp2_with (first
      | (at_builtin; refine wpList_append_row kr (by omega) rfl _ _ rfl w.heap.size (.slice (some ⟨w.heap.size, 0, none⟩) 0 0) [] (L.take i) 0 rfl rfl own0 X i k rfl HL1.out s1' b1 B1.size i (Nat.zero_add _) ?_; intro Y1 j1 w3 hown1 hg1; have hb1 := B1.grown hg1 B1.size (fun k hk => (own0.lt k hk).1); have lw1 := (HBB.out _ hb1).2.1; have s3 := HS2.out.below hb1)
      | (at_builtin; refine wpList_append_row kr (by omega) rfl _ _ rfl w.heap.size (.slice Y1 i j1) ([] ++ L.take i) (L.drop (i + 1)) i HL1.out rfl hown1 X2 n2 k2 rfl HL2.out s3 b2 hb1.size (i + n2) rfl ?_; intro Y2 j2 w4 hown2 hg2; have hb2 := hb1.grown hg2 hb1.size (fun k hk => (hown1.lt k hk).1); obtain ⟨hq5, hc5, hz5⟩ := HBB.out _ hb2))
    have hq6 := heap_setCell_same w4 q 0 _ 64 (.slice Y2 (i + n2) j2) hq5
    have hown6 : (w4.setCell ⟨q, 0, none⟩ (.slice Y2 (i + n2) j2)).ownsRow w.heap.size 89 3 (.slice Y2 (i + n2) j2) (i + n2) (vals cr ([] ++ L.take i ++ L.drop (i + 1))) := own_keep hown2 fun g1 cs hg1 _ => Below.heap_setCell w4 ⟨q, 0, none⟩ _ g1 (by rintro rfl; rw [hq5] at hg1; injection hg1 with hg1; injection hg1 with _ hg2; cases hg2)
    have hx : ix L i ∈ S := HP.out.mem_iff.1 (ix_mem (by rw [HN.out]; exact hi))
    have hdp := rdel_perm HP.out HT.out.good.apart (i := i) (by rw [HN.out]; exact hi)
    rw [HIH.out] at hdp
    have hso : (L.take i ++ L.drop (i + 1)).Pairwise fun x y => x.2.1 < y.2.1 := by
      refine HLL.out.sublist ?_
      have e : L = L.take i ++ L.drop i := (List.take_append_drop _ _).symm
      conv => rhs; rw [e]
      refine List.Sublist.append (List.Sublist.refl _) ?_
      have e2 : L.drop (i + 1) = (L.drop i).drop 1 := by rw [List.drop_drop]
      rw [e2]; exact List.drop_sublist _ _
    have HR := Lib.hid (rf_mk hdp hso hq6 (own_base (B := w.heap.size) (by simpa using hown6) (Nat.zero_le _)) (by rw [List.length_append, HL1.out, HL2.out]) (good_del HT.out.good hd))
    have HO := Lib.hid ((Only.of_below (p := q) (m := q) hb2).setCell (q := ⟨q, 0, none⟩) (.inl rfl) (.slice Y2 (i + n2) j2))
    have HX := Lib.hid hx
    clear hq6 hown6 hx hdp hso hown1 hown2 hg1 hg2 hb1 hb2 cA' cB' own0 l1 s1' s3 B1
    go_wp2
    go_ret
    refine ⟨?_, HR.out, HO.out⟩
    have := fnd_some HT.out.good.apart HX.out
    rw [HIH.out] at this
    rw [← HB.out, this]; rfl
  · have HNO : Hid (∀ x, x ∈ S → x.2.1 ≠ hd) := fun x hx => hno x (HP.out.mem_iff.2 hx)
    clear hno
    go_wp2
    go_ret
    refine ⟨?_, ?_, Only.refl _ _ _⟩
    · rw [← HB.out, fnd_none HNO.out]; rfl
    · rw [del_none HNO.out]; exact HT.out

theorem Rf.drewN {w : World} {q : Nat} {S : List En} {last : Int} (h : Rf w q S last) (n : Nat) : Rf (w.drewN n) q S last := h.below (below_drewN w n)

set_option maxHeartbeats 800000 in
theorem rleft_some (w : World) (q : Nat) (S : List En) (last : Int) (h : Rf w q S last) (hd now : Int) (x : En) (hx : fnd S hd = some x) (r : Int) (hr : lft x.1 now = r) :
    Calls Try.prog 43 #[.pointer (some ⟨q, 0, none⟩), .int .i64 hd, .int .u64 now] w fun e w' => e = .returned (.tuple #[.int .i64 r, .bool true]) ∧ w = w' := by
  obtain ⟨L, X, k, hp, hL, hn, hh, hE, hk1, hk2⟩ := h.open
  have hlen := h.good.len
  have hxs := List.mem_of_find?_eq_some hx
  have hxh : x.2.1 = hd := by have := List.find?_some hx; simpa using this
  obtain ⟨n, hSn⟩ : ∃ n, S.length = n := ⟨_, rfl⟩
  rw [hSn] at hh hn hE hk1 hlen
  have HF := Lib.hid (rfind_any q n k X L (.int .i64 last) w hh hE hn hlen hd)
  have HU : Hid (∀ j, j < n → (ix L j).2.1 = hd → ix L j = x) := fun j hj e => apart_inj h.good.apart _ _ (hp.mem_iff.1 (ix_mem (by rw [hn]; exact hj))) hxs (by rw [e, hxh])
  have HM := Lib.hid (hp.mem_iff.2 hxs)
  have HXH := Lib.hid hxh
  have c0 : w.cell? ⟨q, 0, none⟩ = some (.slice X n k) := by rw [cell_of_row w q 0 _ 64 (0, 0) hh]; rfl
  have HN := Lib.hid hn
  have HE := Lib.hid hE
  have HR := Lib.hid hr
  clear h hh hE hSn hn hp hL hx hxs hxh hr
  go_enter Try.func43, Try.ntmps43
  go_wp2_with fail
  refine HF.out.mono ?_
  rintro e w1 ⟨f, rfl, hf, rfl⟩
  clear HF
  rcases hf with ⟨i, rfl, hi, hih⟩ | ⟨rfl, hno⟩
  · rw [HN.out] at hi
    obtain ⟨b, rfl, hc⟩ := own_cr HE.out HN.out (by omega)
    obtain ⟨_, d1, _⟩ := hc i hi
    rw [HU.out i hi hih] at d1
    have i0 : decide ((i : Int) < 0) = false := by simp <;> omega
    have i1 : (i : Int) < (n : Int) := by omega
    clear hc hih
    go_wp2
    go_ret2
    refine ⟨?_, rfl⟩
    rw [← HR.out]
    rfl
  · exact absurd HXH.out (hno x HM.out)

set_option maxHeartbeats 800000 in
theorem rleft_none (w : World) (q : Nat) (S : List En) (last : Int) (h : Rf w q S last) (hd now : Int) (hx : fnd S hd = none) :
    Calls Try.prog 43 #[.pointer (some ⟨q, 0, none⟩), .int .i64 hd, .int .u64 now] w fun e w' => e = .returned (.tuple #[.int .i64 0, .bool false]) ∧ w = w' := by
  obtain ⟨L, X, k, hp, hL, hn, hh, hE, hk1, hk2⟩ := h.open
  have hlen := h.good.len
  obtain ⟨n, hSn⟩ : ∃ n, S.length = n := ⟨_, rfl⟩
  rw [hSn] at hh hn hE hk1 hlen
  have HF := Lib.hid (rfind_any q n k X L (.int .i64 last) w hh hE hn hlen hd)
  have HNN : Hid (∀ y, y ∈ L → y.2.1 ≠ hd) := fun y hy e => by
    have := List.find?_eq_none.1 hx y (hp.mem_iff.1 hy)
    simp at this; exact this e
  clear h hh hE hSn hn hp hL hx
  go_enter Try.func43, Try.ntmps43
  go_wp2_with fail
  refine HF.out.mono ?_
  rintro e w1 ⟨f, rfl, hf, rfl⟩
  clear HF
  rcases hf with ⟨i, rfl, hi, hih⟩ | ⟨rfl, hno⟩
  · exact absurd hih (HNN.out _ (ix_mem hi))
  · clear hno
    go_wp2
    go_ret2
    exact ⟨rfl, rfl⟩

set_option maxHeartbeats 800000 in
theorem rnext_none (w : World) (q : Nat) (last : Int) (h : Rf w q [] last) :
    Calls Try.prog 41 #[.pointer (some ⟨q, 0, none⟩)] w fun e w' => e = .returned (.tuple #[.int .u64 0, .bool false]) ∧ ∃ d, w' = w.drewN d := by
  obtain ⟨L, X, k, hp, hL, hn, hh, hE, hk1, hk2⟩ := h.open
  have HF := Lib.hid (least_any q 0 k X L (.int .i64 last) w hh hE hn (by omega))
  clear h hh hE hn hp hL hk1
  go_enter Try.func41, Try.ntmps41
  go_wp2_with fail
  refine HF.out.mono ?_
  rintro e w1 ⟨hd, hr⟩
  rcases hr with ⟨_, rfl⟩ | ⟨r, _, hls⟩
  · clear HF
    go_wp2
    go_ret2
    exact ⟨rfl, hd⟩
  · exact absurd hls.1 (by omega)

set_option maxHeartbeats 800000 in
theorem rnext_some (w : World) (q : Nat) (s : En) (S : List En) (last : Int) (h : Rf w q (s :: S) last) :
    Calls Try.prog 41 #[.pointer (some ⟨q, 0, none⟩)] w fun e w' => e = .returned (.tuple #[.int .u64 s.1, .bool true]) ∧ ∃ d, w' = w.drewN d := by
  obtain ⟨L, X, k, hp, hL, hn, hh, hE, hk1, hk2⟩ := h.open
  have hlen := h.good.len
  obtain ⟨n, hSn⟩ : ∃ n, (s :: S).length = n := ⟨_, rfl⟩
  have hn0 : 0 < n := by rw [← hSn]; simp
  rw [hSn] at hh hn hE hk1 hlen
  have HF := Lib.hid (least_any q n k X L (.int .i64 last) w hh hE hn hlen)
  have HLE : Hid (∀ r, LsUp L n r → ix L r = s) := fun r hr => ls_end hp h.good.srt hL (by rw [hn]; exact hr)
  have HHH := Lib.hid hh
  have HN := Lib.hid hn
  have HE := Lib.hid hE
  clear h hh hE hSn hn hp hL
  go_enter Try.func41, Try.ntmps41
  go_wp2_with fail
  refine HF.out.mono ?_
  rintro e w1 ⟨⟨d, hd⟩, hr⟩
  rcases hr with ⟨h0, _⟩ | ⟨r, rfl, hls⟩
  · omega
  · have c0 : w1.cell? ⟨q, 0, none⟩ = some (.slice X n k) := by rw [hd]; rw [cell_of_row (w.drewN d) q 0 _ 64 (0, 0) HHH.out]; rfl
    have own1 : w1.ownsRow 0 89 3 (.slice X n k) n (vals cr L) := by rw [hd]; exact HE.out
    obtain ⟨b, rfl, hc⟩ := own_cr own1 HN.out hn0
    have hrn : r < n := hls.1
    obtain ⟨_, d1, _⟩ := hc r hrn
    rw [HLE.out r hls] at d1
    have i0 : decide ((r : Int) < 0) = false := by simp <;> omega
    have i1 : (r : Int) < (n : Int) := by omega
    have HD := Lib.hid hd
    clear hc own1 hls HF hd
    go_wp2
    go_ret2
    exact ⟨rfl, d, HD.out⟩
end Go.Proofs.Ytpnhpgdidineaaa
