/- Contracts of package mtx: Held, Waiting, Free; kinds of rows. -/
import Derived.Test.YtmicinenggkmlaaMtF
namespace Go.Proofs.Ytmicinenggkmlaa.K
open Go.RowKit
set_option maxRecDepth 100000
/-- a mutex's cells; a kind's; a pointer -/
def cm (x : Int × Int × Int × Nat) : List Value := [.int .i64 x.1, .int .i64 x.2.1, .int .i64 x.2.2.1, .pointer (some ⟨x.2.2.2, 0, none⟩)]
def ck (x : Int × Int) : List Value := [.int .i64 x.1, .int .i64 x.2]
def cp (x : Nat) : List Value := [.pointer (some ⟨x, 0, none⟩)]
theorem info70 : (Try.prog.info? 70).map (fun i => (i.zero, i.size, i.bytes)) = some (some (.agg #[.int .i64 0, .int .i64 0, .int .i64 0, .pointer none]), 4, 32) := by kernel_rfl
theorem info55 : (Try.prog.info? 55).map (fun i => (i.zero, i.size, i.bytes)) = some (some (.agg #[.int .i64 0, .int .i64 0]), 2, 16) := by kernel_rfl
theorem info75 : (Try.prog.info? 75).map (fun i => (i.zero, i.size, i.bytes)) = some (some (.agg #[.int .i64 0, .int .i64 0]), 2, 16) := by kernel_rfl
theorem info76 : (Try.prog.info? 76).map (fun i => (i.zero, i.size, i.bytes)) = some (some (.pointer none), 1, 8) := by kernel_rfl
theorem km : Kd (Int × Int × Int × Nat) cm 64 70 4 := by
  obtain ⟨i, h1, h2, h3, h4⟩ := info_parts info70
  exact ⟨Try.underlying64, ⟨i, _, _, h1, h2, h3, h4, rfl, by omega⟩, fun _ => rfl, fun x u hu => by simp [cm] at hu; rcases hu with rfl | rfl | rfl | rfl <;> rfl⟩
theorem kk : Kd (Int × Int) ck 22 55 2 := by
  obtain ⟨i, h1, h2, h3, h4⟩ := info_parts info55
  exact ⟨Try.underlying22, ⟨i, _, _, h1, h2, h3, h4, rfl, by omega⟩, fun _ => rfl, fun x u hu => by simp [ck] at hu; rcases hu with rfl | rfl <;> rfl⟩
theorem kr : Kd (Int × Int) ck 32 75 2 := by
  obtain ⟨i, h1, h2, h3, h4⟩ := info_parts info75
  exact ⟨Try.underlying32, ⟨i, _, _, h1, h2, h3, h4, rfl, by omega⟩, fun _ => rfl, fun x u hu => by simp [ck] at hu; rcases hu with rfl | rfl <;> rfl⟩
theorem kp : Kd Nat cp 71 76 1 := by
  obtain ⟨i, h1, h2, h3, h4⟩ := info_parts info76
  exact ⟨Try.underlying71, ⟨i, _, _, h1, h2, h3, h4, rfl, by omega⟩, fun _ => rfl, fun x u hu => by simp [cp] at hu; subst hu; rfl⟩
/-- where it lies -/
theorem own_at {α : Type} {c : α → List Value} {w : World} {B n k z : Nat} {e : TypeId} {X : Option Addr} {L : List α} (h0 : 0 < n) (h : w.ownsRow B e z (.slice X n k) n (vals c L)) :
    ∃ (g : Nat) (cur : Array Value), X = some ⟨g, 0, none⟩ ∧ B ≤ g ∧ w.heap[g]? = some (.cells cur e (0, 0)) ∧ ∀ (j : Nat) (u : Value), (vals c L)[j]? = some u → cur[j]? = some u := by
  rcases h.2 with ⟨_, h1⟩ | ⟨g, cap, cur, h1, h2, hh, _, _, _, ht⟩
  · omega
  · injection h1 with h1 _ _
    refine ⟨g, cur, h1, h2, hh, fun j u hu => ?_⟩
    rw [← ht, List.getElem?_take] at hu
    split at hu
    · simpa using hu
    · cases hu
theorem vals_ci (L : List Int) : vals ci L = L.map (fun x => Value.int .i64 x) := by
  induction L with
  | nil => rfl
  | cons x L ih =>
    unfold vals at ih ⊢
    rw [List.flatMap_cons, ih]; rfl
end Go.Proofs.Ytmicinenggkmlaa.K
namespace Go.Proofs.Ytmicinenggkmlaa
open Go.RowKit
set_option linter.unusedVariables false
set_option maxRecDepth 100000

/-- a row of numbers of one's own -/
abbrev Ow (w : World) (B : Nat) (v : Value) (D : List Int) : Prop := w.ownsRow B 3 1 v D.length (K.vals K.ci D)
theorem ow_nil (w : World) (B : Nat) : Ow w B (.slice none 0 0) [] := ⟨rfl, .inl ⟨rfl, rfl⟩⟩

theorem hel_len (S : St) (t : Int) : ∀ k, (hel S t k).length ≤ k
  | 0 => Nat.le_refl _
  | k + 1 => by
    have := hel_len S t k
    unfold hel
    split
    · rw [List.length_append]; simp; omega
    · omega

set_option maxHeartbeats 3200000 in
theorem held_any (a g : Nat) (q : Nat → Nat) (S : St) (t : Int) (w : World) (h : Mx w a g q S) (hf : Fine0 S) :
    Calls Try.prog 32 #[PtrV a, .int .i64 t] w fun e w' => ∃ v, e = .returned v ∧ Ow w' w.heap.size v (held S t) ∧ Below w.heap.size w w' := by
  unfold held
  by_cases c : isT t
  · rw [if_pos c]
    obtain ⟨X, k, c16, _, _, hX⟩ := h.row
    have HT := Lib.hid (isTask_any t w true (decide_eq_true c))
    have hn8 := hf.n8
    have HX := Lib.hid hX
    have HH := Lib.hid h
    clear hf hX h c
    obtain ⟨n, hn⟩ : ∃ n, S.n = n := ⟨_, rfl⟩
    have HN := Lib.hid hn
    rw [hn] at c16 hn8
    clear hn
    go_enter Try.func32, Try.ntmps32
    go_wp2_with fail
    refine HT.out.mono ?_
    rintro e w1 ⟨rfl, rfl⟩
    go_wp2
    clear c16
    go_loopw [16, 5] (fun i r wr => ∃ (v : Nat) (vo : Value), v ≤ n ∧ i = .int .i64 (v : Int) ∧ r = vo ∧ Ow wr w.heap.size vo (hel S t v) ∧ Below w.heap.size w wr) (fun i _ _ => n - (intOf i).toNat)
    case atStart => exact ⟨0, _, Nat.zero_le _, rfl, rfl, ow_nil _ _, Below.refl _ _⟩
    case round =>
      obtain ⟨v, vo, hv, rfl, rfl, hown, hb⟩ := hrel
      have h2 := HH.out.below hb
      obtain ⟨X1, k1, rfl, _, _⟩ := K.own_form hown
      have HO := Lib.hid hown
      have HB := Lib.hid hb
      by_cases hlt : v < n
      · have hvn : v < S.n := by rw [HN.out]; exact hlt
        obtain rfl := HX.out (by omega)
        obtain ⟨d0, d1, d2, d3⟩ := h2.cells hvn
        have hl8 := hel_len S t v
        have HHE := Lib.hid (show hel S t (v + 1) = if S.O v = t then hel S t v ++ [(v : Int) + 1] else hel S t v from rfl)
        obtain ⟨L, hL⟩ : ∃ L, hel S t v = L := ⟨_, rfl⟩
        rw [hL] at HO HHE hl8 ⊢
        obtain ⟨n1, hn1⟩ : ∃ n1, L.length = n1 := ⟨_, rfl⟩
        have HL := Lib.hid hn1
        rw [hn1] at hl8 ⊢
        obtain ⟨xa, hxa⟩ : ∃ x, S.A v = x := ⟨_, rfl⟩
        obtain ⟨xc, hxc⟩ : ∃ x, S.C v = x := ⟨_, rfl⟩
        obtain ⟨xo, hxo⟩ : ∃ x, S.O v = x := ⟨_, rfl⟩
        obtain ⟨p, hp⟩ : ∃ x, q v = x := ⟨_, rfl⟩
        rw [hxa] at d0
        rw [hxc] at d1
        rw [hxo] at d2 HHE
        rw [hp] at d3
        obtain ⟨wa, hwa⟩ : ∃ wa, wr.alloc (.cells #[.int .i64 xa, .int .i64 xc, .int .i64 xo, PtrV p] 70) = wa := ⟨_, rfl⟩
        have ba : Below wr.heap.size wr wa := by rw [← hwa]; exact (Below.refl _ _).alloc (Nat.le_refl _) _
        have f2 : wa.cell? ⟨wr.heap.size, 2, none⟩ = some (.int .i64 xo) := by
          have := heap_alloc_new wr (.cells #[.int .i64 xa, .int .i64 xc, .int .i64 xo, PtrV p] 70)
          rw [hwa] at this
          rw [cell_of_row wa _ 2 _ 70 (0, 0) this]; rfl
        by_cases c : xo = t
        · rw [if_pos c] at HHE
          subst c
          have te : (xo == xo) = true := by simp
          obtain ⟨wb, hwb⟩ : ∃ wb, wa.alloc (.cells #[.int .i64 ((v : Int) + 1)] 3) = wb := ⟨_, rfl⟩
          have bb : Below wa.heap.size wa wb := by rw [← hwb]; exact (Below.refl _ _).alloc (Nat.le_refl _) _
          have src := K.sr_one K.ci wa 3 ((v : Int) + 1)
          rw [show (K.ci ((v : Int) + 1)).toArray = #[.int .i64 ((v : Int) + 1)] from rfl, hwb] at src
          have HBB := Lib.hid (below_trans ba bb)
          have hownb := K.own_below HO.out HBB.out
          rw [HL.out] at hownb
          have hbs : w.heap.size ≤ wb.heap.size := by have := HB.out.size; have := HBB.out.size; omega
          have HBS := Lib.hid hbs
          have b2 : n1 + 1 ≤ 100000 := by omega
          clear hown hb hl8 hbs h2 hL hn1 hxa hxc hxo hp ba bb
          go_wp2_with (first
            | (refine K.wpList_append_row K.ki (by decide) rfl _ _ rfl w.heap.size (.slice X1 n1 k1) L [(v : Int) + 1] n1 HL.out rfl hownb _ 1 1 rfl rfl src b2 HBS.out (n1 + 1) rfl ?_
               intro X7 k7 w7 hown7 hgr7
               have HO7 := Lib.hid hown7
               have hb7 : Below w.heap.size w w7 := (HB.out.trans (HBB.out.mono HB.out.size)).grown hgr7 HBS.out (fun k hk => (hownb.lt k hk).1)
               have HB7 := Lib.hid hb7
               clear hown7 hgr7 hb7))
          go_roundw
          case rel => exact ⟨v + 1, _, by omega, by go_num, rfl, by unfold Ow; rw [HHE.out, List.length_append, HL.out]; exact HO7.out, HB7.out⟩
          case measure => simp [intOf]; omega
        · rw [if_neg c] at HHE
          have te : (xo == t) = false := by simpa using c
          have HO2 := Lib.hid (K.own_below HO.out ba)
          have HB2 := Lib.hid (below_trans HB.out ba)
          rw [HL.out] at HO2
          clear hown hb hl8 h2 hL hn1 hxa hxc hxo hp ba c
          go_wp2
          go_roundw
          case rel => exact ⟨v + 1, _, by omega, by go_num, rfl, by unfold Ow; rw [HHE.out, HL.out]; exact HO2.out, HB2.out⟩
          case measure => simp [intOf]; omega
      · have e : v = n := by omega
        have HE := Lib.hid e
        clear h2 hown hb e
        go_wp2
        go_ret
        exact ⟨_, rfl, by rw [HN.out, ← HE.out]; exact HO.out, HB.out⟩
  · rw [if_neg c]
    have HT := Lib.hid (isTask_any t w false (decide_eq_false c))
    clear h hf c
    go_enter Try.func32, Try.ntmps32
    go_wp2_with fail
    refine HT.out.mono ?_
    rintro e w1 ⟨rfl, rfl⟩
    go_wp2
    go_ret
    exact ⟨_, rfl, ow_nil _ _, Below.refl _ _⟩

set_option maxHeartbeats 3200000 in
theorem waiting_any (a g : Nat) (q : Nat → Nat) (S : St) (m : Int) (w : World) (h : Mx w a g q S) (hf : Fine0 S) :
    Calls Try.prog 31 #[PtrV a, .int .i64 m] w fun e w' => ∃ v, e = .returned v ∧ Ow w' w.heap.size v (wait S m) ∧ Below w.heap.size w w' := by
  unfold wait
  by_cases c : isM S m
  · rw [if_pos c]
    obtain ⟨hi, hmi⟩ := ix_of c
    obtain ⟨i, hii⟩ : ∃ i, ix m = i := ⟨_, rfl⟩
    rw [hii] at hi hmi ⊢
    have hm' : m - 1 = (i : Int) := by omega
    have HM := Lib.hid (isMutex_any a g q S m w h true (decide_eq_true c))
    obtain ⟨X, k, c16, hk1, hk2, hX⟩ := h.row
    obtain rfl := hX (by omega)
    obtain ⟨_, _, _, d3⟩ := h.cells hi
    obtain ⟨p, hp⟩ : ∃ p, q i = p := ⟨_, rfl⟩
    rw [hp] at d3
    have HR := Lib.hid (row_ok p 87 (S.bp i) (S.Q i) w (h.ql hi hp) (hf.gd i hi).len)
    have hlen := (hf.gd i hi).len
    have hin : i < S.n := hi
    obtain ⟨n, hn⟩ : ∃ n, S.n = n := ⟨_, rfl⟩
    rw [hn] at c16 hin hk1
    obtain ⟨M, hM⟩ : ∃ M, S.Q i = M := ⟨_, rfl⟩
    rw [hM] at HR hlen ⊢
    clear h hf c hi hmi hii hX hp hn hM
    go_enter Try.func31, Try.ntmps31
    go_wp2_with fail
    refine HM.out.mono ?_
    rintro e w1 ⟨rfl, rfl⟩
    go_wp2_with fail
    refine HR.out.mono ?_
    rintro e w1 ⟨vr, rfl, hs, hb1⟩
    obtain ⟨XR, kr, rfl, hkr1, hkr2⟩ := sl_form hs
    obtain ⟨N, hN⟩ : ∃ N, M.length = N := ⟨_, rfl⟩
    have HN := Lib.hid hN
    rw [hN] at hs hlen hkr1 ⊢
    have HS := Lib.hid hs
    have HB1 := Lib.hid hb1
    clear hs hb1 hN c16 d3
    go_wp2
    go_loopw [25, 5] (fun i r wr => ∃ (t : Nat) (vo : Value), t ≤ N ∧ i = .int .i64 (t : Int) ∧ r = vo ∧ Ow wr w1.heap.size vo ((M.take t).map Prod.fst) ∧ Below w1.heap.size w1 wr) (fun i _ _ => N - (intOf i).toNat)
    case atStart => exact ⟨0, _, Nat.zero_le _, rfl, rfl, ow_nil _ _, Below.refl _ _⟩
    case round =>
      obtain ⟨t, vo, ht, rfl, rfl, hown, hb⟩ := hrel
      obtain ⟨X1, k1, rfl, _, _⟩ := K.own_form hown
      have HO := Lib.hid hown
      have HB := Lib.hid hb
      by_cases hlt : t < N
      · obtain ⟨x, hx⟩ : ∃ x, M[t]? = some x := ⟨_, List.getElem?_eq_getElem (by rw [HN.out]; exact hlt)⟩
        obtain ⟨g1, o1, rfl, hc⟩ := sl_open (HS.out.below hb) (by rw [HN.out]; omega)
        obtain ⟨e0, e1⟩ := hc t x hx
        have HX := Lib.hid hx
        have hl8 : ((M.take t).map Prod.fst).length = t := by rw [List.length_map, List.length_take, HN.out]; omega
        have HL := Lib.hid hl8
        rw [hl8]
        obtain ⟨wa, hwa⟩ : ∃ wa, wr.alloc (.cells #[.int .i64 x.1, .int .i64 x.2] 82) = wa := ⟨_, rfl⟩
        have ba : Below wr.heap.size wr wa := by rw [← hwa]; exact (Below.refl _ _).alloc (Nat.le_refl _) _
        have f0 : wa.cell? ⟨wr.heap.size, 0, none⟩ = some (.int .i64 x.1) := by
          have := heap_alloc_new wr (.cells #[.int .i64 x.1, .int .i64 x.2] 82)
          rw [hwa] at this
          rw [cell_of_row wa _ 0 _ 82 (0, 0) this]; rfl
        obtain ⟨wb, hwb⟩ : ∃ wb, wa.alloc (.cells #[.int .i64 x.1] 3) = wb := ⟨_, rfl⟩
        have bb : Below wa.heap.size wa wb := by rw [← hwb]; exact (Below.refl _ _).alloc (Nat.le_refl _) _
        have src := K.sr_one K.ci wa 3 x.1
        rw [show (K.ci x.1).toArray = #[.int .i64 x.1] from rfl, hwb] at src
        have HBB := Lib.hid (below_trans ba bb)
        have hownb := K.own_below HO.out HBB.out
        rw [HL.out] at hownb
        have hbs : w1.heap.size ≤ wb.heap.size := by have := HB.out.size; have := HBB.out.size; omega
        have HBS := Lib.hid hbs
        have b2 : t + 1 ≤ 100000 := by omega
        have e2 := Lib.hid (show (M.take (t + 1)).map Prod.fst = (M.take t).map Prod.fst ++ [x.1] by rw [take_snoc HX.out, List.map_append]; rfl)
        generalize (M.take t).map Prod.fst = L at *
        clear hown hb hbs hl8 hx hc ba bb
        go_wp2_with (first
          | (refine K.wpList_append_row K.ki (by decide) rfl _ _ rfl w1.heap.size (.slice X1 t k1) L [x.1] t HL.out rfl hownb _ 1 1 rfl rfl src b2 HBS.out (t + 1) rfl ?_
             intro X7 k7 w7 hown7 hgr7
             have HO7 := Lib.hid hown7
             have hb7 : Below w1.heap.size w1 w7 := (HB.out.trans (HBB.out.mono HB.out.size)).grown hgr7 HBS.out (fun k hk => (hownb.lt k hk).1)
             have HB7 := Lib.hid hb7
             clear hown7 hgr7 hb7))
        go_roundw
        case rel => exact ⟨t + 1, _, by omega, by go_num, rfl, by unfold Ow; rw [e2.out, List.length_append, HL.out]; exact HO7.out, HB7.out⟩
        case measure => simp [intOf]; omega
      · have e : t = N := by omega
        have HE := Lib.hid e
        clear hown hb e
        go_wp2
        go_ret
        refine ⟨_, rfl, ?_, below_trans HB1.out HB.out⟩
        have ht : M.map Prod.fst = (M.take t).map Prod.fst := by rw [List.take_of_length_le (by rw [HN.out, HE.out]; exact Nat.le_refl _)]
        rw [ht]
        exact K.own_base HO.out HB1.out.size
  · rw [if_neg c]
    have HM := Lib.hid (isMutex_any a g q S m w h false (decide_eq_false c))
    clear h hf c
    go_enter Try.func31, Try.ntmps31
    go_wp2_with fail
    refine HM.out.mono ?_
    rintro e w1 ⟨rfl, rfl⟩
    go_wp2
    go_ret
    exact ⟨_, rfl, ow_nil _ _, Below.refl _ _⟩

/-! ### Free -/
def fl (S : St) (L : List Int) : St × List Int := L.foldl (fun s m => (passS s.1 (ix m), s.2 ++ if fst (s.1.Q (ix m)) = 0 then [] else [fst (s.1.Q (ix m))])) (S, [])
theorem fl_snoc (S : St) (L : List Int) (m : Int) : fl S (L ++ [m]) = (passS (fl S L).1 (ix m), (fl S L).2 ++ if fst ((fl S L).1.Q (ix m)) = 0 then [] else [fst ((fl S L).1.Q (ix m))]) := by
  unfold fl; rw [List.foldl_append]; rfl
theorem fl_hel (S : St) (t : Int) : ∀ k, fl S (hel S t k) = frk S t k
  | 0 => rfl
  | k + 1 => by
    have ih := fl_hel S t k
    unfold hel frk
    split
    · rw [fl_snoc, ih]
      have : ix ((k : Int) + 1) = k := by unfold ix; omega
      rw [this]
    · exact ih
theorem hel_mem {S : St} {t m : Int} : ∀ {k : Nat}, m ∈ hel S t k → ∃ i : Nat, i < k ∧ m = (i : Int) + 1
  | 0, h => by cases h
  | k + 1, h => by
    unfold hel at h
    split at h
    · rcases List.mem_append.1 h with h | h
      · obtain ⟨i, hi, e⟩ := hel_mem h; exact ⟨i, by omega, e⟩
      · rw [List.mem_singleton] at h; exact ⟨k, by omega, h⟩
    · obtain ⟨i, hi, e⟩ := hel_mem h; exact ⟨i, by omega, e⟩
theorem held_mem {S : St} {t m : Int} (h : m ∈ held S t) : isM S m := by
  unfold held at h
  split at h
  · obtain ⟨i, hi, e⟩ := hel_mem h; unfold isM; omega
  · cases h
theorem fl_held (S : St) (t : Int) : fl S (held S t) = fre S t := by
  unfold held fre
  split
  · exact fl_hel S t S.n
  · rfl
theorem fl_fine {S : St} (h : Fine S) : ∀ {n : Nat} {L : List Int}, (∀ m, m ∈ L → isM S m) → L.length = n → Fine (fl S L).1 ∧ (fl S L).1.n = S.n
  | 0, L, _, h0 => by rw [List.eq_nil_of_length_eq_zero h0]; exact ⟨h, rfl⟩
  | n + 1, L, hm, h0 => by
    have e : L = L.take n ++ [L[n]] := by
      rw [← take_snoc (List.getElem?_eq_getElem (by omega)), List.take_of_length_le (by omega)]
    have hl : (L.take n).length = n := by rw [List.length_take]; omega
    obtain ⟨h1, h2⟩ := fl_fine h (n := n) (L := L.take n) (fun m hx => hm m (List.mem_of_mem_take hx)) hl
    have h3 := hm L[n] (List.getElem_mem _)
    rw [e, fl_snoc]
    exact ⟨h1.passS (by rw [h2]; exact (ix_of h3).1), h2⟩
theorem fl_len (S : St) : ∀ {n : Nat} {L : List Int}, L.length = n → (fl S L).2.length ≤ n
  | 0, L, h0 => by rw [List.eq_nil_of_length_eq_zero h0]; exact Nat.le_refl _
  | n + 1, L, h0 => by
    have e : L = L.take n ++ [L[n]] := by
      rw [← take_snoc (List.getElem?_eq_getElem (by omega)), List.take_of_length_le (by omega)]
    have hl : (L.take n).length = n := by rw [List.length_take]; omega
    have ih := fl_len S (n := n) (L := L.take n) hl
    rw [e, fl_snoc]
    simp only [List.length_append]
    split
    · simp; omega
    · simp; omega
theorem own_on {Z : Nat → Prop} {w w' : World} {B n z : Nat} {e : TypeId} {v : Value} {xs : List Value} (h : w.ownsRow B e z v n xs) (k : OnS Z w w') (hz : ∀ b, Z b → b < B) : w'.ownsRow B e z v n xs :=
  K.own_keep h fun g1 cs hg he => k.block g1 (lt_of_heap hg) (fun hc => by have := hz g1 hc; have := (h.lt g1 he).1; omega)

set_option maxHeartbeats 3200000 in
theorem free_any (a g : Nat) (q : Nat → Nat) (S : St) (t : Int) (w : World) (h : Mx w a g q S) (hf : Fine S) :
    Calls Try.prog 25 #[PtrV a, .int .i64 t] w fun e w' => ∃ v, e = .returned v ∧ Ow w' w.heap.size v (fre S t).2 ∧ Did w a g q S.n (fre S t).1 w' := by
  rw [← fl_held]
  have hhl : (held S t).length ≤ 8 := by
    unfold held
    have := hf.n8
    split
    · have := hel_len S t S.n; omega
    · simp
  have hmem := fun m (hm : m ∈ held S t) => held_mem hm
  have HHE := Lib.hid (held_any a g q S t w h hf.toFine0)
  obtain ⟨L, hL⟩ : ∃ L, held S t = L := ⟨_, rfl⟩
  rw [hL] at hhl hmem HHE ⊢
  obtain ⟨N, hN⟩ : ∃ N, L.length = N := ⟨_, rfl⟩
  have HN := Lib.hid hN
  have HME := Lib.hid hmem
  have HF := Lib.hid hf
  have HH := Lib.hid h
  rw [hN] at hhl
  clear h hf hL hN hmem
  go_enter Try.func25, Try.ntmps25
  go_wp2_with fail
  refine HHE.out.mono ?_
  rintro e w1 ⟨vh, rfl, hoh, hb1⟩
  obtain ⟨XH, kh, rfl, hkh1, hkh2⟩ := K.own_form hoh
  rw [HN.out] at hoh hkh1 ⊢
  have HOH := Lib.hid hoh
  have HB1 := Lib.hid hb1
  have HM1 := Lib.hid (HH.out.below hb1)
  clear hoh hb1 HHE
  go_wp2
  go_loopw [13, 5] (fun i r wr => ∃ (j : Nat) (vo : Value), j ≤ N ∧ i = .int .i64 (j : Int) ∧ r = vo ∧ Ow wr w1.heap.size vo (fl S (L.take j)).2 ∧ Mx wr a g q (fl S (L.take j)).1 ∧ OnS (Zp a g q S.n) w1 wr) (fun i _ _ => N - (intOf i).toNat)
  case atStart => exact ⟨0, _, Nat.zero_le _, rfl, rfl, ow_nil _ _, HM1.out, OnS.refl _ _⟩
  case round =>
    obtain ⟨j, vo, hj, rfl, rfl, hown, hm, hon⟩ := hrel
    obtain ⟨X1, k1, rfl, _, _⟩ := K.own_form hown
    have HO := Lib.hid hown
    have HON := Lib.hid hon
    by_cases hlt : j < N
    · obtain ⟨m, hx⟩ : ∃ m, L[j]? = some m := ⟨_, List.getElem?_eq_getElem (by rw [HN.out]; exact hlt)⟩
      have hmM := HME.out m (List.mem_of_getElem? hx)
      have h0n : 0 < S.n := by unfold isM at hmM; omega
      have H0N := Lib.hid h0n
      have hzw : ∀ b, Zp a g q S.n b → b < w.heap.size := fun b hb => HH.out.zlt h0n hb
      obtain ⟨gh, cur, rfl, hgh, hhh, hch⟩ := K.own_at (n := N) (by omega) (by have := HOH.out; unfold Ow at this; rw [HN.out] at this; exact this)
      have e0 : wr.cell? ⟨gh, j, none⟩ = some (.int .i64 m) := by
        rw [cell_of_row wr gh j cur 3 (0, 0) ((hon.block gh (lt_of_heap hhh) (fun hc => by have := hzw gh hc; omega)).trans hhh)]
        exact hch j _ (by rw [K.vals_ci, List.getElem?_map, hx]; rfl)
      have hlj : (L.take j).length = j := by rw [List.length_take, HN.out]; omega
      obtain ⟨hfj, hnj⟩ := fl_fine HF.out (n := j) (L := L.take j) (fun m hx => HME.out m (List.mem_of_mem_take hx)) hlj
      have hol := fl_len S (n := j) hlj
      have HST := Lib.hid (show fl S (L.take (j + 1)) = _ by rw [take_snoc hx, fl_snoc])
      have HX := Lib.hid hx
      have HZW := Lib.hid hzw
      have HMM : Hid (isM (fl S (L.take j)).1 m) := Lib.hid (by unfold isM at hmM ⊢; rw [hnj]; exact hmM)
      obtain ⟨T, hT⟩ : ∃ T, (fl S (L.take j)).1 = T := ⟨_, rfl⟩
      obtain ⟨out, hout⟩ : ∃ out, (fl S (L.take j)).2 = out := ⟨_, rfl⟩
      rw [hT] at hm hfj hnj HST HMM
      rw [hout] at HO hol HST ⊢
      obtain ⟨n1, hn1⟩ : ∃ n1, out.length = n1 := ⟨_, rfl⟩
      have HL := Lib.hid hn1
      rw [hn1] at hol ⊢
      have HP := Lib.hid (pass_any a g q T m wr hm hfj HMM.out _ rfl)
      rw [hnj] at HP
      have hnj2 := Lib.hid (show (passS T (ix m)).n = S.n from hnj)
      obtain ⟨y, hy⟩ : ∃ y, fst (T.Q (ix m)) = y := ⟨_, rfl⟩
      rw [hy] at HP HST
      clear hown hm hon hx hmM h0n hhh hch hzw hlj hfj hnj hT hout hn1 hy
      go_wp2_with fail
      refine HP.out.mono ?_
      rintro e w2 ⟨rfl, hm2, ho2⟩
      have HO2 := Lib.hid (own_on HO.out ho2 (fun b hb => Nat.lt_of_lt_of_le (HZW.out b hb) HB1.out.size))
      have HM2 := Lib.hid hm2
      have HON2 := Lib.hid (HON.out.trans ho2)
      clear hm2 ho2 HP HO HON e0
      rw [HL.out] at HO2
      by_cases c : y = 0
      · subst c
        rw [if_pos rfl, List.append_nil] at HST
        go_wp2
        go_roundw
        case rel => exact ⟨j + 1, _, by omega, by go_num, rfl, by rw [HST.out]; unfold Ow; rw [HL.out]; exact HO2.out, by rw [HST.out]; exact HM2.out, HON2.out⟩
        case measure => simp [intOf]; omega
      · have ty : (y != 0) = true := by simpa using c
        rw [if_neg c] at HST
        clear c
        obtain ⟨wb, hwb⟩ : ∃ wb, w2.alloc (.cells #[.int .i64 y] 3) = wb := ⟨_, rfl⟩
        have HBB := Lib.hid (show Below w2.heap.size w2 wb by rw [← hwb]; exact (Below.refl _ _).alloc (Nat.le_refl _) _)
        have src := K.sr_one K.ci w2 3 y
        rw [show (K.ci y).toArray = #[.int .i64 y] from rfl, hwb] at src
        have hownb := K.own_below HO2.out HBB.out
        have hbs : w1.heap.size ≤ wb.heap.size := by have := HON2.out.size; have := HBB.out.size; omega
        have HBS := Lib.hid hbs
        have b2 : n1 + 1 ≤ 100000 := by omega
        clear hbs
        go_wp2_with (first
          | (refine K.wpList_append_row K.ki (by decide) rfl _ _ rfl w1.heap.size (.slice X1 n1 k1) out [y] n1 HL.out rfl hownb _ 1 1 rfl rfl src b2 HBS.out (n1 + 1) rfl ?_
             intro X7 k7 w7 hown7 hgr7
             have HO7 := Lib.hid hown7
             have hb7 : Below w1.heap.size wb w7 := (Below.refl w1.heap.size wb).grown hgr7 HBS.out (fun k hk => (hownb.lt k hk).1)
             have HB7 := Lib.hid hb7
             clear hown7 hgr7 hb7))
        have hk7 : ∀ b, b < w1.heap.size → w7.heap[b]? = w2.heap[b]? := fun b hb => (HB7.out.block b hb).trans (HBB.out.block b (by have := HON2.out.size; omega))
        have hmx : Mx w7 a g q (passS T (ix m)) := HM2.out.keep fun b hb => hk7 b (by
          have hz : Zp a g q S.n b := by
            rcases hb with rfl | ⟨_, rfl⟩ | ⟨i, hi, rfl⟩
            · exact .inl rfl
            · exact .inr (.inl ⟨H0N.out, rfl⟩)
            · refine .inr (.inr ⟨i, ?_, rfl⟩)
              have : (passS T (ix m)).n = S.n := hnj2.out
              omega
          have := HZW.out b hz
          have := HB1.out.size
          omega)
        have hon7 : OnS (Zp a g q S.n) w1 w7 := ⟨HB7.out.os.trans (HBB.out.os.trans HON2.out.os), HB7.out.tape.trans (HBB.out.tape.trans HON2.out.tape), HB7.out.output.trans (HBB.out.output.trans HON2.out.output), Nat.le_trans HON2.out.size (Nat.le_trans HBB.out.size HB7.out.size), fun b hb hz => (hk7 b hb).trans (HON2.out.block b hb hz)⟩
        go_roundw
        case rel => exact ⟨j + 1, _, by omega, by go_num, rfl, by rw [HST.out]; unfold Ow; rw [List.length_append, HL.out]; exact HO7.out, by rw [HST.out]; exact hmx, hon7⟩
        case measure => simp [intOf]; omega
    · have e : j = N := by omega
      have HE := Lib.hid e
      have HM := Lib.hid hm
      clear hown hm hon e
      go_wp2
      go_ret
      have ht : fl S L = fl S (L.take j) := by rw [List.take_of_length_le (by rw [HN.out, HE.out]; exact Nat.le_refl _)]
      rw [ht]
      exact ⟨_, rfl, K.own_base HO.out HB1.out.size, HM.out, (OnS.of_below HB1.out).trans HON.out⟩
end Go.Proofs.Ytmicinenggkmlaa
