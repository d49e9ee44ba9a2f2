/- Contracts of package mtx: Pri and what is lent (each by the other), wouldCircle. -/
import Derived.Test.YtmicinenggkmlaaMtA
import Derived.Test.YtmicinenggkmlaaRefA
namespace Go.Proofs.Ytmicinenggkmlaa
open Go.RowKit
set_option linter.unusedVariables false
set_option maxRecDepth 100000

theorem sl_form {w : World} {e : TypeId} {v : Value} {L : List It} (h : Sl w e v L) : ∃ (X : Option Addr) (k : Nat), v = .slice X L.length k ∧ L.length ≤ k ∧ k ≤ 9223372036854775807 := by
  rcases h with ⟨rfl, rfl⟩ | ⟨g, o, k, cs, rfl, h2, h3, _⟩
  · exact ⟨none, 0, rfl, Nat.le_refl _, by omega⟩
  · exact ⟨_, k, rfl, h2, h3⟩
theorem take_snoc {α : Type} {L : List α} {t : Nat} {x : α} (h : L[t]? = some x) : L.take (t + 1) = L.take t ++ [x] := by
  rw [List.take_add_one, h]; rfl

set_option maxHeartbeats 1600000 in
theorem lent_any (a g : Nat) (q : Nat → Nat) (S : St) (f : Int → Int) (i : Nat) (o : Int) (w : World) (h : Mx w a g q S) (hi : i < S.n) (hl : (S.Q i).length ≤ 16)
    (HP : ∀ w', Mx w' a g q S → ∀ y, y ∈ S.Q i → S.A i = 2 → Calls Try.prog 29 #[PtrV a, .int .i64 y.1] w' fun e w'' => e = .returned (.int .i64 (f y.1)) ∧ Below w'.heap.size w' w'') (r : Int) (hr : lend S f i = r) :
    Calls Try.prog 61 #[PtrV a, .agg #[.int .i64 (S.A i), .int .i64 (S.C i), .int .i64 o, PtrV (q i)]] w fun e w' => e = .returned (.int .i64 r) ∧ Below w.heap.size w w' := by
  unfold lend at hr
  by_cases c3 : S.A i = 3
  · rw [if_pos c3] at hr
    rw [c3, hr]
    clear HP h hr c3
    generalize q i = p at *
    go_enter Try.func61, Try.ntmps61
    go_wp2
    go_ret
    exact ⟨rfl, (Below.refl _ _).alloc (Nat.le_refl _) _⟩
  rw [if_neg c3] at hr
  have t3 : (S.A i == 3) = false := by simpa using c3
  by_cases c2 : S.A i = 2
  · rw [if_pos c2] at hr
    rw [c2]
    have HPP := Lib.hid fun w' hw y hy => HP w' hw y hy c2
    have HR := Lib.hid hr
    have h1 := h.below ((Below.refl w.heap.size w).alloc (Nat.le_refl _) (.cells #[.int .i64 2, .int .i64 (S.C i), .int .i64 o, PtrV (q i)] 70))
    have hb1 := (Below.refl w.heap.size w).alloc (Nat.le_refl _) (.cells #[.int .i64 2, .int .i64 (S.C i), .int .i64 o, PtrV (q i)] 70)
    have HQ := Lib.hid (h1.hl i hi)
    have H1 := Lib.hid h1
    have HB1 := Lib.hid hb1
    clear HP hr c3 t3 c2 h h1 hb1
    generalize S.C i = xc at *
    generalize q i = p at *
    go_enter Try.func61, Try.ntmps61
    go_wp2_with fail
    refine (row_ok p 87 (S.bp i) (S.Q i) _ HQ.out hl).mono ?_
    rintro e w2 ⟨v, rfl, hs, hb2⟩
    have H2 := Lib.hid (H1.out.below hb2)
    have HB2 := Lib.hid (below_trans HB1.out hb2)
    obtain ⟨X, k, rfl, hk1, hk2⟩ := sl_form hs
    have HS := Lib.hid hs
    obtain ⟨L, hL⟩ : ∃ L, S.Q i = L := ⟨_, rfl⟩
    rw [hL] at hs HS HR HPP hl hk1 ⊢
    obtain ⟨n, hn⟩ : ∃ n, L.length = n := ⟨_, rfl⟩
    have HN := Lib.hid hn
    rw [hn] at hl hk1 HS ⊢
    clear H1 HB1 HQ hb2 hs hn hL
    go_wp2
    go_loopw [24, 5] (fun i p wr => ∃ t : Nat, t ≤ n ∧ i = .int .i64 (t : Int) ∧ p = .int .i64 (mn f (L.take t) 16) ∧ Below w.heap.size w wr ∧ Below w2.heap.size w2 wr) (fun i _ _ => n - (intOf i).toNat)
    case atStart => exact ⟨0, Nat.zero_le _, rfl, rfl, HB2.out, Below.refl _ _⟩
    case round =>
      obtain ⟨t, ht, rfl, rfl, hb, hb'⟩ := hrel
      have HB := Lib.hid hb
      have HB' := Lib.hid hb'
      by_cases hlt : t < n
      · obtain ⟨x, hx⟩ : ∃ x, L[t]? = some x := ⟨_, List.getElem?_eq_getElem (by rw [HN.out]; exact hlt)⟩
        obtain ⟨g1, o1, rfl, hc⟩ := sl_open (HS.out.below hb') (by rw [HN.out]; omega)
        obtain ⟨d0, d1⟩ := hc t x hx
        have HX := Lib.hid hx
        obtain ⟨p0, hp0⟩ : ∃ p0, mn f (L.take t) 16 = p0 := ⟨_, rfl⟩
        have HP0 := Lib.hid hp0
        rw [hp0]
        clear hb hb' hc hx hp0
        go_wp2_with fail
        have H3 := (H2.out.below HB'.out).below ((Below.refl wr.heap.size wr).alloc (Nat.le_refl _) (.cells #[.int .i64 x.1, .int .i64 x.2] 82))
        refine (HPP.out _ H3 x (List.mem_of_getElem? HX.out)).mono ?_
        rintro e w3 ⟨rfl, hb3⟩
        have ha := (Below.refl wr.heap.size wr).alloc (Nat.le_refl _) (.cells #[.int .i64 x.1, .int .i64 x.2] 82)
        have hb4 := below_trans ha hb3
        have HB4 := Lib.hid (below_trans HB.out hb4)
        have HB4' := Lib.hid (below_trans HB'.out hb4)
        have HE := Lib.hid (show mn f (L.take (t + 1)) 16 = if f x.1 < p0 then f x.1 else p0 by rw [take_snoc HX.out, mn_snoc, HP0.out]; split <;> omega)
        clear ha hb3 hb4 H3 d0 d1
        generalize f x.1 = y at *
        go_wp2
        go_roundw
        case rel =>
          exact ⟨t + 1, by omega, by go_num, by rw [HE.out], HB4.out, HB4'.out⟩
        case measure => simp [intOf]; omega
      · have e : t = n := by omega
        subst e
        clear hb hb'
        go_wp2
        go_ret
        refine ⟨?_, HB.out⟩
        rw [← HR.out, List.take_of_length_le (by rw [HN.out]; omega)]
        rfl
  · rw [if_neg c2] at hr
    have t2 : (S.A i == 2) = false := by simpa using c2
    subst hr
    clear HP h
    generalize S.A i = xa at *
    generalize S.C i = xc at *
    generalize q i = p at *
    go_enter Try.func61, Try.ntmps61
    go_wp2
    go_ret
    exact ⟨rfl, (Below.refl _ _).alloc (Nat.le_refl _) _⟩

theorem gk_snoc (S : St) (f : Int → Int) (t : Int) (k : Nat) : gk S f t (k + 1) = if S.O k = t then (if lend S f k < gk S f t k then lend S f k else gk S f t k) else gk S f t k := by
  show (if S.O k = t then min (gk S f t k) (lend S f k) else gk S f t k) = _
  split
  · split <;> omega
  · rfl

set_option maxHeartbeats 3200000 in
theorem pri_step (a g : Nat) (q : Nat → Nat) (S : St) (f : Int → Int) (t : Int) (w : World) (h : Mx w a g q S) (hf : Fine0 S) (ht : isT t)
    (HP : ∀ i, i < S.n → S.O i = t → ∀ w', Mx w' a g q S → ∀ y, y ∈ S.Q i → S.A i = 2 → Calls Try.prog 29 #[PtrV a, .int .i64 y.1] w' fun e w'' => e = .returned (.int .i64 (f y.1)) ∧ Below w'.heap.size w' w'') (r : Int) (hr : gk S f t S.n = r) :
    Calls Try.prog 29 #[PtrV a, .int .i64 t] w fun e w' => e = .returned (.int .i64 r) ∧ Below w.heap.size w w' := by
  obtain ⟨X, k, c16, _, _, hX⟩ := h.row
  have hn8 := hf.n8
  have HT := Lib.hid (isTask_any t w true (decide_eq_true ht))
  have HBA := Lib.hid (base_any a g q S t w h (S.B t) (by unfold bas; rw [if_pos ht]))
  have HR := Lib.hid hr
  have HF := Lib.hid hf
  have HX := Lib.hid hX
  have HH := Lib.hid h
  have HPP := Lib.hid HP
  clear hr hf hX h HP ht
  obtain ⟨n, hn⟩ : ∃ n, S.n = n := ⟨_, rfl⟩
  have HN := Lib.hid hn
  rw [hn] at c16 hn8
  clear hn
  obtain ⟨b0, hb0⟩ : ∃ b0, S.B t = b0 := ⟨_, rfl⟩
  rw [hb0] at HBA
  have HB0 := Lib.hid hb0
  clear hb0
  go_enter Try.func29, Try.ntmps29
  go_wp2_with fail
  refine HT.out.mono ?_
  rintro e w1 ⟨rfl, rfl⟩
  go_wp2_with fail
  refine HBA.out.mono ?_
  rintro e w1 ⟨rfl, rfl⟩
  go_wp2
  clear c16
  go_loopw [19, 5] (fun i p wr => ∃ v : Nat, v ≤ n ∧ i = .int .i64 (v : Int) ∧ p = .int .i64 (gk S f t v) ∧ Below w.heap.size w wr) (fun i _ _ => n - (intOf i).toNat)
  case atStart => exact ⟨0, Nat.zero_le _, rfl, by rw [← HB0.out]; rfl, Below.refl _ _⟩
  case round =>
    obtain ⟨v, hv, rfl, rfl, hb⟩ := hrel
    have h2 := HH.out.below hb
    have HB := Lib.hid hb
    clear hb
    obtain ⟨p0, hp0⟩ : ∃ p0, gk S f t v = p0 := ⟨_, rfl⟩
    have HP0 := Lib.hid hp0
    rw [hp0]
    clear hp0
    by_cases hlt : v < n
    · have hvn : v < S.n := by rw [HN.out]; exact hlt
      obtain rfl := HX.out (by omega)
      obtain ⟨d0, d1, d2, d3⟩ := h2.cells hvn
      have H2 := Lib.hid h2
      have HG := Lib.hid (gk_snoc S f t v)
      have HL := Lib.hid (lent_any a g q S f v (S.O v))
      rw [HP0.out] at HG
      obtain ⟨xa, hxa⟩ : ∃ x, S.A v = x := ⟨_, rfl⟩
      obtain ⟨xc, hxc⟩ : ∃ x, S.C v = x := ⟨_, rfl⟩
      obtain ⟨xo, hxo⟩ : ∃ x, S.O v = x := ⟨_, rfl⟩
      obtain ⟨p, hp⟩ : ∃ x, q v = x := ⟨_, rfl⟩
      rw [hxa] at d0
      rw [hxc] at d1
      rw [hxo] at d2 HG HL
      rw [hp] at d3
      have HXO := Lib.hid hxo
      have HXA := Lib.hid hxa
      rw [hxa, hxc, hp] at HL
      have HVN := Lib.hid hvn
      clear h2 hxa hxc hxo hp hvn
      by_cases c : xo = t
      · rw [if_pos c] at HG
        subst c
        have te : (xo == xo) = true := by simp
        go_wp2_with fail
        have h3 := H2.out.below ((Below.refl wr.heap.size wr).alloc (Nat.le_refl _) (.cells #[.int .i64 xa, .int .i64 xc, .int .i64 xo, PtrV p] 70))
        have hb3 := HB.out.alloc HB.out.size (.cells #[.int .i64 xa, .int .i64 xc, .int .i64 xo, PtrV p] 70)
        refine (HL.out _ h3 HVN.out (HF.out.gd v HVN.out).len (fun w' hw y hy h2 => HPP.out v HVN.out HXO.out w' hw y hy (by rw [HXA.out]; exact h2)) _ rfl).mono ?_
        rintro e w3 ⟨rfl, hb4⟩
        have HB4 := Lib.hid (below_trans hb3 hb4)
        clear hb3 hb4 h3 d0 d1 d2 d3
        generalize lend S f v = y at *
        go_wp2
        go_roundw
        case rel => exact ⟨v + 1, by omega, by go_num, by rw [HG.out], HB4.out⟩
        case measure => simp [intOf]; omega
      · have te : (xo == t) = false := by simpa using c
        have hb3 := HB.out.alloc HB.out.size (.cells #[.int .i64 xa, .int .i64 xc, .int .i64 xo, PtrV p] 70)
        have HB4 := Lib.hid hb3
        clear hb3
        rw [if_neg c] at HG
        go_wp2
        go_roundw
        case rel => exact ⟨v + 1, by omega, by go_num, by rw [HG.out], HB4.out⟩
        case measure => simp [intOf]; omega
    · have e : v = n := by omega
      subst e
      clear h2
      go_wp2
      go_ret
      refine ⟨?_, HB.out⟩
      rw [← HR.out, HN.out, HP0.out]
      rfl
theorem prif_any (a g : Nat) (q : Nat → Nat) (S : St) (hf : Fine0 S) (rk : Int → Nat) (hrk : Rk S rk) : ∀ (d : Nat) (t : Int) (w : World), Mx w a g q S → isT t → rk t ≤ d →
    Calls Try.prog 29 #[PtrV a, .int .i64 t] w fun e w' => e = .returned (.int .i64 (pf S d t)) ∧ Below w.heap.size w w'
  | 0, t, w, h, ht, hd => pri_step a g q S (fun _ => 16) t w h hf ht (fun i hi ho w' _ y hy _ => by have := hrk i hi y hy; rw [ho] at this; omega) _ rfl
  | d + 1, t, w, h, ht, hd => pri_step a g q S (pf S d) t w h hf ht (fun i hi ho w' hw y hy _ => by
      have h1 := hrk i hi y hy
      rw [ho] at h1
      have h2 := (hf.gd i hi).rng y hy
      exact prif_any a g q S hf rk hrk d y.1 w' hw ⟨h2.1, h2.2.1⟩ (by omega)) _ rfl
theorem pri_any (a g : Nat) (q : Nat → Nat) (S : St) (t : Int) (w : World) (h : Mx w a g q S) (hf : Fine0 S) (r : Int) (hr : pri S t = r) :
    Calls Try.prog 29 #[PtrV a, .int .i64 t] w fun e w' => e = .returned (.int .i64 r) ∧ Below w.heap.size w w' := by
  unfold pri at hr
  by_cases c : isT t
  · rw [if_pos c] at hr
    subst hr
    obtain ⟨rk, h1, h2⟩ := hf.ac
    exact prif_any a g q S hf rk h1 16 t w h c (h2 t)
  · rw [if_neg c] at hr
    subst hr
    have HT := Lib.hid (isTask_any t w false (decide_eq_false c))
    clear h hf c
    go_enter Try.func29, Try.ntmps29
    go_wp2_with fail
    refine HT.out.mono ?_
    rintro e w1 ⟨rfl, rfl⟩
    go_wp2
    go_ret
    exact ⟨rfl, Below.refl _ _⟩
end Go.Proofs.Ytmicinenggkmlaa
