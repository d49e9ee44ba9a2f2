/- The document's mutexes: pri, Pri, round, IDs. -/
import Derived.Test.YtmicinenggkmlaaRmA
namespace Go.Proofs.Ytmicinenggkmlaa
open Go.RowKit
set_option linter.unusedVariables false
set_option maxRecDepth 100000

theorem gk_top {S : St} {f : Int → Int} {t : Int} (hb : S.B t ≤ 16) (k : Nat) : gk S f t k ≤ 16 := gk_le.2 (.inl hb)

set_option maxHeartbeats 6400000 in
theorem rpri_step (m gk_ go gq : Nat) (r : Nat → Nat) (S : St) (N : Int → Int) (f : Int → Int) (t : Int) (d : Int) (hd0 : 0 ≤ d) (hd1 : d ≤ 16) (w : World) (h : Rx w m gk_ go gq r S N) (hf : Fine0 S) (ht : isT t)
    (HP : 0 < d → ∀ w', Rx w' m gk_ go gq r S N → ∀ s, isT s → Calls Try.prog 69 #[PtrV m, .int .i64 s, .int .i64 (d - 1)] w' fun e w'' => e = .returned (.int .i64 (f s)) ∧ w' = w'') (h0 : d = 0 → f = fun _ => 16) (x : Int) (hx : gk S f t S.n = x) :
    Calls Try.prog 69 #[PtrV m, .int .i64 t, .int .i64 d] w fun e w' => e = .returned (.int .i64 x) ∧ w = w' := by
  obtain ⟨XK, XO, XQ, kK, kO, kQ, c0, c1, c2, hX⟩ := h.rows
  obtain ⟨u, hu⟩ : ∃ u : Nat, t = (u : Int) := ⟨t.toNat, by unfold isT at ht; omega⟩
  have hu0 : u ≠ 0 := by unfold isT at ht; omega
  have hu17 : u < 17 := by unfold isT at ht; omega
  have hb := h.base hu0 hu17
  have htop := fun k => gk_top (f := f) (hf.bs t ht.1 ht.2).2 k
  subst hu
  obtain ⟨b0, hb0⟩ : ∃ b0, S.B (u : Int) = b0 := ⟨_, rfl⟩
  rw [hb0] at hb
  have HB0 := Lib.hid hb0
  have HTOP := Lib.hid htop
  have hn8 := hf.n8
  have HR := Lib.hid hx
  have HF := Lib.hid hf
  have HX := Lib.hid hX
  have HH := Lib.hid h
  have HPP := Lib.hid HP
  have H0 := Lib.hid h0
  clear hx hf hX h HP h0 htop hb0 ht
  obtain ⟨n, hn⟩ : ∃ n, S.n = n := ⟨_, rfl⟩
  have HN := Lib.hid hn
  rw [hn] at c0 c1 c2 hn8
  clear hn
  have hu1 : (u : Int) < 17 := by omega
  go_enter Try.func69, Try.ntmps69
  go_wp2
  clear hb
  go_loopw [8, 7] (fun i p wr => ∃ v : Nat, v ≤ n ∧ i = .int .i64 (v : Int) ∧ p = .int .i64 (gk S f (u : Int) v) ∧ w = wr) (fun i _ _ => n - (intOf i).toNat)
  case atStart => exact ⟨0, Nat.zero_le _, rfl, by rw [← HB0.out]; rfl, rfl⟩
  case round =>
    obtain ⟨v, hv, rfl, rfl, rfl⟩ := hrel
    have hp16 := HTOP.out v
    obtain ⟨p0, hp0⟩ : ∃ p0, gk S f (u : Int) v = p0 := ⟨_, rfl⟩
    rw [hp0] at hp16 ⊢
    have HP0 := Lib.hid hp0
    clear hp0
    by_cases hlt : v < n
    · have hvn : v < S.n := by rw [HN.out]; exact hlt
      obtain ⟨rfl, rfl, rfl⟩ := HX.out (by omega)
      obtain ⟨d0, d1⟩ := HH.out.kind hvn
      have d2 := HH.out.own hvn
      have d3 := HH.out.ptr hvn
      have HG := Lib.hid (gk_snoc S f (u : Int) v)
      rw [HP0.out] at HG
      have HLE : Hid (lend S f v = if S.A v = 3 then S.C v else if S.A v = 2 then mn f (S.Q v) 16 else 16) := Lib.hid rfl
      obtain ⟨xa, hxa⟩ : ∃ x, S.A v = x := ⟨_, rfl⟩
      obtain ⟨xc, hxc⟩ : ∃ x, S.C v = x := ⟨_, rfl⟩
      obtain ⟨xo, hxo⟩ : ∃ x, S.O v = x := ⟨_, rfl⟩
      obtain ⟨p, hp⟩ : ∃ x, r v = x := ⟨_, rfl⟩
      have HQ := Lib.hid (HH.out.rq hvn hp)
      rw [hxa] at d0 HLE
      rw [hxc] at d1 HLE
      rw [hxo] at d2 HG
      rw [hp] at d3
      have HGD := Lib.hid (HF.out.gd v hvn)
      obtain ⟨y, hy⟩ : ∃ y, lend S f v = y := ⟨_, rfl⟩
      rw [hy] at HG HLE
      clear hxa hxc hxo hp hvn hy
      by_cases co : xo = (u : Int)
      · rw [if_pos co] at HG
        subst co
        have te : (((u : Int)) != (u : Int)) = false := by simp
        by_cases c3 : xa = 3
        · subst c3
          rw [if_pos rfl] at HLE
          have e := HLE.out
          subst e
          by_cases cc : y < p0
          · have t1 := decide_eq_true cc
            have HG2 := Lib.hid (show gk S f (u : Int) (v + 1) = y by rw [HG.out, if_pos cc])
            clear cc
            go_wp2
            go_loopw [9, 7] (fun k p wr => k = .int .i64 0 ∧ p = .int .i64 y ∧ w = wr) (fun _ _ _ => 0)
            case atStart => exact ⟨rfl, rfl, rfl⟩
            case round =>
              obtain ⟨rfl, rfl, rfl⟩ := hrel
              go_wp2
              go_roundw
              case rel => exact ⟨v + 1, by omega, by go_num, by rw [HG2.out], trivial⟩
              case measure => simp [intOf]; omega
          · have t1 := decide_eq_false cc
            have HG2 := Lib.hid (show gk S f (u : Int) (v + 1) = p0 by rw [HG.out, if_neg cc])
            clear cc
            go_wp2
            go_loopw [9, 7] (fun k p wr => k = .int .i64 0 ∧ p = .int .i64 p0 ∧ w = wr) (fun _ _ _ => 0)
            case atStart => exact ⟨rfl, rfl, rfl⟩
            case round =>
              obtain ⟨rfl, rfl, rfl⟩ := hrel
              go_wp2
              go_roundw
              case rel => exact ⟨v + 1, by omega, by go_num, by rw [HG2.out], trivial⟩
              case measure => simp [intOf]; omega
        · have t3 : (xa == 3) = false := by simpa using c3
          rw [if_neg c3] at HLE
          by_cases c2 : xa = 2
          · subst c2
            rw [if_pos rfl] at HLE
            by_cases cd : 0 < d
            · have td := decide_eq_true cd
              have HPD := Lib.hid (HPP.out cd)
              have hmn := mn_start (f := f) (l := S.Q v) hp16
              rw [← HLE.out] at hmn
              have HG2 := Lib.hid (show gk S f (u : Int) (v + 1) = mn f (S.Q v) p0 by rw [HG.out, hmn]; split <;> omega)
              clear hmn HPP HLE HG c3
              obtain ⟨X1, k1, e0, e1, hs, hk1, hk2, _⟩ := HQ.out.open
              obtain ⟨L, hL⟩ : ∃ L, S.Q v = L := ⟨_, rfl⟩
              have hlen := HGD.out.len
              have hrng := HGD.out.rng
              rw [hL] at e1 hs hk1 HG2 hlen hrng
              obtain ⟨n1, hn1⟩ : ∃ n1, L.length = n1 := ⟨_, rfl⟩
              have HN1 := Lib.hid hn1
              rw [hn1] at e1 hs hk1 hlen
              have HS := Lib.hid hs
              have HRN := Lib.hid hrng
              clear hs hn1 hL HQ HGD hrng
              go_wp2
              go_loopw [9, 7] (fun k p wr => ∃ j : Nat, j ≤ n1 ∧ k = .int .i64 (j : Int) ∧ p = .int .i64 (mn f (L.take j) p0) ∧ w = wr) (fun k _ _ => n1 - (intOf k).toNat)
              case atStart => exact ⟨0, Nat.zero_le _, rfl, rfl, rfl⟩
              case round =>
                obtain ⟨j, hj, rfl, rfl, rfl⟩ := hrel
                obtain ⟨p1, hp1⟩ : ∃ p1, mn f (L.take j) p0 = p1 := ⟨_, rfl⟩
                have HP1 := Lib.hid hp1
                rw [hp1]
                clear hp1
                by_cases hlj : j < n1
                · obtain ⟨x, hx⟩ : ∃ x, L[j]? = some x := ⟨_, List.getElem?_eq_getElem (by rw [HN1.out]; exact hlj)⟩
                  obtain ⟨g1, o1, rfl, hc⟩ := sl_open HS.out (by rw [HN1.out]; omega)
                  obtain ⟨f0, f1⟩ := hc j x hx
                  have hxr := HRN.out x (List.mem_of_getElem? hx)
                  have HE := Lib.hid (show mn f (L.take (j + 1)) p0 = if f x.1 < p1 then f x.1 else p1 by rw [take_snoc hx, mn_snoc, HP1.out]; split <;> omega)
                  have HC := Lib.hid (HPD.out w HH.out x.1 ⟨hxr.1, hxr.2.1⟩)
                  obtain ⟨y2, hy2⟩ : ∃ y2, f x.1 = y2 := ⟨_, rfl⟩
                  rw [hy2] at HE HC
                  clear hc hx hxr hy2
                  go_wp2_with fail
                  refine HC.out.mono ?_
                  rintro e w1 ⟨rfl, rfl⟩
                  by_cases cy : y2 < p1
                  · rw [if_pos cy] at HE
                    have ty := decide_eq_true cy
                    go_wp2
                    go_roundw
                    case rel => exact ⟨j + 1, by omega, by go_num, by rw [HE.out], trivial⟩
                    case measure => simp [intOf]; omega
                  · rw [if_neg cy] at HE
                    have ty := decide_eq_false cy
                    go_wp2
                    go_roundw
                    case rel => exact ⟨j + 1, by omega, by go_num, by rw [HE.out], trivial⟩
                    case measure => simp [intOf]; omega
                · have e : j = n1 := by omega
                  have HE := Lib.hid (show gk S f (u : Int) (v + 1) = p1 by rw [HG2.out, ← HP1.out, List.take_of_length_le (by rw [HN1.out]; omega)])
                  subst e
                  go_wp2
                  go_roundw
                  case rel => exact ⟨v + 1, by omega, by go_num, by rw [HE.out], trivial⟩
                  case measure => simp [intOf]; omega
            · have td := decide_eq_false cd
              have hd : d = 0 := by omega
              have hfz := H0.out hd
              have hy : y = 16 := by
                rw [HLE.out, hfz]
                apply eq_of_le
                intro x
                rw [mn_le]
                constructor
                · rintro (h | ⟨_, _, h⟩) <;> exact h
                · exact .inl
              have HG2 := Lib.hid (show gk S f (u : Int) (v + 1) = p0 by rw [HG.out, hy]; split <;> omega)
              clear hfz hy hd cd
              go_wp2
              go_loopw [9, 7] (fun k p wr => k = .int .i64 0 ∧ p = .int .i64 p0 ∧ w = wr) (fun _ _ _ => 0)
              case atStart => exact ⟨rfl, rfl, rfl⟩
              case round =>
                obtain ⟨rfl, rfl, rfl⟩ := hrel
                go_wp2
                go_roundw
                case rel => exact ⟨v + 1, by omega, by go_num, by rw [HG2.out], trivial⟩
                case measure => simp [intOf]; omega
          · have t2 : (xa == 2) = false := by simpa using c2
            rw [if_neg c2] at HLE
            have HG2 := Lib.hid (show gk S f (u : Int) (v + 1) = p0 by rw [HG.out, HLE.out]; split <;> omega)
            clear c3 c2
            go_wp2
            go_loopw [9, 7] (fun k p wr => k = .int .i64 0 ∧ p = .int .i64 p0 ∧ w = wr) (fun _ _ _ => 0)
            case atStart => exact ⟨rfl, rfl, rfl⟩
            case round =>
              obtain ⟨rfl, rfl, rfl⟩ := hrel
              go_wp2
              go_roundw
              case rel => exact ⟨v + 1, by omega, by go_num, by rw [HG2.out], trivial⟩
              case measure => simp [intOf]; omega
      · rw [if_neg co] at HG
        have te : (xo != (u : Int)) = true := by simpa using co
        clear co
        go_wp2
        go_roundw
        case rel => exact ⟨v + 1, by omega, by go_num, by rw [HG.out], trivial⟩
        case measure => simp [intOf]; omega
    · have e : v = n := by omega
      subst e
      go_wp2
      go_ret
      refine ⟨?_, rfl⟩
      rw [← HR.out, HN.out, HP0.out]
      rfl

theorem rprif_any (m gk go gq : Nat) (r : Nat → Nat) (S : St) (N : Int → Int) (hf : Fine0 S) : ∀ (d : Nat) (t : Int) (w : World), d ≤ 16 → Rx w m gk go gq r S N → isT t →
    Calls Try.prog 69 #[PtrV m, .int .i64 t, .int .i64 (d : Int)] w fun e w' => e = .returned (.int .i64 (pf S d t)) ∧ w = w'
  | 0, t, w, hd, h, ht => rpri_step m gk go gq r S N (fun _ => 16) t 0 (by omega) (by omega) w h hf ht (fun h0 => absurd h0 (by omega)) (fun _ => rfl) _ rfl
  | d + 1, t, w, hd, h, ht => rpri_step m gk go gq r S N (pf S d) t ((d + 1 : Nat) : Int) (by omega) (by omega) w h hf ht (fun _ w' hw s hs => by
      rw [show ((d + 1 : Nat) : Int) - 1 = (d : Int) by omega]
      exact rprif_any m gk go gq r S N hf d s w' (by omega) hw hs) (fun h0 => absurd h0 (by omega)) _ rfl
set_option maxHeartbeats 800000 in
theorem rpri_any (m gk go gq : Nat) (r : Nat → Nat) (S : St) (N : Int → Int) (t : Int) (w : World) (h : Rx w m gk go gq r S N) (hf : Fine0 S) (x : Int) (hx : pri S t = x) :
    Calls Try.prog 42 #[PtrV m, .int .i64 t] w fun e w' => e = .returned (.int .i64 x) ∧ w = w' := by
  unfold pri at hx
  by_cases c : isT t
  · rw [if_pos c] at hx
    subst hx
    have HP := Lib.hid (rprif_any m gk go gq r S N hf 16 t w (by omega) h c)
    have t1 : decide (t < 1) = false := by unfold isT at c; simp; omega
    have t2 : decide (16 < t) = false := by unfold isT at c; simp; omega
    show Calls Try.prog 42 #[PtrV m, .int .i64 t] w fun e w' => e = .returned (.int .i64 (pf S 16 t)) ∧ w = w'
    generalize pf S 16 t = y at *
    clear h hf c
    go_enter Try.func42, Try.ntmps42
    go_wp2_with fail
    refine HP.out.mono ?_
    rintro e w1 ⟨rfl, rfl⟩
    go_wp2
    go_ret
    exact ⟨rfl, rfl⟩
  · rw [if_neg c] at hx
    subst hx
    clear h hf
    by_cases c1 : t < 1
    · have t1 := decide_eq_true c1
      clear c
      go_enter Try.func42, Try.ntmps42
      go_wp2
      go_ret
      exact ⟨rfl, rfl⟩
    · have t1 := decide_eq_false c1
      have c2 : 16 < t := by unfold isT at c; omega
      have t2 := decide_eq_true c2
      clear c
      go_enter Try.func42, Try.ntmps42
      go_wp2
      go_ret
      exact ⟨rfl, rfl⟩
end Go.Proofs.Ytmicinenggkmlaa
