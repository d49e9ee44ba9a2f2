/-
  detentlaw14.BoxPlays: the walk.
-/
import Derived.Test.YtapogohekfeiiaaPlT
import Derived.Deep.CutBlock
namespace Go.Proofs.Ytapogohekfeiiaa.boxPlays
open Go.RowKit
set_option linter.unusedVariables false

def Post (w : World) (e : Ending) (w' : World) : Prop := e = .returned (.bool true) ∧ Below w.heap.size w w'

theorem poll_len {S S' : St} {v : Int} {o : Bool} (h : poll S = (S', v, o)) : S'.M.length ≤ S.M.length := by
  obtain ⟨b, L, mp, m, M⟩ := S
  unfold poll at h
  cases M with
  | nil => cases h; simp
  | cons x M => cases h; simp
theorem recv_len {S S' : St} {id pri v k : Int} {o : Bool} (h : recv S id pri = (S', v, o, k)) : S'.M.length ≤ S.M.length := by
  obtain ⟨b, L, mp, m, M⟩ := S
  unfold recv at h
  cases M with
  | nil => cases h; simp
  | cons x M => cases h; simp

def PlRel (m r N : Nat) (w : World) (bv i : Value) (wr : World) : Prop :=
  ∃ (s q n t : Nat) (S : St), t ≤ N ∧ bv = .pointer (some ⟨s, 0, none⟩) ∧ i = .int .i64 (t : Int) ∧ At w s q n (2 * t) S wr ∧ Rb wr m r S ∧ S.M.length ≤ t
def CutRel (w : World) (a : Nat) (x0 x1 x2 x3 : Int) (m r t : Nat) (bv : Value) (W : World) : Prop :=
  ∃ (s q n : Nat) (S : St), bv = .pointer (some ⟨s, 0, none⟩) ∧ Pl w a x0 x1 x2 x3 s q n (2 * (t + 1)) S m r S W ∧ S.M.length ≤ t + 1
theorem two_keep {w w' : World} {a b : Addr} {x y : Value} (k : Below w.heap.size w w') (h : w.cell? a = some x ∧ w.cell? b = some y) : w'.cell? a = some x ∧ w'.cell? b = some y :=
  ⟨(k.cell (p := a) (block_lt_of_cell h.1)).trans h.1, (k.cell (p := b) (block_lt_of_cell h.2)).trans h.2⟩
theorem Pl.rm {w W : World} {a s q n c m r : Nat} {x0 x1 x2 x3 : Int} {S T : St} (h : Pl w a x0 x1 x2 x3 s q n c S m r T W) : W.cell? ⟨s, 0, none⟩ = some (.pointer (some ⟨q, 0, none⟩)) ∧ W.cell? ⟨m, 0, none⟩ = some (.pointer (some ⟨r, 0, none⟩)) ∧ W.cell? ⟨a, 1, none⟩ = some (.int .i64 x1) := ⟨h.p0, h.d0, h.k1⟩
theorem Pl.ch {w W : World} {a s q n c m r : Nat} {x0 x1 x2 x3 : Int} {S T : St} (h : Pl w a x0 x1 x2 x3 s q n c S m r T W) : W.cell? ⟨s, 0, none⟩ = some (.pointer (some ⟨q, 0, none⟩)) ∧ W.cell? ⟨m, 0, none⟩ = some (.pointer (some ⟨r, 0, none⟩)) ∧ W.cell? ⟨a, 1, none⟩ = some (.int .i64 x1) ∧ W.cell? ⟨a, 2, none⟩ = some (.int .i64 x2) := ⟨h.p0, h.d0, h.k1, h.k2⟩

set_option maxHeartbeats 800000 in
set_option maxRecDepth 100000 in
theorem walkOut (bp mp : Bool) (mo : Int) (A : Option Addr) (n cap : Nat) (w : World) (hn : n ≤ 9223372036854775807) (h : ¬ n ≤ 100) : Calls Try.prog 3 #[.bool bp, .bool mp, .int .i64 mo, .slice A n cap] w (Post w) := by
  have t1 : (100 : Int) < (n : Int) := by omega
  have t2 : 100 < n := by omega
  go_enter Try.func3, Try.ntmps3
  go_wp2_with fail
  refine (known_ok _).mono ?_
  rintro e w0 ⟨rfl, hb0⟩
  go_wp2
  go_ret
  exact ⟨rfl, hb0⟩

set_option maxHeartbeats 800000 in
set_option maxRecDepth 100000 in
theorem walkBad (bp mp : Bool) (mo : Int) (A : Option Addr) (n cap : Nat) (w : World) (h : n ≤ 100) (hm : mo < 1 ∨ 255 < mo) : Calls Try.prog 3 #[.bool bp, .bool mp, .int .i64 mo, .slice A n cap] w (Post w) := by
  have t1 : decide ((100 : Int) < (n : Int)) = false := by simp; omega
  have t2 : decide (100 < n) = false := by simp; omega
  have HM := Lib.hid hm
  clear hm
  go_enter Try.func3, Try.ntmps3
  go_wp2_with fail
  refine (known_ok _).mono ?_
  rintro e w0 ⟨rfl, hb0⟩
  have HB := Lib.hid hb0
  clear hb0
  go_wp2_with fail
  refine (newbox_bad bp mp mo HM.out w0).mono ?_
  rintro e w1 ⟨rfl, rfl⟩
  go_wp2_with fail
  refine (rnew_bad bp mp mo HM.out w0).mono ?_
  rintro e w1 ⟨rfl, rfl⟩
  go_wp2
  go_ret
  exact ⟨rfl, HB.out⟩

set_option maxHeartbeats 25600000 in
set_option maxRecDepth 100000 in
theorem walkIn (bp mp : Bool) (mo : Int) (N cap b o : Nat) (A : Option Addr) (op id pri dat : Nat → Int) (w : World)
    (hA : 0 < N → A = some ⟨b, o, none⟩ ∧ Acts w b o N op id pri dat) (hN : N ≤ 100) (hm1 : 1 ≤ mo) (hm2 : mo ≤ 255) :
    Calls Try.prog 3 #[.bool bp, .bool mp, .int .i64 mo, .slice A N cap] w (Post w) := by
  have t1 : decide ((100 : Int) < (N : Int)) = false := by simp; omega
  have t2 : decide (100 < N) = false := by simp; omega
  have HA := Lib.hid hA
  have hni : (N : Int) ≤ 100 := by omega
  clear hA
  go_enter Try.func3, Try.ntmps3
  go_wp2_with fail
  refine (known_ok _).mono ?_
  rintro e w0 ⟨rfl, hb0⟩
  have HNew := Lib.hid (new_at w w0 bp mp mo hm1 hm2 hb0)
  have HRN := Lib.hid (rnew_ok bp mp mo hm1 hm2)
  clear hb0 hm1 hm2
  go_wp2_with fail
  refine HNew.out.mono ?_
  rintro e w1 ⟨s, q, n, rfl, h1⟩
  have HA1 := Lib.hid h1
  clear h1 HNew
  go_wp2_with fail
  refine (HRN.out w1).mono ?_
  rintro e w2 ⟨m, r, rfl, hr2, hm, hr, hk2⟩
  have hb1 := HA1.out.b.size
  have HA2 := Lib.hid (HA1.out.below hk2)
  have HR2 := Lib.hid hr2
  have HMR := Lib.hid (show w.heap.size ≤ m ∧ w.heap.size ≤ r from ⟨by omega, by omega⟩)
  clear HA1 HRN hr2 hk2 hb1 t1 t2 hm hr
  go_wp2
  go_loopw [9, 13] (fun bv i wr => PlRel m r N w bv i wr) (fun _ i _ => N - (intOf i).toNat)
  case atStart => exact ⟨s, q, n, 0, _, Nat.zero_le _, rfl, rfl, HA2.out, HR2.out, Nat.le_refl _⟩
  case round =>
    clear HA2 HR2
    obtain ⟨s, q, n, t, S, ht, rfl, rfl, h3, hr3, hl3⟩ := hrel
    by_cases hlt : t < N
    · have hlt' : (t : Int) < (N : Int) := by omega
      obtain ⟨rfl, hac⟩ := HA.out (by omega)
      have hlb := hac.hlt t hlt
      have k0 := (h3.b.cell (p := ⟨b, o + t * 4, none⟩) hlb).trans (hac.c0 t hlt)
      have k1 := (h3.b.cell (p := ⟨b, o + t * 4 + 1, none⟩) hlb).trans (hac.c1 t hlt)
      have k2 := (h3.b.cell (p := ⟨b, o + t * 4 + 2, none⟩) hlb).trans (hac.c2 t hlt)
      have k3 := (h3.b.cell (p := ⟨b, o + t * 4 + 3, none⟩) hlb).trans (hac.c3 t hlt)
      have HW := Lib.hid (hac.wf t hlt)
      clear hac hlb
      generalize op t = x0 at *
      generalize id t = x1 at *
      generalize pri t = x2 at *
      generalize dat t = x3 at *
      have hP : Pl w wr.heap.size x0 x1 x2 x3 s q n (2 * t) S m r S (wr.alloc (.cells #[.int .i64 x0, .int .i64 x1, .int .i64 x2, .int .i64 x3] 32)) :=
        ⟨h3.below ((Below.refl _ _).alloc (Nat.le_refl _) _), hr3.below ((Below.refl _ _).alloc (Nat.le_refl _) _), heap_alloc_new _ _, HMR.out.1, HMR.out.2⟩
      clear h3 hr3
      go_upto_block 2 with fail
      generalize wr.alloc (.cells #[.int .i64 x0, .int .i64 x1, .int .i64 x2, .int .i64 x3] 32) = w4 at *
      generalize wr.heap.size = a at *
      have HP := Lib.hid hP
      clear k0 k1 k2 k3 hP
      have ht9 : 2 * t < 90000 := by omega
      have hM : S.M.length ≤ 1000 := by omega
      have HL := Lib.hid hl3
      clear hl3
      go_cut [9] from 63 to 245 (fun s9 wx => CutRel w a x0 x1 x2 x3 m r t s9 wx)
      case first =>
        by_cases hop1 : x0 = 1
        · have hop := hop1
          clear hop1
          subst hop
          as_aux_lemma =>
            obtain ⟨S', tt, kc, hs⟩ : ∃ S' tt kc, send S x3 x2 = (S', tt, kc) := ⟨_, _, _, rfl⟩
            have HS := Lib.hid hs
            have HF := Lib.hid HP.out.at_.f
            have HM := Lib.hid hM
            have HLS := Lib.hid (send_len hs)
            clear hs hM
            have j3 := HP.out.k3
            have j2 := HP.out.k2
            go_wp2_with fail
            refine (send_p HP.out HW.out ht9 HS.out).mono ?_
            rintro en w5 ⟨rfl, h5⟩
            have HP5 := Lib.hid h5
            clear h5 j3 j2
            have j3 := HP5.out.k3
            have j2 := HP5.out.k2
            go_wp2_with fail
            refine (send_d HP5.out HF.out (by have := HM.out; omega) HS.out).mono ?_
            rintro en w6 ⟨rfl, h6⟩
            have HP6 := Lib.hid h6
            clear h6 j3 j2
            have e_tt : (tt != tt) = false := by simp
            have e_kc : (kc != kc) = false := by simp
            go_wp2
            go_meet
            exact ⟨s, q, n, S', rfl, HP6.out.mono (by omega), by have := HLS.out; have := HL.out; omega⟩
        by_cases hop2 : x0 = 2
        · have hop := hop2
          clear hop1 hop2
          subst hop
          as_aux_lemma =>
            obtain ⟨S', v, ok, kc, hs⟩ : ∃ S' v ok kc, recv S x1 x2 = (S', v, ok, kc) := ⟨_, _, _, _, rfl⟩
            have HS := Lib.hid hs
            have HF := Lib.hid HP.out.at_.f
            have HM := Lib.hid hM
            have HLS := Lib.hid (recv_len hs)
            clear hs hM
            have j1 := HP.out.k1
            have j2 := HP.out.k2
            go_wp2_with fail
            refine (recv_p HP.out ht9 HS.out).mono ?_
            rintro en w5 ⟨rfl, h5⟩
            have HP5 := Lib.hid h5
            clear h5 j1 j2
            have j1 := HP5.out.k1
            have j2 := HP5.out.k2
            go_wp2_with fail
            refine (recv_d HP5.out HF.out (by have := HM.out; omega) HS.out).mono ?_
            rintro en w6 ⟨rfl, h6⟩
            have HP6 := Lib.hid h6
            clear h6 j1 j2
            have e_v : (v != v) = false := by simp
            have e_ok : (ok != ok) = false := by simp
            have e_kc : (kc != kc) = false := by simp
            go_wp2
            go_meet
            exact ⟨s, q, n, S', rfl, HP6.out.mono (by omega), by have := HLS.out; have := HL.out; omega⟩
        by_cases hop3 : x0 = 3
        · have hop := hop3
          clear hop1 hop2 hop3
          subst hop
          as_aux_lemma =>
            obtain ⟨S', v, ok, hs⟩ : ∃ S' v ok, poll S = (S', v, ok) := ⟨_, _, _, rfl⟩
            have HS := Lib.hid hs
            have HF := Lib.hid HP.out.at_.f
            have HM := Lib.hid hM
            have HLS := Lib.hid (poll_len hs)
            clear hs hM
            go_wp2_with fail
            refine (poll_p HP.out ht9 HS.out).mono ?_
            rintro en w5 ⟨rfl, h5⟩
            have HP5 := Lib.hid h5
            clear h5
            go_wp2_with fail
            refine (poll_d HP5.out (by have := HM.out; omega) HS.out).mono ?_
            rintro en w6 ⟨rfl, h6⟩
            have HP6 := Lib.hid h6
            clear h6
            have e_v : (v != v) = false := by simp
            have e_ok : (ok != ok) = false := by simp
            go_wp2
            go_meet
            exact ⟨s, q, n, S', rfl, HP6.out.mono (by omega), by have := HLS.out; have := HL.out; omega⟩
        by_cases hop4 : x0 = 4
        · have hop := hop4
          clear hop1 hop2 hop3 hop4
          subst hop
          as_aux_lemma =>
            obtain ⟨k, hk⟩ : ∃ k, decide (pos S.L x1 < S.L.length) = k := ⟨_, rfl⟩
            have HR := Lib.hid hk
            have HF := Lib.hid HP.out.at_.f
            clear hk
            obtain ⟨d0, d1, d2⟩ := HP.out.rm
            go_wp2_with fail
            go_region_held3 (fun W => W.cell? ⟨s, 0, none⟩ = some (.pointer (some ⟨q, 0, none⟩)) ∧ W.cell? ⟨m, 0, none⟩ = some (.pointer (some ⟨r, 0, none⟩)) ∧ W.cell? ⟨a, 1, none⟩ = some (.int .i64 x1))
              (first | exact ⟨d0, d1, d2⟩ | exact h6.rm | exact h5.rm | assumption)
              (first
                | (go_at_call 17; refine (rem_d h5 HF.out HR.out).mono ?_; rintro en w6 ⟨rfl, h6⟩)
                | (go_at_call 16; refine (rem_p (by exact HP.out.drew) HR.out).mono ?_; rintro en w5 ⟨rfl, h5⟩))
            have HP6 := Lib.hid h6
            clear h5 h6 d0 d1 d2
            have ek : (k != k) = false := by simp
            go_wp2
            go_meet
            exact ⟨s, q, n, rem S x1, rfl, HP6.out.mono (by omega), by have := HL.out; show S.M.length ≤ _; omega⟩
        by_cases hop5 : x0 = 5
        · have hop := hop5
          clear hop1 hop2 hop3 hop4 hop5
          subst hop
          as_aux_lemma =>
            obtain ⟨k, hk⟩ : ∃ k, chgOk S.L x1 x2 = k := ⟨_, rfl⟩
            have HR := Lib.hid hk
            have HF := Lib.hid HP.out.at_.f
            clear hk
            obtain ⟨d0, d1, d2, d3⟩ := HP.out.ch
            go_wp2_with fail
            go_region_held3 (fun W => W.cell? ⟨s, 0, none⟩ = some (.pointer (some ⟨q, 0, none⟩)) ∧ W.cell? ⟨m, 0, none⟩ = some (.pointer (some ⟨r, 0, none⟩)) ∧ W.cell? ⟨a, 1, none⟩ = some (.int .i64 x1) ∧ W.cell? ⟨a, 2, none⟩ = some (.int .i64 x2))
              (first | exact ⟨d0, d1, d2, d3⟩ | exact h6.ch | exact h5.ch | assumption)
              (first
                | (go_at_call 19; refine (chg_d h5 HF.out HR.out).mono ?_; rintro en w6 ⟨rfl, h6⟩)
                | (go_at_call 18; refine (chg_p (by exact HP.out.drew) HR.out).mono ?_; rintro en w5 ⟨rfl, h5⟩))
            have HP6 := Lib.hid h6
            clear h5 h6 d0 d1 d2 d3
            have ek : (k != k) = false := by simp
            go_wp2
            go_meet
            exact ⟨s, q, n, chg S x1 x2, rfl, HP6.out.mono (by omega), by have := HL.out; show S.M.length ≤ _; omega⟩
        by_cases hop6 : x0 = 6
        · have hop := hop6
          clear hop1 hop2 hop3 hop4 hop5 hop6
          subst hop
          as_aux_lemma =>
            go_wp2_with fail
            refine (apart_p HP.out).mono ?_
            rintro en w5 ⟨s', q', n', rfl, h5, g5, b1, b2, b3⟩
            have HP5 := Lib.hid h5
            have HG5 := Lib.hid g5
            have HB := Lib.hid (show (s < s' ∧ q < s' ∧ n < s') ∧ (s < q' ∧ q < q' ∧ n < q') ∧ s < n' ∧ q < n' ∧ n < n' from ⟨b1, b2, b3⟩)
            obtain ⟨U, v, ok, hu⟩ : ∃ U v ok, poll S = (U, v, ok) := ⟨_, _, _, rfl⟩
            have HU := Lib.hid hu
            obtain ⟨V, tt, kc, hv⟩ : ∃ V tt kc, send U 99 1 = (V, tt, kc) := ⟨_, _, _, rfl⟩
            have HV := Lib.hid hv
            clear h5 g5 b1 b2 b3 hu hv hM
            go_wp2_with fail
            refine (poll_any s q n (2 * t) S U v ok w5 HG5.out.x HG5.out.f ht9 HU.out).mono ?_
            rintro en w6 ⟨rfl, x6, k6⟩
            have HP6 := Lib.hid (HP5.out.elder HG5.out HB.out.1 HB.out.2.1 HB.out.2.2 k6)
            have HG6 := Lib.hid (HG5.out.go x6 (HG5.out.f.poll HU.out) k6)
            clear x6 k6 HP5 HG5
            go_wp2_with fail
            refine (send_any s q n (2 * t + 1) U V 99 1 tt kc w6 HG6.out.x HG6.out.f (in64 (by omega) (by omega)) (by omega) HV.out).mono ?_
            rintro en w7 ⟨rfl, x7, k7⟩
            have HP7 := Lib.hid (HP6.out.elder HG6.out HB.out.1 HB.out.2.1 HB.out.2.2 k7)
            clear x7 k7 HP6 HG6
            go_wp2
            go_meet
            exact ⟨s', q', n', S, rfl, HP7.out.mono (by omega), by have := HL.out; omega⟩
        as_aux_lemma =>
          have f1 : (x0 == 1) = false := by simpa using hop1
          have f2 : (x0 == 2) = false := by simpa using hop2
          have f3 : (x0 == 3) = false := by simpa using hop3
          have f4 : (x0 == 4) = false := by simpa using hop4
          have f5 : (x0 == 5) = false := by simpa using hop5
          have f6 : (x0 == 6) = false := by simpa using hop6
          clear hop1 hop2 hop3 hop4 hop5 hop6
          go_wp2
          go_meet
          exact ⟨s, q, n, S, rfl, HP.out.mono (by omega), by have := HL.out; omega⟩
      case rest =>
        clear HP HL hM
        obtain ⟨s, q, n, S, rfl, hP, hl⟩ := hcut
        have HP := Lib.hid hP
        have HLS := Lib.hid hl
        have hNM9 : S.M.length ≤ 101 := by omega
        clear hP hl
        as_aux_lemma =>
          obtain ⟨NM, hNM⟩ : ∃ NM, S.M.length = NM := ⟨_, rfl⟩
          obtain ⟨X, kk, d0, _, _, d3, hsl, _, _, _⟩ := HP.out.rb.open
          rw [hNM] at d3
          have HNM := Lib.hid hNM
          have hNM101 : NM ≤ 101 := by rw [← hNM]; exact hNM9
          have HSL := Lib.hid hsl
          have HIL := Lib.hid (show (ids S.M).length = NM by simp [ids, hNM])
          have D3 := Lib.hid d3
          clear hsl hNM hNM9
          go_wp2
          go_loopw [30, 31] (fun v i wr => ∃ (u : Nat) (vo : Value), u ≤ NM ∧ i = .int .i64 (u : Int) ∧ v = vo ∧ Ow wr wc.heap.size vo ((ids S.M).take u) ∧ Below wc.heap.size wc wr) (fun _ i _ => NM - (intOf i).toNat)
          case atStart => exact ⟨0, _, Nat.zero_le _, rfl, rfl, ⟨rfl, .inl ⟨rfl, rfl⟩⟩, Below.refl _ _⟩
          case round =>
            obtain ⟨u, vo, hu, rfl, rfl, hown, hb⟩ := hrel
            obtain ⟨Y, k, rfl, _, _⟩ := K.own_form hown
            have hlen : ((ids S.M).take u).length = u := by have := HIL.out; simp; omega
            have HO := Lib.hid hown
            have HLE := Lib.hid hlen
            have HB := Lib.hid hb
            have c3 := (hb.cell (p := ⟨m, 3, none⟩) HP.out.rb.lt).trans D3.out
            rw [hlen]
            by_cases hlu : u < NM
            · have hlu' : (u : Int) < (NM : Int) := by omega
              obtain ⟨x, hx⟩ : ∃ x, S.M[u]? = some x := ⟨_, List.getElem?_eq_getElem (by rw [HNM.out]; exact hlu)⟩
              obtain ⟨g, o, rfl, hcl⟩ := sl_open HSL.out (by rw [HNM.out]; omega)
              have e0 := (hb.cell (p := ⟨g, o + u * 2, none⟩) (block_lt_of_cell (hcl u x hx).1)).trans (hcl u x hx).1
              have HY := Lib.hid (show (ids S.M)[u]? = some x.1 by unfold ids; rw [List.getElem?_map, hx]; rfl)
              obtain ⟨y, hy⟩ : ∃ y, x.1 = y := ⟨_, rfl⟩
              rw [hy] at e0 HY
              obtain ⟨wb, hwb⟩ : ∃ wb, wr.alloc (.cells #[.int .i64 y] 3) = wb := ⟨_, rfl⟩
              have HBB := Lib.hid (show Below wr.heap.size wr wb by rw [← hwb]; exact (Below.refl _ _).alloc (Nat.le_refl _) _)
              have src := K.sr_one K.ci wr 3 y
              rw [show (K.ci y).toArray = #[.int .i64 y] from rfl, hwb] at src
              have hownb := K.own_below HO.out HBB.out
              rw [hlen] at hownb
              have hbs : wc.heap.size ≤ wb.heap.size := by have := HB.out.size; have := HBB.out.size; omega
              have HBS := Lib.hid hbs
              have b2 : u + 1 ≤ 100000 := by omega
              clear hown hb hlen hx hcl hy hbs d3
              go_wp2_with (first
                | (refine K.wpList_append_row K.ki (by decide) rfl _ _ rfl wc.heap.size (.slice Y u k) ((ids S.M).take u) [y] u HLE.out rfl hownb _ 1 1 rfl rfl src b2 HBS.out (u + 1) rfl ?_
                   intro X7 k7 w7 hown7 hgr7
                   have HO7 := Lib.hid hown7
                   have HB7 := Lib.hid (show Below wc.heap.size wc w7 from (HB.out.trans (HBB.out.mono HB.out.size)).grown hgr7 HBS.out (fun k hk => (hownb.lt k hk).1))
                   clear hown7 hgr7))
              have e1 : (ids S.M).take (u + 1) = (ids S.M).take u ++ [y] := by rw [List.take_add_one, HY.out]; rfl
              have e2 : ((ids S.M).take (u + 1)).length = u + 1 := by rw [e1, List.length_append, HLE.out]; rfl
              exact ⟨⟨u + 1, _, by omega, by go_num, rfl, by unfold Ow; rw [e2, e1]; exact HO7.out, HB7.out⟩, by simp [intOf]; omega⟩
            · have e : u = NM := by omega
              have v1 : decide ((u : Int) < (NM : Int)) = false := by simp; omega
              have v2 : ¬ u < NM := hlu
              have v3 : NM ≤ u := by omega
              have hrow : Ow wr wc.heap.size (.slice Y u k) (ids S.M) := by
                have := HO.out
                rw [HLE.out, List.take_of_length_le (by rw [HIL.out]; omega)] at this
                exact this
              have NR := Lib.hid (Nr.of_own hrow)
              have HPZ := Lib.hid (HP.out.below hb)
              have p0 := HPZ.out.p0
              have q0 := HPZ.out.d0
              clear hrow hown hb hlen e hlu d0 d3
              go_wp2_with fail
              go_region_held3 (fun W => W.cell? ⟨s, 0, none⟩ = some (.pointer (some ⟨q, 0, none⟩)) ∧ W.cell? ⟨m, 0, none⟩ = some (.pointer (some ⟨r, 0, none⟩)))
                (first | exact two_keep B3 ⟨p0, q0⟩ | exact two_keep B2 ⟨p0, q0⟩ | exact two_keep B1 ⟨p0, q0⟩ | exact ⟨p0, q0⟩ | assumption)
                (first
                  | (go_at_call 23; refine (same_all q r S.b S.L _ (HPZ.out.at_.x.l.below B2) (HPZ.out.rb.q.below B2) HPZ.out.at_.f.q.len).mono ?_; rintro en w9 ⟨rfl, b9⟩; have B3 := below_trans B2 b9)
                  | (go_at_call 21; refine (same_true _ _ (ids S.M) _ n7 (NR.out.below B1)).mono ?_; rintro en w8 ⟨rfl, b8⟩; have B2 := below_trans B1 b8)
                  | (go_at_call 22; refine (messages_any s q n _ S _ (by exact HPZ.out.at_.x.drew) HPZ.out.at_.f.g (by have := HNM.out; omega)).mono ?_; rintro en w7 ⟨v7, rfl, o7, b7⟩; have n7 := Nr.of_own o7; have B1 := below_trans (below_drewN wr 1) b7))
              have HB9 := Lib.hid B3
              clear B1 B2 B3 b7 b8 b9 o7 n7 p0 q0
              go_wp2
              go_roundw
              case rel => exact ⟨s, q, n, t + 1, S, by omega, rfl, by go_num, HPZ.out.at_.below HB9.out, HPZ.out.rb.below HB9.out, HLS.out⟩
              case measure => simp [intOf]; omega
    · have HB := Lib.hid h3.b
      have v1 : decide ((t : Int) < (N : Int)) = false := by simp; omega
      clear h3 hr3
      go_wp2
      go_ret
      exact ⟨rfl, HB.out⟩
end Go.Proofs.Ytapogohekfeiiaa.boxPlays
