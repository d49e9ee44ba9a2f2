/-
  detentlaw12.FlagPlays: the walk.
-/
import Derived.Test.YthgcmjiebdnnfaaPlT
import Derived.Deep.CutBlock
namespace Go.Proofs.Ythgcmjiebdnnfaa.flagPlays
open Go.RowKit
set_option linter.unusedVariables false

def Post (w : World) (e : Ending) (w' : World) : Prop := e = .returned (.bool true) ∧ Below w.heap.size w w'

theorem raise_len {S S' : St} {ys : List Int} {o : List (Int × Int)} (hf : Good S.b S.L) (h : raise S ys = (S', o)) : o.length ≤ 16 := by
  have hl := hf.len
  unfold raise wake at h
  split at h
  · split at h <;> cases h <;> simp
  · cases h
    rw [List.length_map]
    exact Nat.le_trans (List.length_filter_le _ _) hl

def PlRel (u q n : Nat) (w : World) (sv i : Value) (wr : World) : Prop :=
  ∃ (s p t : Nat) (S : St), t ≤ n ∧ sv = .pointer (some ⟨s, 0, none⟩) ∧ i = .int .i64 (t : Int) ∧ Fine S ∧ At w s p S wr ∧ Rs wr u q S
theorem Pl.rel {w W : World} {a s p u q n t : Nat} {c : Ac} {S : St} (h : Pl w a c s p S u q S W) (ht : t ≤ n) (hf : Fine S) : PlRel u q n w (.pointer (some ⟨s, 0, none⟩)) (.int .i64 (t : Int)) W :=
  ⟨s, p, t, S, ht, rfl, rfl, hf, h.at_, h.rs⟩
theorem Pl.four {w W : World} {a s p u q : Nat} {c : Ac} {S : St} {x : Int} (h : Pl w a c s p S u q S W) (hx : S.x = x) :
    W.cell? ⟨s, 0, none⟩ = some (.pointer (some ⟨p, 0, none⟩)) ∧ W.cell? ⟨s, 1, none⟩ = some (.int .u32 x) ∧ W.cell? ⟨u, 0, none⟩ = some (.pointer (some ⟨q, 0, none⟩)) ∧ W.cell? ⟨u, 35, none⟩ = some (.int .u32 x) := by
  subst hx; exact ⟨h.p0, h.p1, h.d0, h.dx⟩
theorem Pl.drp {w W : World} {a s p u q : Nat} {c : Ac} {S R : St} (h : Pl w a c s p S u q R W) : W.cell? ⟨u, 0, none⟩ = some (.pointer (some ⟨q, 0, none⟩)) ∧ W.cell? ⟨a, 1, none⟩ = some (.int .i64 c.id) := ⟨h.d0, h.k1⟩
theorem Pl.chn {w W : World} {a s p u q : Nat} {c : Ac} {S R : St} (h : Pl w a c s p S u q R W) : W.cell? ⟨s, 0, none⟩ = some (.pointer (some ⟨p, 0, none⟩)) ∧ W.cell? ⟨u, 0, none⟩ = some (.pointer (some ⟨q, 0, none⟩)) ∧ W.cell? ⟨a, 1, none⟩ = some (.int .i64 c.id) ∧ W.cell? ⟨a, 2, none⟩ = some (.int .i64 c.pri) := ⟨h.p0, h.d0, h.k1, h.k2⟩

set_option maxHeartbeats 800000 in
set_option maxRecDepth 100000 in
theorem walkOut (bp mn cl : Bool) (x : Int) (A : Option Addr) (n cap : Nat) (w : World) (hn : n ≤ 9223372036854775807) (h : ¬ n ≤ 100) : Calls Try.prog 3 #[.bool bp, .bool mn, .bool cl, .int .u32 x, .slice A n cap] w (Post w) := by
  have t1 : (100 : Int) < (n : Int) := by omega
  have t2 : 100 < n := by omega
  go_enter Try.func3, Try.ntmps3
  go_wp2_with fail
  refine (known_ok _).mono ?_
  rintro e w0 ⟨rfl, hb0⟩
  go_wp2
  go_ret
  exact ⟨rfl, hb0⟩

set_option maxHeartbeats 25600000 in
set_option maxRecDepth 100000 in
theorem walkIn (bp mn cl : Bool) (x : Int) (n cap b o : Nat) (A : Option Addr) (c : Nat → Ac) (w : World)
    (hA : 0 < n → A = some ⟨b, o, none⟩ ∧ Acts w b o n c) (hn : n ≤ 100) :
    Calls Try.prog 3 #[.bool bp, .bool mn, .bool cl, .int .u32 x, .slice A n cap] w (Post w) := by
  have t1 : decide ((100 : Int) < (n : Int)) = false := by simp; omega
  have t2 : decide (100 < n) = false := by simp; omega
  have HA := Lib.hid hA
  clear hA
  go_enter Try.func3, Try.ntmps3
  go_wp2_with fail
  refine (known_ok _).mono ?_
  rintro e w0 ⟨rfl, hb0⟩
  go_wp2_with fail
  refine (new_at w w0 bp mn cl x hb0).mono ?_
  rintro e w1 ⟨s, p, rfl, h1, _, _, _⟩
  clear hb0
  go_wp2_with fail
  refine (rnew_ok bp mn cl x w1).mono ?_
  rintro e w2 ⟨_, rfl, u, q, hu, hq, rfl, hr2, hk2⟩
  have hu' : w.heap.size ≤ u := Nat.le_trans h1.b.size hu
  have hq' : w.heap.size ≤ q := Nat.le_trans h1.b.size hq
  have h2 := h1.below hk2
  clear h1 hk2 hu hq t1 t2
  go_wp2
  go_loopw [11, 13] (fun sv i wr => PlRel u q n w sv i wr) (fun _ i _ => n - (intOf i).toNat)
  case atStart => exact ⟨s, p, 0, _, Nat.zero_le _, rfl, rfl, fine_new _ _ _ _ _, h2, hr2⟩
  case round =>
    clear h2 hr2
    obtain ⟨s, p, t, S, ht, rfl, rfl, hF, h3, hr3⟩ := hrel
    have HF := Lib.hid hF
    clear hF
    by_cases hlt : t < n
    · obtain ⟨rfl, hac⟩ := HA.out (by omega)
      have hlb := hac.hlt t hlt
      have k0 := (h3.b.cell (p := ⟨b, o + t * 6, none⟩) hlb).trans (hac.c0 t hlt)
      have k1 := (h3.b.cell (p := ⟨b, o + t * 6 + 1, none⟩) hlb).trans (hac.c1 t hlt)
      have k2 := (h3.b.cell (p := ⟨b, o + t * 6 + 2, none⟩) hlb).trans (hac.c2 t hlt)
      have k3 := (h3.b.cell (p := ⟨b, o + t * 6 + 3, none⟩) hlb).trans (hac.c3 t hlt)
      have k4 := (h3.b.cell (p := ⟨b, o + t * 6 + 4, none⟩) hlb).trans (hac.c4 t hlt)
      have k5 := (h3.b.cell (p := ⟨b, o + t * 6 + 5, none⟩) hlb).trans (hac.c5 t hlt)
      have HSRC := Lib.hid (hac.src t hlt)
      have HCAP := Lib.hid (hac.cap t hlt)
      clear hac hlb
      generalize c t = cc at *
      obtain ⟨x0, x1, x2, x3, x4, SA, sn, sk, qf⟩ := cc
      simp only at k0 k1 k2 k3 k4 k5 HSRC HCAP
      have hP : Pl w wr.heap.size ⟨x0, x1, x2, x3, x4, SA, sn, sk, qf⟩ s p S u q S (wr.alloc (.cells #[.int .i64 x0, .int .i64 x1, .int .i64 x2, .int .u32 x3, .int .i64 x4, .slice SA sn sk] 31)) :=
        ⟨h3.below ((Below.refl _ _).alloc (Nat.le_refl _) _), hr3.below ((Below.refl _ _).alloc (Nat.le_refl _) _), heap_alloc_new _ _, hu', hq'⟩
      clear h3 hr3
      by_cases hsn : 20 < sn
      · have t3 : decide ((20 : Int) < (sn : Int)) = true := decide_eq_true (by omega)
        have t4 : decide (20 < sn) = true := decide_eq_true hsn
        have HB := Lib.hid hP.at_.b
        clear hP hsn
        go_wp2
        go_ret
        exact ⟨rfl, HB.out⟩
      have t3 : decide ((20 : Int) < (sn : Int)) = false := decide_eq_false (by omega)
      have t4 : decide (20 < sn) = false := decide_eq_false hsn
      clear hsn
      go_upto_block 2 with fail
      generalize wr.alloc (.cells #[.int .i64 x0, .int .i64 x1, .int .i64 x2, .int .u32 x3, .int .i64 x4, .slice SA sn sk] 31) = w4 at *
      generalize wr.heap.size = a at *
      clear k0 k1 k2 k3 k4 k5 t3 t4
      go_cut [11] from 45 to 232 (fun s9 wx => ∃ (s p : Nat) (S : St), s9 = .pointer (some ⟨s, 0, none⟩) ∧ Fine S ∧ Pl w a ⟨x0, x1, x2, x3, x4, SA, sn, sk, qf⟩ s p S u q S wx)
      case first =>
        by_cases hop1 : x0 = 1
        · have hop := hop1
          clear hop1
          subst hop
          as_aux_lemma =>
            obtain ⟨S', y, r, e, hs⟩ : ∃ S' y r e, wait S x1 x2 (x3, x4) = (S', y, r, e) := ⟨_, _, _, _, rfl⟩
            have HS := Lib.hid hs
            clear hs
            have j1 : w4.cell? ⟨a, 1, none⟩ = some (.int .i64 x1) := hP.k1
            have j2 : w4.cell? ⟨a, 2, none⟩ = some (.int .i64 x2) := hP.k2
            have j3 : w4.cell? ⟨a, 3, none⟩ = some (.int .u32 x3) := hP.k3
            have j4 : w4.cell? ⟨a, 4, none⟩ = some (.int .i64 x4) := hP.k4
            go_wp2_with fail
            refine (wait_p hP HF.out HS.out).mono ?_
            rintro en w5 ⟨rfl, hP5⟩
            clear hP j1 j2 j3 j4
            have j1 : w5.cell? ⟨a, 1, none⟩ = some (.int .i64 x1) := hP5.k1
            have j2 : w5.cell? ⟨a, 2, none⟩ = some (.int .i64 x2) := hP5.k2
            have j3 : w5.cell? ⟨a, 3, none⟩ = some (.int .u32 x3) := hP5.k3
            have j4 : w5.cell? ⟨a, 4, none⟩ = some (.int .i64 x4) := hP5.k4
            go_wp2_with fail
            refine (wait_d hP5 HF.out HS.out).mono ?_
            rintro en w6 ⟨rfl, hP6⟩
            clear hP5 j1 j2 j3 j4
            go_wp2
            go_meet
            exact ⟨s, p, S', rfl, HF.out.wait HS.out, hP6⟩
        by_cases hop2 : x0 = 2
        · have hop := hop2
          clear hop2 hop1
          subst hop
          as_aux_lemma =>
            obtain ⟨S', y, r, e, hs⟩ : ∃ S' y r e, poll S (x3, x4) = (S', y, r, e) := ⟨_, _, _, _, rfl⟩
            have HS := Lib.hid hs
            clear hs
            have j3 : w4.cell? ⟨a, 3, none⟩ = some (.int .u32 x3) := hP.k3
            have j4 : w4.cell? ⟨a, 4, none⟩ = some (.int .i64 x4) := hP.k4
            go_wp2_with fail
            refine (poll_p hP HS.out).mono ?_
            rintro en w5 ⟨rfl, hP5⟩
            clear hP j3 j4
            have j3 : w5.cell? ⟨a, 3, none⟩ = some (.int .u32 x3) := hP5.k3
            have j4 : w5.cell? ⟨a, 4, none⟩ = some (.int .i64 x4) := hP5.k4
            go_wp2_with fail
            refine (poll_d hP5 HS.out).mono ?_
            rintro en w6 ⟨rfl, hP6⟩
            clear hP5 j3 j4
            go_wp2
            go_meet
            exact ⟨s, p, S', rfl, HF.out.poll HS.out, hP6⟩
        by_cases hop3 : x0 = 3
        · have hop := hop3
          clear hop3 hop1 hop2
          subst hop
          as_aux_lemma =>
            obtain ⟨S', out, hs⟩ : ∃ S' out, raise S (ful qf sn) = (S', out) := ⟨_, _, rfl⟩
            have HS := Lib.hid hs
            have h16 := raise_len HF.out.q hs
            obtain ⟨ol, hol⟩ : ∃ ol, out.length = ol := ⟨_, rfl⟩
            have HO := Lib.hid hol
            rw [hol] at h16
            clear hs hol
            have j5 : w4.cell? ⟨a, 5, none⟩ = some (.slice SA sn sk) := hP.k5
            go_wp2_with fail
            go_region_held3 (fun W => W.cell? ⟨a, 5, none⟩ = some (.slice SA sn sk))
              (first | exact j5 | exact (hP6.drewN nn).k5 | exact hP6.k5 | exact hP5.k5 | assumption)
              (first
                | (go_at_call 16; refine (woken_same _ _ ol _ _ out _ hw7 hw6 h16).mono ?_; rintro en w7 ⟨rfl, nn, rfl⟩)
                | (go_at_call 18; refine (raise_d hP5 HF.out HSRC.out HCAP.out HS.out HO.out hw5).mono ?_; rintro en w6 ⟨Y, jj, rfl, hw6, hw7, hP6⟩)
                | (go_at_call 17; refine (raise_p (by exact hP.drew) HF.out HSRC.out HCAP.out HS.out HO.out).mono ?_; rintro en w5 ⟨X, ii, rfl, hw5, hP5⟩))
            have hP7 := hP6.drewN nn
            clear hP hP5 hP6 hw5 hw6 hw7 j5
            go_wp2
            go_meet
            exact ⟨s, p, S', rfl, HF.out.raise HS.out, hP7⟩
        by_cases hop4 : x0 = 4
        · have hop := hop4
          clear hop4 hop1 hop2 hop3
          subst hop
          as_aux_lemma =>
            obtain ⟨y, hy⟩ : ∃ y, bits .and .u32 S.x x3 = y := ⟨_, rfl⟩
            have j3 : w4.cell? ⟨a, 3, none⟩ = some (.int .u32 x3) := hP.k3
            go_wp2_with fail
            refine (lower_p hP).mono ?_
            rintro en w5 ⟨rfl, hP5⟩
            clear hP j3
            have j3 : w5.cell? ⟨a, 3, none⟩ = some (.int .u32 x3) := hP5.k3
            have jx : w5.cell? ⟨u, 35, none⟩ = some (.int .u32 S.x) := hP5.dx
            have jz := hP5.rs.fz 35
            have hP6 := Lib.hid (hP5.drew.lowd (y := y) hy)
            obtain ⟨sx, hsx⟩ : ∃ sx, S.x = sx := ⟨_, rfl⟩
            rw [hsx] at jx hy
            clear hP5 hsx
            go_wp2_with fail
            go_region
            clear j3 jx jz
            go_wp2
            go_meet
            exact ⟨s, p, (low S x3), rfl, HF.out.setx _, hP6.out⟩
        by_cases hop5 : x0 = 5
        · have hop := hop5
          clear hop5 hop1 hop2 hop3 hop4
          subst hop
          as_aux_lemma =>
            obtain ⟨r, hr⟩ : ∃ r, decide (pos S.L x1 < S.L.length) = r := ⟨_, rfl⟩
            have HR := Lib.hid hr
            clear hr
            obtain ⟨d1, d2⟩ := hP.drp
            dsimp only at d1 d2
            go_wp2_with fail
            go_region_held3 (fun W => W.cell? ⟨u, 0, none⟩ = some (.pointer (some ⟨q, 0, none⟩)) ∧ W.cell? ⟨a, 1, none⟩ = some (.int .i64 x1))
              (first | exact ⟨d1, d2⟩ | exact hP6.drp | exact hP5.drp | assumption)
              (first
                | (go_at_call 21; refine (drop_d hP5 HF.out HR.out).mono ?_; rintro en w6 ⟨rfl, hP6⟩)
                | (go_at_call 20; refine (drop_p (by exact hP.drew) HF.out HR.out).mono ?_; rintro en w5 ⟨rfl, hP5⟩))
            clear hP hP5 d1 d2
            go_wp2
            go_meet
            exact ⟨s, p, (drop S x1), rfl, HF.out.drop x1, hP6⟩
        by_cases hop6 : x0 = 6
        · have hop := hop6
          clear hop6 hop1 hop2 hop3 hop4 hop5
          subst hop
          as_aux_lemma =>
            obtain ⟨r, hr⟩ : ∃ r, chgOk S.L x1 x2 = r := ⟨_, rfl⟩
            have HR := Lib.hid hr
            clear hr
            obtain ⟨d0, d1, d2, d3⟩ := hP.chn
            dsimp only at d0 d1 d2 d3
            go_wp2_with fail
            go_region_held3 (fun W => W.cell? ⟨s, 0, none⟩ = some (.pointer (some ⟨p, 0, none⟩)) ∧ W.cell? ⟨u, 0, none⟩ = some (.pointer (some ⟨q, 0, none⟩)) ∧ W.cell? ⟨a, 1, none⟩ = some (.int .i64 x1) ∧ W.cell? ⟨a, 2, none⟩ = some (.int .i64 x2))
              (first | exact ⟨d0, d1, d2, d3⟩ | exact hP6.chn | exact hP5.chn | assumption)
              (first
                | (go_at_call 23; refine (change_d hP5 HF.out HR.out).mono ?_; rintro en w6 ⟨rfl, hP6⟩)
                | (go_at_call 22; refine (change_p (by exact hP.drew) HF.out HR.out).mono ?_; rintro en w5 ⟨rfl, hP5⟩))
            clear hP hP5 d0 d1 d2 d3
            go_wp2
            go_meet
            exact ⟨s, p, (chg S x1 x2), rfl, HF.out.chg x1 x2, hP6⟩
        by_cases hop7 : x0 = 7
        · have hop := hop7
          clear hop7 hop1 hop2 hop3 hop4 hop5 hop6
          subst hop
          as_aux_lemma =>
            go_wp2_with fail
            refine (apart_p hP).mono ?_
            rintro en w5 ⟨s', p', rfl, hP5, hS5, h51, h52, h53, h54⟩
            have b1 := hP.at_.1
            have b2 := hP.at_.2.1
            clear hP
            obtain ⟨T', out, hs⟩ : ∃ T' out, raise S [4294967295] = (T', out) := ⟨_, _, rfl⟩
            have HS := Lib.hid hs
            obtain ⟨ol, hol⟩ : ∃ ol, out.length = ol := ⟨_, rfl⟩
            have HO := Lib.hid hol
            have HU := Lib.hid (us_one w5 s 4294967295 hS5.lts)
            have HPA := Lib.hid (hP5.alloc (.cells #[.int .u32 4294967295] 22))
            have HSA := Lib.hid (hS5.alloc (.cells #[.int .u32 4294967295] 22))
            have HX := Lib.hid (And.intro h51 (And.intro h52 (And.intro h53 (And.intro h54 (And.intro b1 b2)))))
            clear hs hol hP5 hS5 h51 h52 h53 h54 b1 b2
            go_wp2_with fail
            refine (raise_old (cl := ol) HPA.out HSA.out HF.out HX.out.1 HX.out.2.1 HX.out.2.2.1 HX.out.2.2.2.1 HX.out.2.2.2.2.1 HX.out.2.2.2.2.2 HU.out rfl HS.out HO.out).mono ?_
            rintro en w6 ⟨X, jj, rfl, hP6⟩
            clear HPA HSA HU HX
            go_wp2
            go_meet
            exact ⟨s', p', S, rfl, HF.out, hP6⟩
        as_aux_lemma =>
          have f1 : (x0 == 1) = false := by simpa using hop1
          have f2 : (x0 == 2) = false := by simpa using hop2
          have f3 : (x0 == 3) = false := by simpa using hop3
          have f4 : (x0 == 4) = false := by simpa using hop4
          have f5 : (x0 == 5) = false := by simpa using hop5
          have f6 : (x0 == 6) = false := by simpa using hop6
          have f7 : (x0 == 7) = false := by simpa using hop7
          clear hop1 hop2 hop3 hop4 hop5 hop6 hop7
          go_wp2
          go_meet
          exact ⟨s, p, S, rfl, HF.out, hP⟩
      case rest =>
        clear hP HF
        obtain ⟨s, p, S, rfl, hf, hP⟩ := hcut
        have HF := Lib.hid hf
        clear hf
        as_aux_lemma =>
          obtain ⟨sx, hsx⟩ : ∃ sx, S.x = sx := ⟨_, rfl⟩
          have HX := Lib.hid hsx
          obtain ⟨d0, d1, d2, d3⟩ := hP.four hsx
          clear hsx
          go_wp2_with fail
          go_region_held3 (fun W => W.cell? ⟨s, 0, none⟩ = some (.pointer (some ⟨p, 0, none⟩)) ∧ W.cell? ⟨s, 1, none⟩ = some (.int .u32 sx) ∧ W.cell? ⟨u, 0, none⟩ = some (.pointer (some ⟨q, 0, none⟩)) ∧ W.cell? ⟨u, 35, none⟩ = some (.int .u32 sx))
            (first | exact ⟨d0, d1, d2, d3⟩ | exact hP9.four HX.out | assumption)
            (first
              | (go_at_call 25; refine (same_p (by exact hP.drew) HF.out).mono ?_; rintro en w9 ⟨rfl, hP9⟩))
          clear hP d0 d1 d2 d3
          go_wp2
          go_roundw
          case rel => exact hP9.rel (by omega : t + 1 ≤ n) HF.out
          case measure => simp [intOf]; omega
    · clear hr3
      have hb := h3.b
      clear h3
      go_wp2
      go_ret
      exact ⟨rfl, hb⟩
end Go.Proofs.Ythgcmjiebdnnfaa.flagPlays
