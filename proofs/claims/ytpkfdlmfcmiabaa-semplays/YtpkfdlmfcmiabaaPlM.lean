/-
  detentlaw11.SemPlays: the walk.
-/
import Derived.Test.YtpkfdlmfcmiabaaPlT
import Derived.Deep.CutBlock
import Derived.Test.YtpkfdlmfcmiabaaMix
namespace Go.Proofs.Ytpkfdlmfcmiabaa.semPlays
open Go.RowKit
set_option linter.unusedVariables false

def Post (w : World) (e : Ending) (w' : World) : Prop := e = .returned (.bool true) ∧ Below w.heap.size w w'

def end_tabs : List Row := [
  ([], 172, [9]), ([0], 173, [171]), ([1], 174, [172]), ([2], 175, [173]), ([], 176, [11]), ([4], 177, [175]), ([5], 178, [176]), ([6], 179, [177]), ([3, 7], 180, [174, 178]),
  ([8], 181, [179]), ([9], 182, [9, 180]), ([10, 9], 183, [181, 180]), ([11, 9], 184, [182, 180]), ([12, 9], 185, [183, 180]), ([9], 186, [2, 180]),
  ([13, 14, 9], 187, [184, 185, 180]), ([9, 15], 188, [180, 186]), ([16, 9], 189, [187]), ([17], 190, [9, 188]), ([18, 17], 191, [189, 188]), ([19, 17], 192, [190, 188]),
  ([20, 17], 193, [191, 188]), ([17], 194, [11, 188]), ([22, 17], 195, [193, 188]), ([23, 17], 196, [194, 188]), ([24, 17], 197, [195, 188]),
  ([21, 25, 17, 17], 198, [192, 196, 188]), ([26, 17], 199, [197, 188]), ([17, 27], 200, [188, 198]), ([28, 26], 201, [199]), ([29], 202, [9, 200]),
  ([30, 29], 203, [201, 200]), ([31, 29], 204, [202, 200]), ([32, 29], 205, [203, 200]), ([33, 29], 206, [204, 200]), ([34, 29, 29], 207, [205, 200]), ([35], 208, [9, 206]),
  ([36, 35], 209, [207, 206]), ([37, 35], 210, [208, 206]), ([38, 35], 211, [209, 206]), ([39, 35], 212, [210, 206]), ([40, 35], 213, [211, 206]),
  ([41, 35, 35], 214, [212, 206]), ([42, 35], 215, [213, 206]), ([35, 43, 29], 216, [206, 214, 200]), ([29, 44], 217, [200, 215])]

def PlRel (u q n : Nat) (mo : Int) (w : World) (sv i : Value) (wr : World) : Prop :=
  ∃ (s p t : Nat) (S : St), t ≤ n ∧ sv = .pointer (some ⟨s, 0, none⟩) ∧ i = .int .i64 (t : Int) ∧ S.m = mo ∧ Fine S ∧ At w s p S wr ∧ Rs wr u q S

theorem Pl.rel {w W : World} {a s p u q n t : Nat} {x0 x1 x2 mo : Int} {S : St} (h : Pl w a x0 x1 x2 s p S u q S W) (ht : t ≤ n) (hf : Fine S) (hm : S.m = mo) : PlRel u q n mo w (.pointer (some ⟨s, 0, none⟩)) (.int .i64 (t : Int)) W :=
  ⟨s, p, t, S, ht, rfl, rfl, hm, hf, h.at_, h.rs⟩
theorem Pl.five {w W : World} {a s p u q : Nat} {x0 x1 x2 c mo : Int} {S : St} (h : Pl w a x0 x1 x2 s p S u q S W) (hc : S.c = c) (hm : S.m = mo) :
    W.cell? ⟨s, 0, none⟩ = some (.pointer (some ⟨p, 0, none⟩)) ∧ W.cell? ⟨s, 1, none⟩ = some (.int .i64 c) ∧ W.cell? ⟨s, 2, none⟩ = some (.int .i64 mo) ∧ W.cell? ⟨u, 0, none⟩ = some (.pointer (some ⟨q, 0, none⟩)) ∧ W.cell? ⟨u, 1, none⟩ = some (.int .i64 c) := by
  subst hc hm; obtain ⟨d0, d1, d2, d3, d4, _⟩ := h.cells; exact ⟨d0, d1, d2, d3, d4⟩
theorem Pl.four {w W : World} {a s p u q : Nat} {x0 x1 x2 : Int} {S R : St} (h : Pl w a x0 x1 x2 s p S u q R W) :
    W.cell? ⟨s, 0, none⟩ = some (.pointer (some ⟨p, 0, none⟩)) ∧ W.cell? ⟨u, 0, none⟩ = some (.pointer (some ⟨q, 0, none⟩)) ∧ W.cell? ⟨a, 1, none⟩ = some (.int .i64 x1) ∧ W.cell? ⟨a, 2, none⟩ = some (.int .i64 x2) := by
  obtain ⟨d0, _, _, d3, _, d5, d6⟩ := h.cells; exact ⟨d0, d3, d5, d6⟩

set_option maxHeartbeats 800000 in
set_option maxRecDepth 100000 in
theorem walkOut (bp : Bool) (c0 mo : Int) (A : Option Addr) (n cap : Nat) (w : World) (hn : n ≤ 9223372036854775807) (h : ¬ n ≤ 100) : Calls Try.prog 3 #[.bool bp, .int .i64 c0, .int .i64 mo, .slice A n cap] w (Post w) := by
  have t1 : (100 : Int) < (n : Int) := by omega
  have t2 : 100 < n := by omega
  go_enter Try.func3, Try.ntmps3
  go_wp2_with fail
  refine (known_ok _).mono ?_
  rintro e w0 ⟨rfl, hb0⟩
  go_wp2
  go_ret
  exact ⟨rfl, hb0⟩

set_option maxHeartbeats 800000 in
set_option maxRecDepth 100000 in
theorem walkBad (bp : Bool) (c0 mo : Int) (A : Option Addr) (n cap : Nat) (w : World) (h : n ≤ 100) (hk : ¬ takes c0 mo) : Calls Try.prog 3 #[.bool bp, .int .i64 c0, .int .i64 mo, .slice A n cap] w (Post w) := by
  have t1 : decide ((100 : Int) < (n : Int)) = false := by simp; omega
  have t2 : decide (100 < n) = false := by simp; omega
  go_enter Try.func3, Try.ntmps3
  go_wp2_with fail
  refine (known_ok _).mono ?_
  rintro e w0 ⟨rfl, hb0⟩
  go_wp2_with fail
  refine (newsem_bad bp c0 mo w0 hk).mono ?_
  rintro e w1 ⟨rfl, rfl⟩
  go_wp2_with fail
  refine (rnew_bad bp c0 mo w0 hk).mono ?_
  rintro e w1 ⟨rfl, rfl⟩
  go_wp2
  go_ret
  exact ⟨rfl, hb0⟩

set_option maxHeartbeats 25600000 in
set_option maxRecDepth 100000 in
theorem walkIn (bp : Bool) (c0 mo : Int) (n cap b o : Nat) (A : Option Addr) (op id pri : Nat → Int) (w : World)
    (hA : 0 < n → A = some ⟨b, o, none⟩ ∧ Acts w b o n op id pri) (hn : n ≤ 100) (hk : takes c0 mo) :
    Calls Try.prog 3 #[.bool bp, .int .i64 c0, .int .i64 mo, .slice A n cap] w (Post w) := by
  have t1 : decide ((100 : Int) < (n : Int)) = false := by simp; omega
  have t2 : decide (100 < n) = false := by simp; omega
  have HA := Lib.hid hA
  have HK := Lib.hid hk
  clear hA hk
  go_enter Try.func3, Try.ntmps3
  go_wp2_with fail
  refine (known_ok _).mono ?_
  rintro e w0 ⟨rfl, hb0⟩
  go_wp2_with fail
  refine (new_at w w0 bp c0 mo HK.out hb0).mono ?_
  rintro e w1 ⟨s, p, rfl, h1⟩
  clear hb0
  go_wp2_with fail
  refine (rnew_ok bp c0 mo w1 HK.out).mono ?_
  rintro e w2 ⟨_, rfl, u, q, hu, hq, rfl, hr2, hk2⟩
  have hu' : w.heap.size ≤ u := Nat.le_trans h1.b.size hu
  have hq' : w.heap.size ≤ q := Nat.le_trans h1.b.size hq
  have h2 := h1.below hk2
  clear h1 hk2 hu hq t1 t2
  go_wp2
  go_loopw [9, 13] (fun sv i wr => PlRel u q n mo w sv i wr) (fun _ i _ => n - (intOf i).toNat)
  case atStart => exact ⟨s, p, 0, _, Nat.zero_le _, rfl, rfl, rfl, fine_new HK.out, h2, hr2⟩
  case round =>
    clear h2 hr2
    obtain ⟨s, p, t, S, ht, rfl, rfl, hm, hF, h3, hr3⟩ := hrel
    have HM := Lib.hid hm
    have HF := Lib.hid hF
    clear hm hF
    by_cases hlt : t < n
    · obtain ⟨rfl, hac⟩ := HA.out (by omega)
      have hlb := hac.hlt t hlt
      have k0 := (h3.b.cell (p := ⟨b, o + t * 3, none⟩) hlb).trans (hac.c0 t hlt)
      have k1 := (h3.b.cell (p := ⟨b, o + t * 3 + 1, none⟩) hlb).trans (hac.c1 t hlt)
      have k2 := (h3.b.cell (p := ⟨b, o + t * 3 + 2, none⟩) hlb).trans (hac.c2 t hlt)
      clear hac hlb
      generalize op t = x0 at *
      generalize id t = x1 at *
      generalize pri t = x2 at *
      have hP : Pl w wr.heap.size x0 x1 x2 s p S u q S (wr.alloc (.cells #[.int .i64 x0, .int .i64 x1, .int .i64 x2] 32)) :=
        ⟨h3.below ((Below.refl _ _).alloc (Nat.le_refl _) _), hr3.below ((Below.refl _ _).alloc (Nat.le_refl _) _), heap_alloc_new _ _, hu', hq'⟩
      clear h3 hr3
      go_upto_block 2 with fail
      generalize wr.alloc (.cells #[.int .i64 x0, .int .i64 x1, .int .i64 x2] 32) = w4 at *
      generalize wr.heap.size = a at *
      clear k0 k1 k2
      go_cut [9] from 55 to 216 (fun s9 wx => ∃ (s p : Nat) (S : St), s9 = .pointer (some ⟨s, 0, none⟩) ∧ S.m = mo ∧ Fine S ∧ Pl w a x0 x1 x2 s p S u q S wx)
      case first =>
        by_cases hop1 : x0 = 1
        · have hop := hop1
          clear hop1
          subst hop
          as_aux_lemma =>
            obtain ⟨S', r, k, hs⟩ : ∃ S' r k, sig S = (S', r, k) := ⟨_, _, _, rfl⟩
            have HS := Lib.hid hs
            clear hs
            go_wp2_with fail
            refine (signal_p hP HF.out HS.out).mono ?_
            rintro e w5 ⟨rfl, hP5⟩
            clear hP
            go_wp2_with fail
            refine (signal_d hP5 HF.out HS.out).mono ?_
            rintro e w6 ⟨rfl, hP6⟩
            clear hP5
            go_wp2
            go_meet
            exact ⟨s, p, S', rfl, (m_of_sig HS.out).trans HM.out, HF.out.sig HS.out, hP6⟩
        by_cases hop2 : x0 = 2
        · have hop := hop2
          clear hop2 hop1
          subst hop
          as_aux_lemma =>
            have j1 := hP.cells.2.2.2.2.2.1
            have j2 := hP.cells.2.2.2.2.2.2
            obtain ⟨S', r, k, hs⟩ : ∃ S' r k, wait S x1 x2 = (S', r, k) := ⟨_, _, _, rfl⟩
            have HS := Lib.hid hs
            clear hs
            go_wp2_with fail
            refine (wait_p x1 x2 hP HF.out HS.out).mono ?_
            rintro e w5 ⟨rfl, hP5⟩
            clear j1 j2
            have j1 := hP5.cells.2.2.2.2.2.1
            have j2 := hP5.cells.2.2.2.2.2.2
            clear hP
            go_wp2_with fail
            refine (wait_d x1 x2 hP5 HF.out HS.out).mono ?_
            rintro e w6 ⟨rfl, hP6⟩
            clear hP5
            go_wp2
            go_meet
            exact ⟨s, p, S', rfl, (m_of_wait HS.out).trans HM.out, HF.out.wait HS.out, hP6⟩
        by_cases hop3 : x0 = 3
        · have hop := hop3
          clear hop3 hop1 hop2
          subst hop
          as_aux_lemma =>
            obtain ⟨S', r, hs⟩ : ∃ S' r, poll S = (S', r) := ⟨_, _, rfl⟩
            have HS := Lib.hid hs
            clear hs
            go_wp2_with fail
            refine (poll_p hP HF.out HS.out).mono ?_
            rintro e w5 ⟨rfl, hP5⟩
            clear hP
            go_wp2_with fail
            refine (poll_d hP5 HF.out HS.out).mono ?_
            rintro e w6 ⟨rfl, hP6⟩
            clear hP5
            go_wp2
            go_meet
            exact ⟨s, p, S', rfl, (m_of_poll HS.out).trans HM.out, HF.out.poll HS.out, hP6⟩
        by_cases hop4 : x0 = 4
        · have hop := hop4
          clear hop4 hop1 hop2 hop3
          subst hop
          as_aux_lemma =>
            obtain ⟨r, hr⟩ : ∃ r, decide (pos S.L x1 < S.L.length) = r := ⟨_, rfl⟩
            have HR := Lib.hid hr
            clear hr
            obtain ⟨d0, d3, d5, d6⟩ := hP.four
            go_wp2_with fail
            go_region_held3 (fun W => W.cell? ⟨s, 0, none⟩ = some (.pointer (some ⟨p, 0, none⟩)) ∧ W.cell? ⟨u, 0, none⟩ = some (.pointer (some ⟨q, 0, none⟩)) ∧ W.cell? ⟨a, 1, none⟩ = some (.int .i64 x1) ∧ W.cell? ⟨a, 2, none⟩ = some (.int .i64 x2))
              (first | exact ⟨d0, d3, d5, d6⟩ | exact hP6.four | exact hP5.four | assumption)
              (first
                | (go_at_call 17; refine (remove_d x1 hP5 HF.out HR.out).mono ?_; rintro e w6 ⟨rfl, hP6⟩)
                | (go_at_call 16; refine (remove_p x1 (by exact hP.drew) HF.out HR.out).mono ?_; rintro e w5 ⟨rfl, hP5⟩))
            clear hP hP5 d0 d3 d5 d6
            go_wp2
            go_meet
            exact ⟨s, p, rem S x1, rfl, HM.out, HF.out.rem x1, hP6⟩
        by_cases hop5 : x0 = 5
        · have hop := hop5
          clear hop5 hop1 hop2 hop3 hop4
          subst hop
          as_aux_lemma =>
            obtain ⟨r, hr⟩ : ∃ r, chgOk S.L x1 x2 = r := ⟨_, rfl⟩
            have HR := Lib.hid hr
            clear hr
            obtain ⟨d0, d3, d5, d6⟩ := hP.four
            go_wp2_with fail
            go_region_held3 (fun W => W.cell? ⟨s, 0, none⟩ = some (.pointer (some ⟨p, 0, none⟩)) ∧ W.cell? ⟨u, 0, none⟩ = some (.pointer (some ⟨q, 0, none⟩)) ∧ W.cell? ⟨a, 1, none⟩ = some (.int .i64 x1) ∧ W.cell? ⟨a, 2, none⟩ = some (.int .i64 x2))
              (first | exact ⟨d0, d3, d5, d6⟩ | exact hP6.four | exact hP5.four | assumption)
              (first
                | (go_at_call 19; refine (change_d x1 x2 hP5 HF.out HR.out).mono ?_; rintro e w6 ⟨rfl, hP6⟩)
                | (go_at_call 18; refine (change_p x1 x2 (by exact hP.drew) HF.out HR.out).mono ?_; rintro e w5 ⟨rfl, hP5⟩))
            clear hP hP5 d0 d3 d5 d6
            go_wp2
            go_meet
            exact ⟨s, p, chg S x1 x2, rfl, HM.out, HF.out.chg x1 x2, hP6⟩
        by_cases hop6 : x0 = 6
        · have hop := hop6
          clear hop6 hop1 hop2 hop3 hop4 hop5
          subst hop
          as_aux_lemma =>
            go_wp2_with fail
            refine (apart_p hP).mono ?_
            rintro e w5 ⟨s', p', rfl, hP5, hS5, hss, hpp⟩
            have b1 := hP.at_.1
            have b2 := hP.at_.2.1
            clear hP
            obtain ⟨T', r, k, hs⟩ : ∃ T' r k, sig S = (T', r, k) := ⟨_, _, _, rfl⟩
            have HS := Lib.hid hs
            clear hs
            go_wp2_with fail
            refine (signal_old hP5 hS5 HF.out hss hpp b1 b2 HS.out).mono ?_
            rintro e w6 ⟨rfl, hP6⟩
            clear hP5 hS5 hss hpp b1 b2 HS
            go_wp2
            go_meet
            exact ⟨s', p', S, rfl, HM.out, HF.out, hP6⟩
        as_aux_lemma =>
          have f1 : (x0 == 1) = false := by simpa using hop1
          have f2 : (x0 == 2) = false := by simpa using hop2
          have f3 : (x0 == 3) = false := by simpa using hop3
          have f4 : (x0 == 4) = false := by simpa using hop4
          have f5 : (x0 == 5) = false := by simpa using hop5
          have f6 : (x0 == 6) = false := by simpa using hop6
          clear hop1 hop2 hop3 hop4 hop5 hop6
          go_wp2
          go_meet
          exact ⟨s, p, S, rfl, HM.out, HF.out, hP⟩
      case rest =>
        clear hP HF HM
        obtain ⟨s, p, S, rfl, hm, hf, hP⟩ := hcut
        have HM := Lib.hid hm
        have HF := Lib.hid hf
        clear hm hf
        obtain ⟨c, hc⟩ : ∃ c, S.c = c := ⟨_, rfl⟩
        have HC := Lib.hid hc
        by_cases cp : 0 < c
        · as_aux_lemma =>
            have HL := Lib.hid (show (S.L.length : Int) = 0 by rw [HF.out.nobody (by rw [hc]; exact cp)]; rfl)
            have tp : decide (0 < c) = true := by simpa using cp
            clear hc cp
            go_wp2_with fail
            (try dsimp only [List.append])
            refine wp_region_mix (C := fun Z => Pl w a x0 x1 x2 s p S u q S Z) end_tabs [] (by kernel_rfl) (by kernel_rfl) (by kernel_rfl) (by kernel_rfl) (by kernel_rfl) hP.drew ?_
            clear hP
            refine wq_start ?_
            refine wq_free ?v0 (by kernel_rfl) (fun Z hZ => ?y0) ?r0
            case y0 =>
              obtain ⟨d0, d1, d2, d3, d4⟩ := hZ.five HC.out HM.out
              clear hZ
              go_simp
              try with_reducible rfl
            simp only [Act.put, List.setIfInBounds_toArray, List.set_cons_zero, List.set_cons_succ]
            refine wq_free ?v1 (by kernel_rfl) (fun Z hZ => ?y1) ?r1
            case y1 =>
              obtain ⟨d0, d1, d2, d3, d4⟩ := hZ.five HC.out HM.out
              clear hZ
              go_simp
              try with_reducible rfl
            simp only [Act.put, List.setIfInBounds_toArray, List.set_cons_zero, List.set_cons_succ]
            refine wq_free ?v2 (by kernel_rfl) (fun Z hZ => ?y2) ?r2
            case y2 =>
              obtain ⟨d0, d1, d2, d3, d4⟩ := hZ.five HC.out HM.out
              clear hZ
              go_simp
              try with_reducible rfl
            simp only [Act.put, List.setIfInBounds_toArray, List.set_cons_zero, List.set_cons_succ]
            refine wq_free ?v3 (by kernel_rfl) (fun Z hZ => ?y3) ?r3
            case y3 =>
              obtain ⟨d0, d1, d2, d3, d4⟩ := hZ.five HC.out HM.out
              clear hZ
              go_simp
              try with_reducible rfl
            simp only [Act.put, List.setIfInBounds_toArray, List.set_cons_zero, List.set_cons_succ]
            refine wq_free ?v4 (by kernel_rfl) (fun Z hZ => ?y4) ?r4
            case y4 =>
              obtain ⟨d0, d1, d2, d3, d4⟩ := hZ.five HC.out HM.out
              clear hZ
              go_simp
              try with_reducible rfl
            simp only [Act.put, List.setIfInBounds_toArray, List.set_cons_zero, List.set_cons_succ]
            refine wq_free ?v5 (by kernel_rfl) (fun Z hZ => ?y5) ?r5
            case y5 =>
              obtain ⟨d0, d1, d2, d3, d4⟩ := hZ.five HC.out HM.out
              clear hZ
              go_simp
              try with_reducible rfl
            simp only [Act.put, List.setIfInBounds_toArray, List.set_cons_zero, List.set_cons_succ]
            refine wq_free ?v6 (by kernel_rfl) (fun Z hZ => ?y6) ?r6
            case y6 =>
              obtain ⟨d0, d1, d2, d3, d4⟩ := hZ.five HC.out HM.out
              clear hZ
              go_simp
              try with_reducible rfl
            simp only [Act.put, List.setIfInBounds_toArray, List.set_cons_zero, List.set_cons_succ]
            refine wq_free ?v7 (by kernel_rfl) (fun Z hZ => ?y7) ?r7
            case y7 =>
              obtain ⟨d0, d1, d2, d3, d4⟩ := hZ.five HC.out HM.out
              clear hZ
              go_simp
              try with_reducible rfl
            simp only [Act.put, List.setIfInBounds_toArray, List.set_cons_zero, List.set_cons_succ]
            refine wq_free ?v8 (by kernel_rfl) (fun Z hZ => ?y8) ?r8
            case y8 =>
              obtain ⟨d0, d1, d2, d3, d4⟩ := hZ.five HC.out HM.out
              clear hZ
              go_simp
              try with_reducible rfl
            simp only [Act.put, List.setIfInBounds_toArray, List.set_cons_zero, List.set_cons_succ]
            refine wq_free ?v9 (by kernel_rfl) (fun Z hZ => ?y9) ?r9
            case y9 =>
              obtain ⟨d0, d1, d2, d3, d4⟩ := hZ.five HC.out HM.out
              clear hZ
              go_simp
              try with_reducible rfl
            simp only [Act.put, List.setIfInBounds_toArray, List.set_cons_zero, List.set_cons_succ]
            refine wq_free ?v10 (by kernel_rfl) (fun Z hZ => ?y10) ?r10
            case y10 =>
              obtain ⟨d0, d1, d2, d3, d4⟩ := hZ.five HC.out HM.out
              clear hZ
              go_simp
              try with_reducible rfl
            simp only [Act.put, List.setIfInBounds_toArray, List.set_cons_zero, List.set_cons_succ]
            refine wq_free ?v11 (by kernel_rfl) (fun Z hZ => ?y11) ?r11
            case y11 =>
              obtain ⟨d0, d1, d2, d3, d4⟩ := hZ.five HC.out HM.out
              clear hZ
              go_simp
              try with_reducible rfl
            simp only [Act.put, List.setIfInBounds_toArray, List.set_cons_zero, List.set_cons_succ]
            refine wq_free ?v12 (by kernel_rfl) (fun Z hZ => ?y12) ?r12
            case y12 =>
              obtain ⟨d0, d1, d2, d3, d4⟩ := hZ.five HC.out HM.out
              clear hZ
              go_simp
              try with_reducible rfl
            simp only [Act.put, List.setIfInBounds_toArray, List.set_cons_zero, List.set_cons_succ]
            refine wq_free ?v13 (by kernel_rfl) (fun Z hZ => ?y13) ?r13
            case y13 =>
              obtain ⟨d0, d1, d2, d3, d4⟩ := hZ.five HC.out HM.out
              clear hZ
              go_simp
              try with_reducible rfl
            simp only [Act.put, List.setIfInBounds_toArray, List.set_cons_zero, List.set_cons_succ]
            refine wq_free ?v14 (by kernel_rfl) (fun Z hZ => ?y14) ?r14
            case y14 =>
              obtain ⟨d0, d1, d2, d3, d4⟩ := hZ.five HC.out HM.out
              clear hZ
              go_simp
              try with_reducible rfl
            simp only [Act.put, List.setIfInBounds_toArray, List.set_cons_zero, List.set_cons_succ]
            refine wq_free ?v15 (by kernel_rfl) (fun Z hZ => ?y15) ?r15
            case y15 =>
              obtain ⟨d0, d1, d2, d3, d4⟩ := hZ.five HC.out HM.out
              clear hZ
              go_simp
              try with_reducible rfl
            simp only [Act.put, List.setIfInBounds_toArray, List.set_cons_zero, List.set_cons_succ]
            refine wq_free ?v16 (by kernel_rfl) (fun Z hZ => ?y16) ?r16
            case y16 =>
              obtain ⟨d0, d1, d2, d3, d4⟩ := hZ.five HC.out HM.out
              clear hZ
              go_simp
              try with_reducible rfl
            simp only [Act.put, List.setIfInBounds_toArray, List.set_cons_zero, List.set_cons_succ]
            refine wq_free ?v17 (by kernel_rfl) (fun Z hZ => ?y17) ?r17
            case y17 =>
              obtain ⟨d0, d1, d2, d3, d4⟩ := hZ.five HC.out HM.out
              clear hZ
              go_simp
              try with_reducible rfl
            simp only [Act.put, List.setIfInBounds_toArray, List.set_cons_zero, List.set_cons_succ]
            refine wq_free ?v18 (by kernel_rfl) (fun Z hZ => ?y18) ?r18
            case y18 =>
              obtain ⟨d0, d1, d2, d3, d4⟩ := hZ.five HC.out HM.out
              clear hZ
              go_simp
              try with_reducible rfl
            simp only [Act.put, List.setIfInBounds_toArray, List.set_cons_zero, List.set_cons_succ]
            refine wq_free ?v19 (by kernel_rfl) (fun Z hZ => ?y19) ?r19
            case y19 =>
              obtain ⟨d0, d1, d2, d3, d4⟩ := hZ.five HC.out HM.out
              clear hZ
              go_simp
              try with_reducible rfl
            simp only [Act.put, List.setIfInBounds_toArray, List.set_cons_zero, List.set_cons_succ]
            refine wq_free ?v20 (by kernel_rfl) (fun Z hZ => ?y20) ?r20
            case y20 =>
              obtain ⟨d0, d1, d2, d3, d4⟩ := hZ.five HC.out HM.out
              clear hZ
              go_simp
              try with_reducible rfl
            simp only [Act.put, List.setIfInBounds_toArray, List.set_cons_zero, List.set_cons_succ]
            refine wq_free ?v21 (by kernel_rfl) (fun Z hZ => ?y21) ?r21
            case y21 =>
              obtain ⟨d0, d1, d2, d3, d4⟩ := hZ.five HC.out HM.out
              clear hZ
              go_simp
              try with_reducible rfl
            simp only [Act.put, List.setIfInBounds_toArray, List.set_cons_zero, List.set_cons_succ]
            refine wq_free ?v22 (by kernel_rfl) (fun Z hZ => ?y22) ?r22
            case y22 =>
              obtain ⟨d0, d1, d2, d3, d4⟩ := hZ.five HC.out HM.out
              clear hZ
              go_simp
              try with_reducible rfl
            simp only [Act.put, List.setIfInBounds_toArray, List.set_cons_zero, List.set_cons_succ]
            refine wq_free ?v23 (by kernel_rfl) (fun Z hZ => ?y23) ?r23
            case y23 =>
              obtain ⟨d0, d1, d2, d3, d4⟩ := hZ.five HC.out HM.out
              clear hZ
              go_simp
              try with_reducible rfl
            simp only [Act.put, List.setIfInBounds_toArray, List.set_cons_zero, List.set_cons_succ]
            refine wq_free ?v24 (by kernel_rfl) (fun Z hZ => ?y24) ?r24
            case y24 =>
              obtain ⟨d0, d1, d2, d3, d4⟩ := hZ.five HC.out HM.out
              clear hZ
              go_simp
              try with_reducible rfl
            simp only [Act.put, List.setIfInBounds_toArray, List.set_cons_zero, List.set_cons_succ]
            refine wq_free ?v25 (by kernel_rfl) (fun Z hZ => ?y25) ?r25
            case y25 =>
              obtain ⟨d0, d1, d2, d3, d4⟩ := hZ.five HC.out HM.out
              clear hZ
              go_simp
              try with_reducible rfl
            simp only [Act.put, List.setIfInBounds_toArray, List.set_cons_zero, List.set_cons_succ]
            refine wq_call (.bool true) 21 ?g26 (by kernel_rfl) (fun Z hZ => ?y26) (fun Z hZ => ?c26) ?r26
            case y26 =>
              clear hZ
              go_simp
              try with_reducible rfl
            case c26 =>
              refine (same_p hZ HF.out).mono ?_
              rintro e w9 ⟨rfl, hZ9⟩; exact ⟨rfl, hZ9⟩
            simp only [Act.put, List.setIfInBounds_toArray, List.set_cons_zero, List.set_cons_succ]
            refine wq_free ?v27 (by kernel_rfl) (fun Z hZ => ?y27) ?r27
            case y27 =>
              obtain ⟨d0, d1, d2, d3, d4⟩ := hZ.five HC.out HM.out
              clear hZ
              go_simp
              try with_reducible rfl
            simp only [Act.put, List.setIfInBounds_toArray, List.set_cons_zero, List.set_cons_succ]
            refine wq_free ?v28 (by kernel_rfl) (fun Z hZ => ?y28) ?r28
            case y28 =>
              obtain ⟨d0, d1, d2, d3, d4⟩ := hZ.five HC.out HM.out
              clear hZ
              go_simp
              try with_reducible rfl
            simp only [Act.put, List.setIfInBounds_toArray, List.set_cons_zero, List.set_cons_succ]
            refine wq_free ?v29 (by kernel_rfl) (fun Z hZ => ?y29) ?r29
            case y29 =>
              obtain ⟨d0, d1, d2, d3, d4⟩ := hZ.five HC.out HM.out
              clear hZ
              go_simp
              try with_reducible rfl
            simp only [Act.put, List.setIfInBounds_toArray, List.set_cons_zero, List.set_cons_succ]
            refine wq_free ?v30 (by kernel_rfl) (fun Z hZ => ?y30) ?r30
            case y30 =>
              obtain ⟨d0, d1, d2, d3, d4⟩ := hZ.five HC.out HM.out
              clear hZ
              go_simp
              try with_reducible rfl
            simp only [Act.put, List.setIfInBounds_toArray, List.set_cons_zero, List.set_cons_succ]
            refine wq_free ?v31 (by kernel_rfl) (fun Z hZ => ?y31) ?r31
            case y31 =>
              obtain ⟨d0, d1, d2, d3, d4⟩ := hZ.five HC.out HM.out
              clear hZ
              go_simp
              try with_reducible rfl
            simp only [Act.put, List.setIfInBounds_toArray, List.set_cons_zero, List.set_cons_succ]
            refine wq_free ?v32 (by kernel_rfl) (fun Z hZ => ?y32) ?r32
            case y32 =>
              obtain ⟨d0, d1, d2, d3, d4⟩ := hZ.five HC.out HM.out
              clear hZ
              go_simp
              try with_reducible rfl
            simp only [Act.put, List.setIfInBounds_toArray, List.set_cons_zero, List.set_cons_succ]
            refine wq_free ?v33 (by kernel_rfl) (fun Z hZ => ?y33) ?r33
            case y33 =>
              obtain ⟨d0, d1, d2, d3, d4⟩ := hZ.five HC.out HM.out
              clear hZ
              go_simp
              try with_reducible rfl
            simp only [Act.put, List.setIfInBounds_toArray, List.set_cons_zero, List.set_cons_succ]
            refine wq_free ?v34 (by kernel_rfl) (fun Z hZ => ?y34) ?r34
            case y34 =>
              obtain ⟨d0, d1, d2, d3, d4⟩ := hZ.five HC.out HM.out
              clear hZ
              go_simp
              try with_reducible rfl
            simp only [Act.put, List.setIfInBounds_toArray, List.set_cons_zero, List.set_cons_succ]
            refine wq_free ?v35 (by kernel_rfl) (fun Z hZ => ?y35) ?r35
            case y35 =>
              obtain ⟨d0, d1, d2, d3, d4⟩ := hZ.five HC.out HM.out
              clear hZ
              go_simp
              try with_reducible rfl
            simp only [Act.put, List.setIfInBounds_toArray, List.set_cons_zero, List.set_cons_succ]
            refine wq_free ?v36 (by kernel_rfl) (fun Z hZ => ?y36) ?r36
            case y36 =>
              obtain ⟨d0, d1, d2, d3, d4⟩ := hZ.five HC.out HM.out
              clear hZ
              go_simp
              try with_reducible rfl
            simp only [Act.put, List.setIfInBounds_toArray, List.set_cons_zero, List.set_cons_succ]
            refine wq_free ?v37 (by kernel_rfl) (fun Z hZ => ?y37) ?r37
            case y37 =>
              obtain ⟨d0, d1, d2, d3, d4⟩ := hZ.five HC.out HM.out
              clear hZ
              go_simp
              try with_reducible rfl
            simp only [Act.put, List.setIfInBounds_toArray, List.set_cons_zero, List.set_cons_succ]
            refine wq_free ?v38 (by kernel_rfl) (fun Z hZ => ?y38) ?r38
            case y38 =>
              obtain ⟨d0, d1, d2, d3, d4⟩ := hZ.five HC.out HM.out
              clear hZ
              go_simp
              try with_reducible rfl
            simp only [Act.put, List.setIfInBounds_toArray, List.set_cons_zero, List.set_cons_succ]
            refine wq_free ?v39 (by kernel_rfl) (fun Z hZ => ?y39) ?r39
            case y39 =>
              obtain ⟨d0, d1, d2, d3, d4⟩ := hZ.five HC.out HM.out
              clear hZ
              go_simp
              try with_reducible rfl
            simp only [Act.put, List.setIfInBounds_toArray, List.set_cons_zero, List.set_cons_succ]
            refine wq_free ?v40 (by kernel_rfl) (fun Z hZ => ?y40) ?r40
            case y40 =>
              obtain ⟨d0, d1, d2, d3, d4⟩ := hZ.five HC.out HM.out
              clear hZ
              go_simp
              try with_reducible rfl
            simp only [Act.put, List.setIfInBounds_toArray, List.set_cons_zero, List.set_cons_succ]
            refine wq_free ?v41 (by kernel_rfl) (fun Z hZ => ?y41) ?r41
            case y41 =>
              obtain ⟨d0, d1, d2, d3, d4⟩ := hZ.five HC.out HM.out
              clear hZ
              go_simp
              try with_reducible rfl
            simp only [Act.put, List.setIfInBounds_toArray, List.set_cons_zero, List.set_cons_succ]
            refine wq_call (.int .i64 0) 22 ?g42 (by kernel_rfl) (fun Z hZ => ?y42) (fun Z hZ => ?c42) ?r42
            case y42 =>
              clear hZ
              go_simp
              try with_reducible rfl
            case c42 =>
              refine (len_p hZ HL.out).mono ?_
              rintro e w9 ⟨rfl, rfl⟩; exact ⟨rfl, hZ⟩
            simp only [Act.put, List.setIfInBounds_toArray, List.set_cons_zero, List.set_cons_succ]
            refine wq_free ?v43 (by kernel_rfl) (fun Z hZ => ?y43) ?r43
            case y43 =>
              obtain ⟨d0, d1, d2, d3, d4⟩ := hZ.five HC.out HM.out
              clear hZ
              go_simp
              try with_reducible rfl
            simp only [Act.put, List.setIfInBounds_toArray, List.set_cons_zero, List.set_cons_succ]
            refine wq_free ?v44 (by kernel_rfl) (fun Z hZ => ?y44) ?r44
            case y44 =>
              obtain ⟨d0, d1, d2, d3, d4⟩ := hZ.five HC.out HM.out
              clear hZ
              go_simp
              try with_reducible rfl
            simp only [Act.put, List.setIfInBounds_toArray, List.set_cons_zero, List.set_cons_succ]
            refine wq_free ?v45 (by kernel_rfl) (fun Z hZ => ?y45) ?r45
            case y45 =>
              obtain ⟨d0, d1, d2, d3, d4⟩ := hZ.five HC.out HM.out
              clear hZ
              go_simp
              try with_reducible rfl
            simp only [Act.put, List.setIfInBounds_toArray, List.set_cons_zero, List.set_cons_succ]
            refine wq_nil fun Z hZ => ?_
            go_wp2
            go_roundw
            case rel => exact hZ.rel (by omega : t + 1 ≤ n) HF.out HM.out
            case measure => simp [intOf]; omega
        · as_aux_lemma =>
            have hlo := HF.out.lo
            obtain rfl : c = 0 := by omega
            clear hc cp hlo
            go_wp2_with fail
            (try dsimp only [List.append])
            refine wp_region_mix (C := fun Z => Pl w a x0 x1 x2 s p S u q S Z) end_tabs [] (by kernel_rfl) (by kernel_rfl) (by kernel_rfl) (by kernel_rfl) (by kernel_rfl) hP.drew ?_
            clear hP
            refine wq_start ?_
            refine wq_free ?vv0 (by kernel_rfl) (fun Z hZ => ?yy0) ?rr0
            case yy0 =>
              obtain ⟨d0, d1, d2, d3, d4⟩ := hZ.five HC.out HM.out
              clear hZ
              go_simp
              try with_reducible rfl
            simp only [Act.put, List.setIfInBounds_toArray, List.set_cons_zero, List.set_cons_succ]
            refine wq_free ?vv1 (by kernel_rfl) (fun Z hZ => ?yy1) ?rr1
            case yy1 =>
              obtain ⟨d0, d1, d2, d3, d4⟩ := hZ.five HC.out HM.out
              clear hZ
              go_simp
              try with_reducible rfl
            simp only [Act.put, List.setIfInBounds_toArray, List.set_cons_zero, List.set_cons_succ]
            refine wq_free ?vv2 (by kernel_rfl) (fun Z hZ => ?yy2) ?rr2
            case yy2 =>
              obtain ⟨d0, d1, d2, d3, d4⟩ := hZ.five HC.out HM.out
              clear hZ
              go_simp
              try with_reducible rfl
            simp only [Act.put, List.setIfInBounds_toArray, List.set_cons_zero, List.set_cons_succ]
            refine wq_free ?vv3 (by kernel_rfl) (fun Z hZ => ?yy3) ?rr3
            case yy3 =>
              obtain ⟨d0, d1, d2, d3, d4⟩ := hZ.five HC.out HM.out
              clear hZ
              go_simp
              try with_reducible rfl
            simp only [Act.put, List.setIfInBounds_toArray, List.set_cons_zero, List.set_cons_succ]
            refine wq_free ?vv4 (by kernel_rfl) (fun Z hZ => ?yy4) ?rr4
            case yy4 =>
              obtain ⟨d0, d1, d2, d3, d4⟩ := hZ.five HC.out HM.out
              clear hZ
              go_simp
              try with_reducible rfl
            simp only [Act.put, List.setIfInBounds_toArray, List.set_cons_zero, List.set_cons_succ]
            refine wq_free ?vv5 (by kernel_rfl) (fun Z hZ => ?yy5) ?rr5
            case yy5 =>
              obtain ⟨d0, d1, d2, d3, d4⟩ := hZ.five HC.out HM.out
              clear hZ
              go_simp
              try with_reducible rfl
            simp only [Act.put, List.setIfInBounds_toArray, List.set_cons_zero, List.set_cons_succ]
            refine wq_free ?vv6 (by kernel_rfl) (fun Z hZ => ?yy6) ?rr6
            case yy6 =>
              obtain ⟨d0, d1, d2, d3, d4⟩ := hZ.five HC.out HM.out
              clear hZ
              go_simp
              try with_reducible rfl
            simp only [Act.put, List.setIfInBounds_toArray, List.set_cons_zero, List.set_cons_succ]
            refine wq_free ?vv7 (by kernel_rfl) (fun Z hZ => ?yy7) ?rr7
            case yy7 =>
              obtain ⟨d0, d1, d2, d3, d4⟩ := hZ.five HC.out HM.out
              clear hZ
              go_simp
              try with_reducible rfl
            simp only [Act.put, List.setIfInBounds_toArray, List.set_cons_zero, List.set_cons_succ]
            refine wq_free ?vv8 (by kernel_rfl) (fun Z hZ => ?yy8) ?rr8
            case yy8 =>
              obtain ⟨d0, d1, d2, d3, d4⟩ := hZ.five HC.out HM.out
              clear hZ
              go_simp
              try with_reducible rfl
            simp only [Act.put, List.setIfInBounds_toArray, List.set_cons_zero, List.set_cons_succ]
            refine wq_free ?vv9 (by kernel_rfl) (fun Z hZ => ?yy9) ?rr9
            case yy9 =>
              obtain ⟨d0, d1, d2, d3, d4⟩ := hZ.five HC.out HM.out
              clear hZ
              go_simp
              try with_reducible rfl
            simp only [Act.put, List.setIfInBounds_toArray, List.set_cons_zero, List.set_cons_succ]
            refine wq_free ?vv10 (by kernel_rfl) (fun Z hZ => ?yy10) ?rr10
            case yy10 =>
              obtain ⟨d0, d1, d2, d3, d4⟩ := hZ.five HC.out HM.out
              clear hZ
              go_simp
              try with_reducible rfl
            simp only [Act.put, List.setIfInBounds_toArray, List.set_cons_zero, List.set_cons_succ]
            refine wq_free ?vv11 (by kernel_rfl) (fun Z hZ => ?yy11) ?rr11
            case yy11 =>
              obtain ⟨d0, d1, d2, d3, d4⟩ := hZ.five HC.out HM.out
              clear hZ
              go_simp
              try with_reducible rfl
            simp only [Act.put, List.setIfInBounds_toArray, List.set_cons_zero, List.set_cons_succ]
            refine wq_free ?vv12 (by kernel_rfl) (fun Z hZ => ?yy12) ?rr12
            case yy12 =>
              obtain ⟨d0, d1, d2, d3, d4⟩ := hZ.five HC.out HM.out
              clear hZ
              go_simp
              try with_reducible rfl
            simp only [Act.put, List.setIfInBounds_toArray, List.set_cons_zero, List.set_cons_succ]
            refine wq_free ?vv13 (by kernel_rfl) (fun Z hZ => ?yy13) ?rr13
            case yy13 =>
              obtain ⟨d0, d1, d2, d3, d4⟩ := hZ.five HC.out HM.out
              clear hZ
              go_simp
              try with_reducible rfl
            simp only [Act.put, List.setIfInBounds_toArray, List.set_cons_zero, List.set_cons_succ]
            refine wq_free ?vv14 (by kernel_rfl) (fun Z hZ => ?yy14) ?rr14
            case yy14 =>
              obtain ⟨d0, d1, d2, d3, d4⟩ := hZ.five HC.out HM.out
              clear hZ
              go_simp
              try with_reducible rfl
            simp only [Act.put, List.setIfInBounds_toArray, List.set_cons_zero, List.set_cons_succ]
            refine wq_free ?vv15 (by kernel_rfl) (fun Z hZ => ?yy15) ?rr15
            case yy15 =>
              obtain ⟨d0, d1, d2, d3, d4⟩ := hZ.five HC.out HM.out
              clear hZ
              go_simp
              try with_reducible rfl
            simp only [Act.put, List.setIfInBounds_toArray, List.set_cons_zero, List.set_cons_succ]
            refine wq_free ?vv16 (by kernel_rfl) (fun Z hZ => ?yy16) ?rr16
            case yy16 =>
              obtain ⟨d0, d1, d2, d3, d4⟩ := hZ.five HC.out HM.out
              clear hZ
              go_simp
              try with_reducible rfl
            simp only [Act.put, List.setIfInBounds_toArray, List.set_cons_zero, List.set_cons_succ]
            refine wq_free ?vv17 (by kernel_rfl) (fun Z hZ => ?yy17) ?rr17
            case yy17 =>
              obtain ⟨d0, d1, d2, d3, d4⟩ := hZ.five HC.out HM.out
              clear hZ
              go_simp
              try with_reducible rfl
            simp only [Act.put, List.setIfInBounds_toArray, List.set_cons_zero, List.set_cons_succ]
            refine wq_free ?vv18 (by kernel_rfl) (fun Z hZ => ?yy18) ?rr18
            case yy18 =>
              obtain ⟨d0, d1, d2, d3, d4⟩ := hZ.five HC.out HM.out
              clear hZ
              go_simp
              try with_reducible rfl
            simp only [Act.put, List.setIfInBounds_toArray, List.set_cons_zero, List.set_cons_succ]
            refine wq_free ?vv19 (by kernel_rfl) (fun Z hZ => ?yy19) ?rr19
            case yy19 =>
              obtain ⟨d0, d1, d2, d3, d4⟩ := hZ.five HC.out HM.out
              clear hZ
              go_simp
              try with_reducible rfl
            simp only [Act.put, List.setIfInBounds_toArray, List.set_cons_zero, List.set_cons_succ]
            refine wq_free ?vv20 (by kernel_rfl) (fun Z hZ => ?yy20) ?rr20
            case yy20 =>
              obtain ⟨d0, d1, d2, d3, d4⟩ := hZ.five HC.out HM.out
              clear hZ
              go_simp
              try with_reducible rfl
            simp only [Act.put, List.setIfInBounds_toArray, List.set_cons_zero, List.set_cons_succ]
            refine wq_free ?vv21 (by kernel_rfl) (fun Z hZ => ?yy21) ?rr21
            case yy21 =>
              obtain ⟨d0, d1, d2, d3, d4⟩ := hZ.five HC.out HM.out
              clear hZ
              go_simp
              try with_reducible rfl
            simp only [Act.put, List.setIfInBounds_toArray, List.set_cons_zero, List.set_cons_succ]
            refine wq_free ?vv22 (by kernel_rfl) (fun Z hZ => ?yy22) ?rr22
            case yy22 =>
              obtain ⟨d0, d1, d2, d3, d4⟩ := hZ.five HC.out HM.out
              clear hZ
              go_simp
              try with_reducible rfl
            simp only [Act.put, List.setIfInBounds_toArray, List.set_cons_zero, List.set_cons_succ]
            refine wq_free ?vv23 (by kernel_rfl) (fun Z hZ => ?yy23) ?rr23
            case yy23 =>
              obtain ⟨d0, d1, d2, d3, d4⟩ := hZ.five HC.out HM.out
              clear hZ
              go_simp
              try with_reducible rfl
            simp only [Act.put, List.setIfInBounds_toArray, List.set_cons_zero, List.set_cons_succ]
            refine wq_free ?vv24 (by kernel_rfl) (fun Z hZ => ?yy24) ?rr24
            case yy24 =>
              obtain ⟨d0, d1, d2, d3, d4⟩ := hZ.five HC.out HM.out
              clear hZ
              go_simp
              try with_reducible rfl
            simp only [Act.put, List.setIfInBounds_toArray, List.set_cons_zero, List.set_cons_succ]
            refine wq_free ?vv25 (by kernel_rfl) (fun Z hZ => ?yy25) ?rr25
            case yy25 =>
              obtain ⟨d0, d1, d2, d3, d4⟩ := hZ.five HC.out HM.out
              clear hZ
              go_simp
              try with_reducible rfl
            simp only [Act.put, List.setIfInBounds_toArray, List.set_cons_zero, List.set_cons_succ]
            refine wq_call (.bool true) 21 ?gg26 (by kernel_rfl) (fun Z hZ => ?yy26) (fun Z hZ => ?cc26) ?rr26
            case yy26 =>
              clear hZ
              go_simp
              try with_reducible rfl
            case cc26 =>
              refine (same_p hZ HF.out).mono ?_
              rintro e w9 ⟨rfl, hZ9⟩; exact ⟨rfl, hZ9⟩
            simp only [Act.put, List.setIfInBounds_toArray, List.set_cons_zero, List.set_cons_succ]
            refine wq_free ?vv27 (by kernel_rfl) (fun Z hZ => ?yy27) ?rr27
            case yy27 =>
              obtain ⟨d0, d1, d2, d3, d4⟩ := hZ.five HC.out HM.out
              clear hZ
              go_simp
              try with_reducible rfl
            simp only [Act.put, List.setIfInBounds_toArray, List.set_cons_zero, List.set_cons_succ]
            refine wq_free ?vv28 (by kernel_rfl) (fun Z hZ => ?yy28) ?rr28
            case yy28 =>
              obtain ⟨d0, d1, d2, d3, d4⟩ := hZ.five HC.out HM.out
              clear hZ
              go_simp
              try with_reducible rfl
            simp only [Act.put, List.setIfInBounds_toArray, List.set_cons_zero, List.set_cons_succ]
            refine wq_free ?vv29 (by kernel_rfl) (fun Z hZ => ?yy29) ?rr29
            case yy29 =>
              obtain ⟨d0, d1, d2, d3, d4⟩ := hZ.five HC.out HM.out
              clear hZ
              go_simp
              try with_reducible rfl
            simp only [Act.put, List.setIfInBounds_toArray, List.set_cons_zero, List.set_cons_succ]
            refine wq_free ?vv30 (by kernel_rfl) (fun Z hZ => ?yy30) ?rr30
            case yy30 =>
              obtain ⟨d0, d1, d2, d3, d4⟩ := hZ.five HC.out HM.out
              clear hZ
              go_simp
              try with_reducible rfl
            simp only [Act.put, List.setIfInBounds_toArray, List.set_cons_zero, List.set_cons_succ]
            refine wq_free ?vv31 (by kernel_rfl) (fun Z hZ => ?yy31) ?rr31
            case yy31 =>
              obtain ⟨d0, d1, d2, d3, d4⟩ := hZ.five HC.out HM.out
              clear hZ
              go_simp
              try with_reducible rfl
            simp only [Act.put, List.setIfInBounds_toArray, List.set_cons_zero, List.set_cons_succ]
            refine wq_free ?vv32 (by kernel_rfl) (fun Z hZ => ?yy32) ?rr32
            case yy32 =>
              obtain ⟨d0, d1, d2, d3, d4⟩ := hZ.five HC.out HM.out
              clear hZ
              go_simp
              try with_reducible rfl
            simp only [Act.put, List.setIfInBounds_toArray, List.set_cons_zero, List.set_cons_succ]
            refine wq_free ?vv33 (by kernel_rfl) (fun Z hZ => ?yy33) ?rr33
            case yy33 =>
              obtain ⟨d0, d1, d2, d3, d4⟩ := hZ.five HC.out HM.out
              clear hZ
              go_simp
              try with_reducible rfl
            simp only [Act.put, List.setIfInBounds_toArray, List.set_cons_zero, List.set_cons_succ]
            refine wq_free ?vv34 (by kernel_rfl) (fun Z hZ => ?yy34) ?rr34
            case yy34 =>
              obtain ⟨d0, d1, d2, d3, d4⟩ := hZ.five HC.out HM.out
              clear hZ
              go_simp
              try with_reducible rfl
            simp only [Act.put, List.setIfInBounds_toArray, List.set_cons_zero, List.set_cons_succ]
            refine wq_free ?vv35 (by kernel_rfl) (fun Z hZ => ?yy35) ?rr35
            case yy35 =>
              obtain ⟨d0, d1, d2, d3, d4⟩ := hZ.five HC.out HM.out
              clear hZ
              go_simp
              try with_reducible rfl
            simp only [Act.put, List.setIfInBounds_toArray, List.set_cons_zero, List.set_cons_succ]
            refine wq_skip (by kernel_rfl) ?rr36
            simp only [Act.put, List.setIfInBounds_toArray, List.set_cons_zero, List.set_cons_succ]
            refine wq_skip (by kernel_rfl) ?rr37
            simp only [Act.put, List.setIfInBounds_toArray, List.set_cons_zero, List.set_cons_succ]
            refine wq_skip (by kernel_rfl) ?rr38
            simp only [Act.put, List.setIfInBounds_toArray, List.set_cons_zero, List.set_cons_succ]
            refine wq_skip (by kernel_rfl) ?rr39
            simp only [Act.put, List.setIfInBounds_toArray, List.set_cons_zero, List.set_cons_succ]
            refine wq_skip (by kernel_rfl) ?rr40
            simp only [Act.put, List.setIfInBounds_toArray, List.set_cons_zero, List.set_cons_succ]
            refine wq_skip (by kernel_rfl) ?rr41
            simp only [Act.put, List.setIfInBounds_toArray, List.set_cons_zero, List.set_cons_succ]
            refine wq_skip (by kernel_rfl) ?rr42
            simp only [Act.put, List.setIfInBounds_toArray, List.set_cons_zero, List.set_cons_succ]
            refine wq_skip (by kernel_rfl) ?rr43
            simp only [Act.put, List.setIfInBounds_toArray, List.set_cons_zero, List.set_cons_succ]
            refine wq_free ?vv44 (by kernel_rfl) (fun Z hZ => ?yy44) ?rr44
            case yy44 =>
              obtain ⟨d0, d1, d2, d3, d4⟩ := hZ.five HC.out HM.out
              clear hZ
              go_simp
              try with_reducible rfl
            simp only [Act.put, List.setIfInBounds_toArray, List.set_cons_zero, List.set_cons_succ]
            refine wq_free ?vv45 (by kernel_rfl) (fun Z hZ => ?yy45) ?rr45
            case yy45 =>
              obtain ⟨d0, d1, d2, d3, d4⟩ := hZ.five HC.out HM.out
              clear hZ
              go_simp
              try with_reducible rfl
            simp only [Act.put, List.setIfInBounds_toArray, List.set_cons_zero, List.set_cons_succ]
            refine wq_nil fun Z hZ => ?_
            go_wp2
            go_roundw
            case rel => exact hZ.rel (by omega : t + 1 ≤ n) HF.out HM.out
            case measure => simp [intOf]; omega
    · clear hr3
      have hb := h3.b
      clear h3
      go_wp2
      go_ret
      exact ⟨rfl, hb⟩
end Go.Proofs.Ytpkfdlmfcmiabaa.semPlays
