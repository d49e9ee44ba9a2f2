/-
  detentlaw13.DataPlays: the walk.
-/
import Derived.Test.YtnbepahanhcmeaaPlT
namespace Go.Proofs.Ytnbepahanhcmeaa.dataPlays
open Go.RowKit
set_option linter.unusedVariables false

def Post (w : World) (e : Ending) (w' : World) : Prop := e = .returned (.bool true) ∧ Below w.heap.size w w'

def PlRel (m p r n : Nat) (w : World) (sv i : Value) (wr : World) : Prop :=
  ∃ (s t : Nat) (v u : Value) (S : St), t ≤ n ∧ sv = .pointer (some ⟨s, 0, none⟩) ∧ i = .int .i64 (t : Int) ∧ At w s v S wr ∧ Rf wr w.heap.size m p r u S ∧ ∀ g, u.ownBlock = some g → v.ownBlock ≠ some g
theorem Pl.rel {w W : World} {a s m p r n t : Nat} {x0 x1 x2 x3 : Int} {v u : Value} {S : St} (h : Pl w a x0 x1 x2 x3 s v S m p r u S W) (ht : t ≤ n) : PlRel m p r n w (.pointer (some ⟨s, 0, none⟩)) (.int .i64 (t : Int)) W :=
  ⟨s, t, v, u, S, ht, rfl, rfl, h.at_, h.rf, h.ap⟩

set_option maxHeartbeats 800000 in
set_option maxRecDepth 100000 in
theorem walkOut (bp : Bool) (mo : Int) (A : Option Addr) (n cap : Nat) (w : World) (hn : n ≤ 9223372036854775807) (h : ¬ n ≤ 100) : Calls Try.prog 3 #[.bool bp, .int .i64 mo, .slice A n cap] w (Post w) := by
  have t1 : (100 : Int) < (n : Int) := by omega
  have t2 : 100 < n := by omega
  go_enter Try.func3, Try.ntmps3
  go_wp2_with fail
  refine (known_ok _).mono ?_
  rintro e w0 ⟨rfl, hb0⟩
  go_wp2
  go_ret
  exact ⟨rfl, hb0⟩

set_option maxHeartbeats 800000 in
set_option maxRecDepth 100000 in
theorem walkBad (bp : Bool) (mo : Int) (A : Option Addr) (n cap : Nat) (w : World) (h : n ≤ 100) (hm : mo < 0 ∨ 64 < mo) : Calls Try.prog 3 #[.bool bp, .int .i64 mo, .slice A n cap] w (Post w) := by
  have t1 : decide ((100 : Int) < (n : Int)) = false := by simp; omega
  have t2 : decide (100 < n) = false := by simp; omega
  have HM := Lib.hid hm
  clear hm
  go_enter Try.func3, Try.ntmps3
  go_wp2_with fail
  refine (known_ok _).mono ?_
  rintro e w0 ⟨rfl, hb0⟩
  have HB := Lib.hid hb0
  clear hb0
  go_wp2_with fail
  refine (dnew_bad bp mo HM.out w0).mono ?_
  rintro e w1 ⟨rfl, rfl⟩
  go_wp2_with fail
  refine (rnew_bad bp mo HM.out w0).mono ?_
  rintro e w1 ⟨rfl, rfl⟩
  go_wp2
  go_ret
  exact ⟨rfl, HB.out⟩

set_option maxHeartbeats 25600000 in
set_option maxRecDepth 100000 in
theorem walkIn (bp : Bool) (mo : Nat) (n cap b o : Nat) (A : Option Addr) (op id pri dat : Nat → Int) (w : World)
    (hA : 0 < n → A = some ⟨b, o, none⟩ ∧ Acts w b o n op id pri dat) (hn : n ≤ 100) (hm : mo ≤ 64) :
    Calls Try.prog 3 #[.bool bp, .int .i64 (mo : Int), .slice A n cap] w (Post w) := by
  have t1 : decide ((100 : Int) < (n : Int)) = false := by simp; omega
  have t2 : decide (100 < n) = false := by simp; omega
  have HA := Lib.hid hA
  have HM := Lib.hid hm
  have hni : (n : Int) ≤ 100 := by omega
  clear hA hm
  go_enter Try.func3, Try.ntmps3
  go_wp2_with fail
  refine (known_ok _).mono ?_
  rintro e w0 ⟨rfl, hb0⟩
  have HNew := Lib.hid (new_at w w0 bp mo HM.out hb0)
  clear hb0
  go_wp2_with fail
  refine HNew.out.mono ?_
  rintro e w1 ⟨s, v, rfl, h1, _, _, _⟩
  have HA1 := Lib.hid h1
  have HRN := Lib.hid (rnew_ok bp mo HM.out w1)
  clear h1 HNew
  go_wp2_with fail
  refine HRN.out.mono ?_
  rintro e w2 ⟨m, p, r, rfl, hr2, hk2⟩
  have hb1 := HA1.out.b.size
  have HA2 := Lib.hid (HA1.out.below hk2)
  have HR2 := Lib.hid (show Rf w2 w.heap.size m p r (.slice none 0 0) (st0 bp mo) from ⟨hr2.d, hr2.s, hr2.q, K.own_base hr2.o hb1, hr2.n, Nat.le_trans hb1 hr2.bm, Nat.le_trans hb1 hr2.bp, Nat.le_trans hb1 hr2.br⟩)
  clear HA1 HRN hr2 hk2 hb1 t1 t2
  go_wp2
  go_loopw [7, 11] (fun sv i wr => PlRel m p r n w sv i wr) (fun _ i _ => n - (intOf i).toNat)
  case atStart => exact ⟨s, 0, v, _, _, Nat.zero_le _, rfl, rfl, HA2.out, HR2.out, fun g e => by cases e⟩
  case round =>
    clear HA2 HR2
    obtain ⟨s, t, v, u, S, ht, rfl, rfl, h3, hr3, hap⟩ := hrel
    by_cases hlt : t < n
    · have hlt' : (t : Int) < (n : Int) := by omega
      obtain ⟨rfl, hac⟩ := HA.out (by omega)
      have hlb := hac.hlt t hlt
      have k0 := (h3.b.cell (p := ⟨b, o + t * 4, none⟩) hlb).trans (hac.c0 t hlt)
      have k1 := (h3.b.cell (p := ⟨b, o + t * 4 + 1, none⟩) hlb).trans (hac.c1 t hlt)
      have k2 := (h3.b.cell (p := ⟨b, o + t * 4 + 2, none⟩) hlb).trans (hac.c2 t hlt)
      have k3 := (h3.b.cell (p := ⟨b, o + t * 4 + 3, none⟩) hlb).trans (hac.c3 t hlt)
      clear hac hlb
      generalize op t = x0 at *
      generalize id t = x1 at *
      generalize pri t = x2 at *
      generalize dat t = x3 at *
      have HP := Lib.hid (show Pl w wr.heap.size x0 x1 x2 x3 s v S m p r u S (wr.alloc (.cells #[.int .i64 x0, .int .i64 x1, .int .i64 x2, .int .i64 x3] 32)) from
        ⟨h3.below ((Below.refl _ _).alloc (Nat.le_refl _) _), hr3.below ((Below.refl _ _).alloc (Nat.le_refl _) _), hap, heap_alloc_new _ _⟩)
      clear h3 hr3 hap
      by_cases hop1 : x0 = 1
      · have hop := hop1
        clear hop1
        subst hop
        as_aux_lemma =>
          obtain ⟨S', k, c, e, hs⟩ : ∃ S' k c e, send S x1 x2 x3 = (S', k, c, e) := ⟨_, _, _, _, rfl⟩
          have HS := Lib.hid hs
          have HF := Lib.hid HP.out.at_.f
          clear hs
          have j1 := HP.out.k1
          have j2 := HP.out.k2
          have j3 := HP.out.k3
          go_wp2_with fail
          refine (send_p HP.out HS.out).mono ?_
          rintro en w5 ⟨rfl, v5, h5⟩
          have HP5 := Lib.hid h5
          clear h5 j1 j2 j3
          have j1 := HP5.out.k1
          have j2 := HP5.out.k2
          have j3 := HP5.out.k3
          go_wp2_with fail
          refine (send_d HP5.out HF.out HS.out).mono ?_
          rintro en w6 ⟨rfl, u6, h6⟩
          have HP9 := Lib.hid h6
          clear h6 j1 j2 j3
          have qk : (k != k) = false := by simp
          have qc : (c != c) = false := by simp
          have qe : (e != e) = false := by simp
          go_wp2_with fail
          refine (same_p HP9.out).mono ?_
          rintro en w9 ⟨rfl, hb9⟩
          have HP10 := Lib.hid (HP9.out.below hb9)
          clear hb9 HP9
          go_wp2
          exact ⟨HP10.out.rel (by omega : t + 1 ≤ n), by simp [intOf]; omega⟩
      by_cases hop2 : x0 = 2
      · have hop := hop2
        clear hop2 hop1
        subst hop
        as_aux_lemma =>
          obtain ⟨S', k, c, hs⟩ : ∃ S' k c, trySend S x3 = (S', k, c) := ⟨_, _, _, rfl⟩
          have HS := Lib.hid hs
          have HF := Lib.hid HP.out.at_.f
          clear hs
          have j3 := HP.out.k3
          go_wp2_with fail
          refine (trySend_p HP.out HS.out).mono ?_
          rintro en w5 ⟨rfl, v5, h5⟩
          have HP5 := Lib.hid h5
          clear h5 j3
          have j3 := HP5.out.k3
          go_wp2_with fail
          refine (trySend_d HP5.out HF.out HS.out).mono ?_
          rintro en w6 ⟨rfl, u6, h6⟩
          have HP9 := Lib.hid h6
          clear h6 j3
          have qk : (k != k) = false := by simp
          have qc : (c != c) = false := by simp
          go_wp2_with fail
          refine (same_p HP9.out).mono ?_
          rintro en w9 ⟨rfl, hb9⟩
          have HP10 := Lib.hid (HP9.out.below hb9)
          clear hb9 HP9
          go_wp2
          exact ⟨HP10.out.rel (by omega : t + 1 ≤ n), by simp [intOf]; omega⟩
      by_cases hop3 : x0 = 3
      · have hop := hop3
        clear hop3 hop1 hop2
        subst hop
        as_aux_lemma =>
          obtain ⟨S', c, e, hs⟩ : ∃ S' c e, force S x3 = (S', c, e) := ⟨_, _, _, rfl⟩
          have HS := Lib.hid hs
          have HF := Lib.hid HP.out.at_.f
          clear hs
          have j3 := HP.out.k3
          go_wp2_with fail
          refine (force_p HP.out HS.out).mono ?_
          rintro en w5 ⟨rfl, v5, h5⟩
          have HP5 := Lib.hid h5
          clear h5 j3
          have j3 := HP5.out.k3
          go_wp2_with fail
          refine (force_d HP5.out HF.out HS.out).mono ?_
          rintro en w6 ⟨rfl, u6, h6⟩
          have HP9 := Lib.hid h6
          clear h6 j3
          have qc : (c != c) = false := by simp
          have qe : (e != e) = false := by simp
          go_wp2_with fail
          refine (same_p HP9.out).mono ?_
          rintro en w9 ⟨rfl, hb9⟩
          have HP10 := Lib.hid (HP9.out.below hb9)
          clear hb9 HP9
          go_wp2
          exact ⟨HP10.out.rel (by omega : t + 1 ≤ n), by simp [intOf]; omega⟩
      by_cases hop4 : x0 = 4
      · have hop := hop4
        clear hop4 hop1 hop2 hop3
        subst hop
        as_aux_lemma =>
          obtain ⟨S', d, k, c, e, hs⟩ : ∃ S' d k c e, recv S x1 x2 = (S', d, k, c, e) := ⟨_, _, _, _, _, rfl⟩
          have HS := Lib.hid hs
          have HF := Lib.hid HP.out.at_.f
          clear hs
          have j1 := HP.out.k1
          have j2 := HP.out.k2
          go_wp2_with fail
          refine (recv_p HP.out HS.out).mono ?_
          rintro en w5 ⟨rfl, v5, h5⟩
          have bx := box3_new w5 44 (.int .i64 d) (.bool k) (.int .i64 c)
          have HP5 := Lib.hid (h5.below (show Below w5.heap.size w5 (w5.alloc (.cells #[.int .i64 d, .bool k, .int .i64 c] 44)) from (Below.refl _ _).alloc (Nat.le_refl _) _))
          have BX := Lib.hid bx
          clear h5 bx j1 j2
          have j1 := HP5.out.k1
          have j2 := HP5.out.k2
          go_wp2_with fail
          generalize w5.alloc _ = w7 at *
          refine (recv_d HP5.out HF.out HS.out).mono ?_
          rintro en w6 ⟨rfl, u6, h6, hkeep⟩
          have BX6 := Lib.hid (BX.out.keep (hkeep _ _ BX.out))
          have hb : Below w6.heap.size w6 (w6.alloc (.cells #[.int .i64 d, .bool k, .int .i64 c] 47)) := (Below.refl _ _).alloc (Nat.le_refl _) _
          have HP8 := Lib.hid (h6.below hb)
          have bx := BX6.out.below hb
          have by_ := box3_new w6 47 (.int .i64 d) (.bool k) (.int .i64 c)
          have g0 := bx.c0
          have g1 := bx.c1
          have g2 := bx.c2
          have f0 := by_.c0
          have f1 := by_.c1
          have f2 := by_.c2
          have qe : (e != e) = false := by simp
          clear h6 hkeep hb bx by_ j1 j2 BX BX6 HP5
          go_wp2_with fail
          generalize w6.alloc _ = w8 at *
          refine (got_ok d c k w8).mono ?_
          rintro en wg ⟨rfl, hbg⟩
          have HP9 := Lib.hid (HP8.out.below hbg)
          clear hbg HP8 g0 g1 g2 f0 f1 f2
          go_wp2_with fail
          refine (same_p HP9.out).mono ?_
          rintro en w9 ⟨rfl, hb9⟩
          have HP10 := Lib.hid (HP9.out.below hb9)
          clear hb9 HP9
          go_wp2
          exact ⟨HP10.out.rel (by omega : t + 1 ≤ n), by simp [intOf]; omega⟩
      by_cases hop5 : x0 = 5
      · have hop := hop5
        clear hop5 hop1 hop2 hop3 hop4
        subst hop
        as_aux_lemma =>
          obtain ⟨S', d, k, c, hs⟩ : ∃ S' d k c, tryRecv S = (S', d, k, c) := ⟨_, _, _, _, rfl⟩
          have HS := Lib.hid hs
          have HF := Lib.hid HP.out.at_.f
          clear hs
          go_wp2_with fail
          refine (tryRecv_p HP.out HS.out).mono ?_
          rintro en w5 ⟨rfl, v5, h5⟩
          have HP5 := Lib.hid h5
          clear h5
          go_wp2_with fail
          refine (tryRecv_d HP5.out HF.out HS.out).mono ?_
          rintro en w6 ⟨rfl, u6, h6⟩
          have HP8 := Lib.hid h6
          clear h6 HP5
          go_wp2_with fail
          refine (got_ok d c k w6).mono ?_
          rintro en wg ⟨rfl, hbg⟩
          have HP9 := Lib.hid (HP8.out.below hbg)
          clear hbg HP8
          go_wp2_with fail
          refine (same_p HP9.out).mono ?_
          rintro en w9 ⟨rfl, hb9⟩
          have HP10 := Lib.hid (HP9.out.below hb9)
          clear hb9 HP9
          go_wp2
          exact ⟨HP10.out.rel (by omega : t + 1 ≤ n), by simp [intOf]; omega⟩
      by_cases hop6 : x0 = 6
      · have hop := hop6
        clear hop6 hop1 hop2 hop3 hop4 hop5
        subst hop
        as_aux_lemma =>
          obtain ⟨S', k, hs⟩ : ∃ S' k, drop S x1 = (S', k) := ⟨_, _, rfl⟩
          have HS := Lib.hid hs
          have HF := Lib.hid HP.out.at_.f
          have qk : (k != k) = false := by simp
          clear hs
          have j1 := HP.out.k1
          go_wp2_with fail
          go_region_held3 (fun W => W.cell? ⟨wr.heap.size, 1, none⟩ = some (.int .i64 x1) ∧ True)
            (first | exact ⟨h6.k1, trivial⟩ | exact ⟨h5.k1, trivial⟩ | exact ⟨j1, trivial⟩ | assumption)
            (first
              | (go_at_call 24; refine (drop_d h5 HF.out HS.out).mono ?_; rintro en w6 ⟨rfl, h6⟩)
              | (go_at_call 23; refine (drop_p HP.out.drew HS.out).mono ?_; rintro en w5 ⟨rfl, h5⟩))
          all_goals
            have HP9 := Lib.hid h6
            clear h5 h6 j1
            go_wp2_with fail
            refine (same_p HP9.out).mono ?_
            rintro en w9 ⟨rfl, hb9⟩
            have HP10 := Lib.hid (HP9.out.below hb9)
            clear hb9 HP9
            go_wp2
            exact ⟨HP10.out.rel (by omega : t + 1 ≤ n), by simp [intOf]; omega⟩
      by_cases hop7 : x0 = 7
      · have hop := hop7
        clear hop7 hop1 hop2 hop3 hop4 hop5 hop6
        subst hop
        as_aux_lemma =>
          obtain ⟨S', k, hs⟩ : ∃ S' k, change S x1 x2 = (S', k) := ⟨_, _, rfl⟩
          have HS := Lib.hid hs
          have HF := Lib.hid HP.out.at_.f
          have qk : (k != k) = false := by simp
          clear hs
          have j1 := HP.out.k1
          have j2 := HP.out.k2
          go_wp2_with fail
          go_region_held3 (fun W => W.cell? ⟨wr.heap.size, 1, none⟩ = some (.int .i64 x1) ∧ W.cell? ⟨wr.heap.size, 2, none⟩ = some (.int .i64 x2))
            (first | exact ⟨h6.k1, h6.k2⟩ | exact ⟨h5.k1, h5.k2⟩ | exact ⟨j1, j2⟩ | assumption)
            (first
              | (go_at_call 26; refine (change_d h5 HF.out HS.out).mono ?_; rintro en w6 ⟨rfl, h6⟩)
              | (go_at_call 25; refine (change_p HP.out.drew HS.out).mono ?_; rintro en w5 ⟨rfl, h5⟩))
          all_goals
            have HP9 := Lib.hid h6
            clear h5 h6 j1 j2
            go_wp2_with fail
            refine (same_p HP9.out).mono ?_
            rintro en w9 ⟨rfl, hb9⟩
            have HP10 := Lib.hid (HP9.out.below hb9)
            clear hb9 HP9
            go_wp2
            exact ⟨HP10.out.rel (by omega : t + 1 ≤ n), by simp [intOf]; omega⟩
      by_cases hop8 : x0 = 8
      · have hop := hop8
        clear hop8 hop1 hop2 hop3 hop4 hop5 hop6 hop7
        subst hop
        as_aux_lemma =>
          have HF := Lib.hid HP.out.at_.f
          have HAP := Lib.hid HP.out.ap
          go_wp2_with fail
          refine (twin_p HP.out).mono ?_
          rintro en w5 ⟨s', v', rfl, h5, hq5, e1, e2, e3, e4⟩
          obtain ⟨T', c, e, hs⟩ : ∃ T' c e, force S (-1) = (T', c, e) := ⟨_, _, _, rfl⟩
          have HO := Lib.hid (force_old h5 hq5 HF.out e1 e2 e3 e4 HAP.out hs)
          clear h5 hq5 e1 e2 e3 e4 hs
          go_wp2_with fail
          refine HO.out.mono ?_
          rintro en w6 ⟨rfl, h6⟩
          have HP9 := Lib.hid h6
          clear h6 HO
          go_wp2_with fail
          refine (same_p HP9.out).mono ?_
          rintro en w9 ⟨rfl, hb9⟩
          have HP10 := Lib.hid (HP9.out.below hb9)
          clear hb9 HP9
          go_wp2
          exact ⟨HP10.out.rel (by omega : t + 1 ≤ n), by simp [intOf]; omega⟩
      as_aux_lemma =>
        have f1 : (x0 == 1) = false := by simpa using hop1
        have f2 : (x0 == 2) = false := by simpa using hop2
        have f3 : (x0 == 3) = false := by simpa using hop3
        have f4 : (x0 == 4) = false := by simpa using hop4
        have f5 : (x0 == 5) = false := by simpa using hop5
        have f6 : (x0 == 6) = false := by simpa using hop6
        have f7 : (x0 == 7) = false := by simpa using hop7
        have f8 : (x0 == 8) = false := by simpa using hop8
        clear hop1 hop2 hop3 hop4 hop5 hop6 hop7 hop8
        have HP9 := HP
        go_wp2_with fail
        refine (same_p HP9.out).mono ?_
        rintro en w9 ⟨rfl, hb9⟩
        have HP10 := Lib.hid (HP9.out.below hb9)
        clear hb9 HP9
        go_wp2
        exact ⟨HP10.out.rel (by omega : t + 1 ≤ n), by simp [intOf]; omega⟩
    · have HB := Lib.hid h3.b
      clear h3 hr3 hap
      go_wp2
      go_ret
      exact ⟨rfl, HB.out⟩
end Go.Proofs.Ytnbepahanhcmeaa.dataPlays
