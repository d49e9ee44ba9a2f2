/-
  detentlaw15.MutexPlays: the walk.
-/
import Derived.Test.YtmicinenggkmlaaPlS
import Derived.Deep.CutBlock
namespace Go.Proofs.Ytmicinenggkmlaa.mutexPlays
open Go.RowKit
set_option linter.unusedVariables false

def Post (w : World) (e : Ending) (w' : World) : Prop := e = .returned (.bool true) ∧ Below w.heap.size w w'
def PlRel (m gk go gq : Nat) (r : Nat → Nat) (N : Nat) (w : World) (bv i : Value) (wr : World) : Prop :=
  ∃ (a g : Nat) (q : Nat → Nat) (t : Nat) (S : St), t ≤ N ∧ bv = PtrV a ∧ i = .int .i64 (t : Int) ∧ At w a g q S wr ∧ Rd wr m gk go gq r S ∧ ∀ j, Zd m go r S.n j → w.heap.size ≤ j
def CutRel (w : World) (b : Nat) (x0 x1 x2 x3 : Int) (m gk go gq : Nat) (r : Nat → Nat) (bv : Value) (W : World) : Prop :=
  ∃ (a g : Nat) (q : Nat → Nat) (S : St), bv = PtrV a ∧ Pl w b x0 x1 x2 x3 a g q S m gk go gq r S W

set_option maxHeartbeats 1600000 in
set_option maxRecDepth 100000 in
theorem walkOut (X : Option Addr) (k nk : Nat) (A : Option Addr) (n cap : Nat) (w : World) (hn : n ≤ 9223372036854775807) (hk : nk ≤ 9223372036854775807) (h : 80 < n ∨ 20 < nk) : Calls Try.prog 3 #[.slice X nk k, .slice A n cap] w (Post w) := by
  by_cases h1 : 80 < n
  · have t1 : (80 : Int) < (n : Int) := by omega
    have t2 := decide_eq_true t1
    go_enter Try.func3, Try.ntmps3
    go_wp2_with fail
    refine (known_ok _).mono ?_
    rintro e w0 ⟨rfl, hb0⟩
    go_wp2
    go_ret
    exact ⟨rfl, hb0⟩
  · have t1 : decide ((80 : Int) < (n : Int)) = false := by simp; omega
    have t2 : ¬ (80 : Int) < (n : Int) := by omega
    have t3 : (20 : Int) < (nk : Int) := by omega
    have t4 := decide_eq_true t3
    clear h
    go_enter Try.func3, Try.ntmps3
    go_wp2_with fail
    refine (known_ok _).mono ?_
    rintro e w0 ⟨rfl, hb0⟩
    go_wp2
    go_ret
    exact ⟨rfl, hb0⟩

theorem new_no (X : Option Addr) (k : Nat) (L : List (Int × Int)) (w : World) (hs : 0 < L.length → K.Sr K.ck w X k L) (hl : L.length ≤ 20) (h : 8 < L.length ∨ badK L) :
    Calls Try.prog 11 #[.slice X L.length k] w fun e w' => e = .returned (.tuple #[.pointer none, .int .i64 (-17)]) ∧ Below w.heap.size w w' := by
  by_cases c : 8 < L.length
  · refine (new_few X k L w c (by omega)).mono ?_
    rintro e w' ⟨rfl, rfl⟩
    exact ⟨rfl, Below.refl _ _⟩
  · refine (new_any X k L w (by omega) hs).mono ?_
    rintro e w' ⟨hb, ⟨_, rfl⟩ | ⟨hall, _⟩⟩
    · exact ⟨rfl, hb⟩
    · rcases h with h | ⟨x, hx, hbad⟩
      · exact absurd h c
      · exact absurd (hall x hx) hbad
theorem rnew_no (v0 : Value) (L : List (Int × Int)) (w : World) (B0 : Nat) (hs : w.ownsRow B0 75 2 v0 L.length (K.vals K.ck L)) (hl : L.length ≤ 20) (h : 8 < L.length ∨ badK L) :
    Calls Try.prog 12 #[v0] w fun e w' => e = .returned (.tuple #[.pointer none, .int .i64 (-17)]) ∧ Below w.heap.size w w' := by
  by_cases c : 8 < L.length
  · obtain ⟨X, k, rfl, _, _⟩ := K.own_form hs
    refine (rnew_few X k L.length w c (by omega)).mono ?_
    rintro e w' ⟨rfl, rfl⟩
    exact ⟨rfl, Below.refl _ _⟩
  · refine (rnew_any v0 L w B0 (by omega) hs).mono ?_
    rintro e w' ⟨hb, ⟨_, rfl⟩ | ⟨hall, _⟩⟩
    · exact ⟨rfl, hb⟩
    · rcases h with h | ⟨x, hx, hbad⟩
      · exact absurd h c
      · exact absurd (hall x hx) hbad

set_option maxHeartbeats 1600000 in
set_option maxRecDepth 100000 in
theorem walkBad (X : Option Addr) (k : Nat) (L : List (Int × Int)) (A : Option Addr) (n cap : Nat) (w : World) (hs : 0 < L.length → K.Sr K.ck w X k L) (hn : n ≤ 80) (hl : L.length ≤ 20) (h : 8 < L.length ∨ badK L) :
    Calls Try.prog 3 #[.slice X L.length k, .slice A n cap] w (Post w) := by
  have t1 : decide ((80 : Int) < (n : Int)) = false := by simp; omega
  have t2 : ¬ (80 : Int) < (n : Int) := by omega
  have HS := Lib.hid hs
  have HH := Lib.hid h
  have HL := Lib.hid hl
  have HNO := Lib.hid (fun W hW => new_no X k L W hW hl h)
  have HKI := Lib.hid (fun W hW => kinds_any X k L W (by omega) hW)
  obtain ⟨nk, hnk⟩ : ∃ nk, L.length = nk := ⟨_, rfl⟩
  rw [hnk] at HNO HKI HL ⊢
  have HNK := Lib.hid hnk
  have hl2 := HL.out
  have t3 : decide ((20 : Int) < (nk : Int)) = false := by simp; omega
  have t4 : ¬ (20 : Int) < (nk : Int) := by omega
  clear hs h hl hnk
  go_enter Try.func3, Try.ntmps3
  go_wp2_with fail
  refine (known_ok _).mono ?_
  rintro e w0 ⟨rfl, hb0⟩
  have HB0 := Lib.hid hb0
  have HS0 := Lib.hid (show 0 < L.length → K.Sr K.ck w0 X k L from fun h0 => (HS.out h0).below hb0)
  clear hb0
  go_wp2_with fail
  refine (HNO.out w0 (by have := HS0.out; rw [HNK.out] at this; exact this)).mono ?_
  rintro e w1 ⟨rfl, hb1⟩
  have HB1 := Lib.hid (HB0.out.trans (hb1.mono HB0.out.size))
  have HS1 := Lib.hid (show 0 < L.length → K.Sr K.ck w1 X k L from fun h0 => (HS0.out h0).below hb1)
  clear hb1
  go_wp2_with fail
  refine (HKI.out w1 (by have := HS1.out; rw [HNK.out] at this; exact this)).mono ?_
  rintro e w2 ⟨vk, rfl, hok, hb2⟩
  have HB2 := Lib.hid (HB1.out.trans (hb2.mono HB1.out.size))
  have HOK := Lib.hid hok
  obtain ⟨XK, kK, rfl, _, _⟩ := K.own_form hok
  clear hok hb2
  go_wp2_with fail
  refine (rnew_no _ L w2 _ (by rw [HNK.out]; exact HOK.out) (by rw [HNK.out]; exact HL.out) HH.out).mono ?_
  rintro e w3 ⟨rfl, hb3⟩
  have HB3 := Lib.hid (HB2.out.trans (hb3.mono HB2.out.size))
  clear hb3
  go_wp2
  go_ret
  exact ⟨rfl, HB3.out⟩

set_option maxHeartbeats 25600000 in
set_option maxRecDepth 100000 in
theorem walkIn (X : Option Addr) (k : Nat) (L : List (Int × Int)) (N cap b o : Nat) (A : Option Addr) (op id pri dat : Nat → Int) (w : World) (hs : 0 < L.length → K.Sr K.ck w X k L)
    (hA : 0 < N → A = some ⟨b, o, none⟩ ∧ Acts w b o N op id pri dat) (hN : N ≤ 80) (hl : L.length ≤ 8) (hall : allK L) :
    Calls Try.prog 3 #[.slice X L.length k, .slice A N cap] w (Post w) := by
  have t1 : decide ((80 : Int) < (N : Int)) = false := by simp; omega
  have t2 : ¬ (80 : Int) < (N : Int) := by omega
  have HA := Lib.hid hA
  have hni : (N : Int) ≤ 80 := by omega
  have HS := Lib.hid hs
  have HALL := Lib.hid hall
  have HL := Lib.hid hl
  have HNO := Lib.hid (fun W hW => new_any X k L W hl hW)
  have HKI := Lib.hid (fun W hW => kinds_any X k L W (by omega) hW)
  have HKF := Lib.hid (kfine hl hall)
  obtain ⟨nk, hnk⟩ : ∃ nk, L.length = nk := ⟨_, rfl⟩
  rw [hnk] at HNO HKI HL HKF ⊢
  have HNK := Lib.hid hnk
  have hl2 := HL.out
  have t3 : decide ((20 : Int) < (nk : Int)) = false := by simp; omega
  have t4 : ¬ (20 : Int) < (nk : Int) := by omega
  clear hA hs hall hl hnk
  go_enter Try.func3, Try.ntmps3
  go_wp2_with fail
  refine (known_ok _).mono ?_
  rintro e w0 ⟨rfl, hb0⟩
  have HB0 := Lib.hid hb0
  have HS0 := Lib.hid (show 0 < L.length → K.Sr K.ck w0 X k L from fun h0 => (HS.out h0).below hb0)
  clear hb0
  go_wp2_with fail
  refine (HNO.out w0 (by have := HS0.out; rw [HNK.out] at this; exact this)).mono ?_
  rintro e w1 ⟨hb1, ⟨⟨x, hx, hbad⟩, _⟩ | ⟨_, a, g, q, rfl, hx1, ga, gg, gq1⟩⟩
  · exact absurd (HALL.out x hx) hbad
  have hb01 := HB0.out.size
  have HA1 := Lib.hid (show At w a g q (St.new nk (kA L) (kC L)) w1 from ⟨by omega, by omega, fun i hi => Nat.le_trans hb01 (gq1 i hi), hx1, HKF.out, HB0.out.trans (hb1.mono hb01)⟩)
  have HS1 := Lib.hid (show 0 < L.length → K.Sr K.ck w1 X k L from fun h0 => (HS0.out h0).below hb1)
  clear hb1 hx1 ga gg gq1
  go_wp2_with fail
  refine (HKI.out w1 (by have := HS1.out; rw [HNK.out] at this; exact this)).mono ?_
  rintro e w2 ⟨vk, rfl, hok, hb2⟩
  have HA2 := Lib.hid (HA1.out.below hb2)
  have HOK := Lib.hid hok
  obtain ⟨XK, kK, rfl, _, _⟩ := K.own_form hok
  clear hok hb2
  go_wp2_with fail
  refine (rnew_any _ L w2 _ (by rw [HNK.out]; exact HL.out) (by rw [HNK.out]; exact HOK.out)).mono ?_
  rintro e w3 ⟨hb3, ⟨⟨x, hx, hbad⟩, _⟩ | ⟨_, m, gk, go, gq, r, rfl, hrd, hm1, hm2, hm3⟩⟩
  · exact absurd (HALL.out x hx) hbad
  rw [HNK.out] at hrd hm3
  have hb02 := HA2.out.b.size
  have HA3 := Lib.hid (HA2.out.below hb3)
  have HR3 := Lib.hid hrd
  have HZD := Lib.hid (show ∀ k, Zd m go r nk k → w.heap.size ≤ k from fun k hk => by
    rcases hk with rfl | ⟨_, rfl⟩ | ⟨i, hi, rfl⟩
    · omega
    · omega
    · exact Nat.le_trans hb02 (hm3 i hi))
  clear hb3 hrd hm1 hm2 hm3 hb02 hb01
  go_wp2
  go_loopw [5, 9] (fun bv i wr => PlRel m gk go gq r N w bv i wr) (fun _ i _ => N - (intOf i).toNat)
  case atStart => exact ⟨a, g, q, 0, _, Nat.zero_le _, rfl, rfl, HA3.out, HR3.out, HZD.out⟩
  case round =>
    clear HA3 HR3 HA2 HA1
    obtain ⟨a, g, q, t, S, ht, rfl, rfl, h3, hr3, hSn⟩ := hrel
    by_cases hlt : t < N
    · have hlt' : (t : Int) < (N : Int) := by omega
      obtain ⟨rfl, hac⟩ := HA.out (by omega)
      have hlb := hac.hlt t hlt
      have k0 := (h3.b.cell (p := ⟨b, o + t * 4, none⟩) hlb).trans (hac.c0 t hlt)
      have k1 := (h3.b.cell (p := ⟨b, o + t * 4 + 1, none⟩) hlb).trans (hac.c1 t hlt)
      have k2 := (h3.b.cell (p := ⟨b, o + t * 4 + 2, none⟩) hlb).trans (hac.c2 t hlt)
      have k3 := (h3.b.cell (p := ⟨b, o + t * 4 + 3, none⟩) hlb).trans (hac.c3 t hlt)
      clear hac hlb
      generalize op t = x0 at *
      generalize id t = x1 at *
      generalize pri t = x2 at *
      generalize dat t = x3 at *
      have hP : Pl w wr.heap.size x0 x1 x2 x3 a g q S m gk go gq r S (wr.alloc (.cells #[.int .i64 x0, .int .i64 x1, .int .i64 x2, .int .i64 x3] 35)) :=
        ⟨h3.below ((Below.refl _ _).alloc (Nat.le_refl _) _), hr3.below ((Below.refl _ _).alloc (Nat.le_refl _) _), h3.f, heap_alloc_new _ _, hSn⟩
      clear h3 hr3 hSn
      go_upto_block 2 with fail
      generalize wr.alloc (.cells #[.int .i64 x0, .int .i64 x1, .int .i64 x2, .int .i64 x3] 35) = w4 at *
      obtain ⟨b, hbb⟩ : ∃ b, wr.heap.size = b := ⟨_, rfl⟩
      rw [hbb] at hP ⊢
      have HP := Lib.hid hP
      clear k0 k1 k2 k3 hP hbb
      go_cut [5] from 58 to 209 (fun s5 wx => CutRel w b x0 x1 x2 x3 m gk go gq r s5 wx)
      case first =>
        by_cases hop1 : x0 = 1
        · have hop := hop1
          clear hop1
          subst hop
          as_aux_lemma =>
            obtain ⟨S', o, c, hs⟩ : ∃ S' o c, lockL S x1 x2 = (S', o, c) := ⟨_, _, _, rfl⟩
            have HS := Lib.hid hs
            clear hs
            obtain ⟨j0, j1, j2, j3⟩ := HP.out.cl.cells
            go_wp2_with fail
            refine (lock_p HP.out HS.out).mono ?_
            rintro en w5 ⟨rfl, h5⟩
            have HP5 := Lib.hid h5
            clear h5 j0 j1 j2 j3
            obtain ⟨j0, j1, j2, j3⟩ := HP5.out.cl.cells
            go_wp2_with fail
            refine (lock_d HP5.out HS.out).mono ?_
            rintro en w6 ⟨rfl, h6⟩
            have HP6 := Lib.hid h6
            clear h6 j0 j1 j2 j3
            have e_o : (o != o) = false := by simp
            have e_c : (c != c) = false := by simp
            go_wp2
            go_meet
            exact ⟨a, g, q, S', rfl, HP6.out⟩
        by_cases hop2 : x0 = 2
        · have hop := hop2
          clear hop1 hop2
          subst hop
          as_aux_lemma =>
            obtain ⟨S', o, c, hs⟩ : ∃ S' o c, tryL S x1 x2 = (S', o, c) := ⟨_, _, _, rfl⟩
            have HS := Lib.hid hs
            clear hs
            obtain ⟨j0, j1, j2, j3⟩ := HP.out.cl.cells
            go_wp2_with fail
            refine (try_p HP.out HS.out).mono ?_
            rintro en w5 ⟨rfl, h5⟩
            have HP5 := Lib.hid h5
            clear h5 j0 j1 j2 j3
            obtain ⟨j0, j1, j2, j3⟩ := HP5.out.cl.cells
            go_wp2_with fail
            refine (try_d HP5.out HS.out).mono ?_
            rintro en w6 ⟨rfl, h6⟩
            have HP6 := Lib.hid h6
            clear h6 j0 j1 j2 j3
            have e_o : (o != o) = false := by simp
            have e_c : (c != c) = false := by simp
            go_wp2
            go_meet
            exact ⟨a, g, q, S', rfl, HP6.out⟩
        by_cases hop3 : x0 = 3
        · have hop := hop3
          clear hop1 hop2 hop3
          subst hop
          as_aux_lemma =>
            obtain ⟨S', y, c, hs⟩ : ∃ S' y c, unlk S x1 x2 = (S', y, c) := ⟨_, _, _, rfl⟩
            have HS := Lib.hid hs
            clear hs
            obtain ⟨j0, j1, j2, j3⟩ := HP.out.cl.cells
            go_wp2_with fail
            refine (unlk_p HP.out HS.out).mono ?_
            rintro en w5 ⟨rfl, h5⟩
            have HP5 := Lib.hid h5
            clear h5 j0 j1 j2 j3
            obtain ⟨j0, j1, j2, j3⟩ := HP5.out.cl.cells
            go_wp2_with fail
            refine (unlk_d HP5.out HS.out).mono ?_
            rintro en w6 ⟨rfl, h6⟩
            have HP6 := Lib.hid h6
            clear h6 j0 j1 j2 j3
            have e_y : (y != y) = false := by simp
            have e_c : (c != c) = false := by simp
            go_wp2
            go_meet
            exact ⟨a, g, q, S', rfl, HP6.out⟩
        by_cases hop4 : x0 = 4
        · have hop := hop4
          clear hop1 hop2 hop3 hop4
          subst hop
          as_aux_lemma =>
            obtain ⟨S', c, hs⟩ : ∃ S' c, sbase S x2 x3 = (S', c) := ⟨_, _, rfl⟩
            have HS := Lib.hid hs
            clear hs
            have HPD := Lib.hid HP.out.drew
            go_wp2
            go_region_held3 (fun W => W.cell? ⟨b, 2, none⟩ = some (.int .i64 x2) ∧ W.cell? ⟨b, 3, none⟩ = some (.int .i64 x3))
              (first | exact ⟨(HPD.out).cl.cells.2.2.1, (HPD.out).cl.cells.2.2.2⟩ | exact ⟨(h6).cl.cells.2.2.1, (h6).cl.cells.2.2.2⟩ | exact ⟨(h5).cl.cells.2.2.1, (h5).cl.cells.2.2.2⟩ | assumption)
              (first
                | (go_at_call 21; refine (sbase_d h5 HS.out).mono ?_; rintro en w6 ⟨rfl, h6⟩)
                | (go_at_call 20; refine (sbase_p HPD.out HS.out).mono ?_; rintro en w5 ⟨rfl, h5⟩))
            have HP6 := Lib.hid h6
            clear h5 h6
            have e_c : (c != c) = false := by simp
            go_wp2
            go_meet
            exact ⟨a, g, q, S', rfl, HP6.out⟩
        by_cases hop5 : x0 = 5
        · have hop := hop5
          clear hop1 hop2 hop3 hop4 hop5
          subst hop
          as_aux_lemma =>
            obtain ⟨S', o, hs⟩ : ∃ S' o, drp S x2 = (S', o) := ⟨_, _, rfl⟩
            have HS := Lib.hid hs
            clear hs
            have HPD := Lib.hid HP.out.drew
            go_wp2
            go_region_held3 (fun W => W.cell? ⟨b, 2, none⟩ = some (.int .i64 x2))
              (first | exact (HPD.out).cl.cells.2.2.1 | exact (h6).cl.cells.2.2.1 | exact (h5).cl.cells.2.2.1 | assumption)
              (first
                | (go_at_call 23; refine (drp_d h5 HS.out).mono ?_; rintro en w6 ⟨rfl, h6⟩)
                | (go_at_call 22; refine (drp_p HPD.out HS.out).mono ?_; rintro en w5 ⟨rfl, h5⟩))
            have HP6 := Lib.hid h6
            clear h5 h6
            have e_o : (o != o) = false := by simp
            go_wp2
            go_meet
            exact ⟨a, g, q, S', rfl, HP6.out⟩
        by_cases hop6 : x0 = 6
        · have hop := hop6
          clear hop1 hop2 hop3 hop4 hop5 hop6
          subst hop
          as_aux_lemma =>
            obtain ⟨S', L, hs⟩ : ∃ S' L, fre S x2 = (S', L) := ⟨_, _, rfl⟩
            have HS := Lib.hid hs
            clear hs
            have HPD := Lib.hid HP.out.drew
            go_wp2
            go_region_held3 (fun W => W.cell? ⟨b, 2, none⟩ = some (.int .i64 x2))
              (first | exact (HPD.out).cl.cells.2.2.1 | exact (h7).cl.cells.2.2.1 | exact (h6).cl.cells.2.2.1 | exact (h5).cl.cells.2.2.1 | assumption)
              (first
                | (go_at_call 24; refine (same_true _ _ L _ n2 n1).mono ?_; rintro en w7 ⟨rfl, b7⟩; have h7 := h6.below b7)
                | (go_at_call 26; refine (fre_d h5 HS.out o5 HPD.out.zlt).mono ?_; rintro en w6 ⟨v6, rfl, n1, n2, h6⟩)
                | (go_at_call 25; refine (fre_p HPD.out HS.out).mono ?_; rintro en w5 ⟨v5, rfl, o5, h5⟩))
            have HP7 := Lib.hid h7
            clear h5 h6 h7 o5 n1 n2 b7
            go_wp2
            go_meet
            exact ⟨a, g, q, S', rfl, HP7.out⟩
        by_cases hop7 : x0 = 7
        · have hop := hop7
          clear hop1 hop2 hop3 hop4 hop5 hop6 hop7
          subst hop
          as_aux_lemma =>
            go_wp2_with fail
            refine (twin_at HP.out.at_).mono ?_
            rintro en w5 ⟨a2, g2, q2, rfl, h5⟩
            have HT := Lib.hid h5
            have HPT := Lib.hid (HP.out.below h5.b)
            have HZ := Lib.hid (show ∀ k, Zp a g q S.n k → k < w4.heap.size from fun k hk => by
              rcases hk with rfl | ⟨h0, rfl⟩ | ⟨i, hi, rfl⟩
              · exact HP.out.at_.x.lt
              · obtain ⟨ds, e, _⟩ := HP.out.at_.x.hg h0; exact lt_of_heap e
              · exact (HP.out.at_.x.hl i hi).lt)
            have HB4 := Lib.hid HP.out.at_.b.size
            clear h5
            go_wp2
            go_loopw [24] (fun i wr => ∃ (v : Nat) (Se : St), 1 ≤ v ∧ v ≤ 17 ∧ i = .int .i64 (v : Int) ∧ Se.n = S.n ∧ At w a g q Se wr ∧ Mx wr a2 g2 q2 S ∧ Rd wr m gk go gq r S ∧ Cl wr b 7 x1 x2 x3) (fun i _ => 17 - (intOf i).toNat)
            case atStart => exact ⟨1, S, by omega, by omega, rfl, rfl, HPT.out.at_, HT.out.x, HPT.out.rd, HPT.out.cl⟩
            case round =>
              obtain ⟨v, Se, hv1, hv, rfl, hSn, hae, hmx, hrd, hcl⟩ := hrel
              have HSN := Lib.hid hSn
              have HAE := Lib.hid hae
              have HMX := Lib.hid hmx
              have HRD := Lib.hid hrd
              have HCL := Lib.hid hcl
              clear hSn hae hmx hrd hcl
              by_cases hlv : v ≤ 16
              · have hlv' : (v : Int) ≤ 16 := by omega
                go_wp2_with fail
                refine (free_any a g q Se (v : Int) wr HAE.out.x HAE.out.f).mono ?_
                rintro en w7 ⟨vf, rfl, hof, d7⟩
                have hz7 : OnS (Zp a g q S.n) wr w7 := by have := d7.2; rw [HSN.out] at this; exact this
                have HA7 := Lib.hid (HAE.out.go d7 (HAE.out.f.fre (v : Int)) (fre_n Se (v : Int)))
                have HR7 := Lib.hid (rd_keep HRD.out HAE.out.x d7.2)
                have HC7 : Hid (Cl w7 b 7 x1 x2 x3) := Lib.hid ((d7.2.block b HCL.out.lt (HAE.out.x.nz HCL.out (by decide) (by decide) (by decide))).trans HCL.out)
                have HM7 := Lib.hid (show Mx w7 a2 g2 q2 S from HMX.out.keep fun k hk => hz7.block k (by
                    rcases hk with rfl | ⟨h0, rfl⟩ | ⟨i, hi, rfl⟩
                    · exact HMX.out.lt
                    · obtain ⟨ds, e, _⟩ := HMX.out.hg h0; exact lt_of_heap e
                    · exact (HMX.out.hl i hi).lt) (fun hz => by
                    have h1 := HZ.out k hz
                    rcases hk with rfl | ⟨h0, rfl⟩ | ⟨i, hi, rfl⟩
                    · have := HT.out.ga; omega
                    · have := HT.out.gg; omega
                    · have := HT.out.gq i hi; omega))
                have HN7 := Lib.hid (show (fre Se (v : Int)).1.n = S.n by rw [fre_n]; exact HSN.out)
                obtain ⟨XF, kF, rfl, _, _⟩ := K.own_form hof
                generalize (fre Se (v : Int)).2.length = nF at *
                clear hof d7 hz7
                go_wp2
                go_roundw
                case rel => exact ⟨v + 1, _, by omega, by omega, by go_num, HN7.out, HA7.out, HM7.out, HR7.out, HC7.out⟩
                case measure => simp [intOf]; omega
              · have tl : decide ((v : Int) ≤ 16) = false := by simp; omega
                have hat : At w a2 g2 q2 S wr := ⟨Nat.le_trans HB4.out HT.out.ga, Nat.le_trans HB4.out HT.out.gg, fun i hi => Nat.le_trans HB4.out (HT.out.gq i hi), HMX.out, HT.out.f, HAE.out.b⟩
                have HPF := Lib.hid (show Pl w b 7 x1 x2 x3 a2 g2 q2 S m gk go gq r S wr from ⟨hat, HRD.out, HT.out.f, HCL.out, HPT.out.zd⟩)
                clear hat
                go_wp2
                go_meet
                exact ⟨a2, g2, q2, S, rfl, HPF.out⟩
        as_aux_lemma =>
          have f1 : (x0 == 1) = false := by simpa using hop1
          have f2 : (x0 == 2) = false := by simpa using hop2
          have f3 : (x0 == 3) = false := by simpa using hop3
          have f4 : (x0 == 4) = false := by simpa using hop4
          have f5 : (x0 == 5) = false := by simpa using hop5
          have f6 : (x0 == 6) = false := by simpa using hop6
          have f7 : (x0 == 7) = false := by simpa using hop7
          clear hop1 hop2 hop3 hop4 hop5 hop6 hop7
          go_wp2
          go_meet
          exact ⟨a, g, q, S, rfl, HP.out⟩
      case rest =>
        clear HP
        obtain ⟨a, g, q, S, rfl, hP⟩ := hcut
        have HP := Lib.hid hP
        clear hP
        as_aux_lemma =>
          go_wp2_with fail
          refine (same_all w a g q m gk go gq r S _ HP.out.at_ HP.out.rd).mono ?_
          rintro en w9 ⟨rfl, hb9⟩
          have HP9 := Lib.hid (HP.out.below hb9)
          clear hb9
          go_wp2
          go_roundw
          case rel => exact ⟨a, g, q, t + 1, S, by omega, rfl, by go_num, HP9.out.at_, HP9.out.rd, HP9.out.zd⟩
          case measure => simp [intOf]; omega
    · have HB := Lib.hid h3.b
      have v1 : decide ((t : Int) < (N : Int)) = false := by simp; omega
      clear h3 hr3
      go_wp2
      go_ret
      exact ⟨rfl, HB.out⟩
end Go.Proofs.Ytmicinenggkmlaa.mutexPlays
