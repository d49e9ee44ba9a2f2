/-
  detentlaw16.BufferPlays: the walk.
-/
import Derived.Test.YtneimdjgbblaoaaPlT
import Derived.Test.YtneimdjgbblaoaaPlN
import Derived.Deep.RegionHeld3
import Derived.Deep.CutBlock
namespace Go.Proofs.Ytneimdjgbblaoaa.bufferPlays
open Go.RowKit
set_option linter.unusedVariables false

def Post (w : World) (e : Ending) (w' : World) : Prop := e = .returned (.bool true) ∧ Below w.heap.size w w'

def PlRel (q g pr r n : Nat) (w : World) (sv i : Value) (wr : World) : Prop :=
  ∃ (s p m k : Nat) (C : Int) (S : St), k ≤ n ∧ sv = .pointer (some ⟨s, 0, none⟩) ∧ i = .int .i64 (k : Int) ∧ At w s p m C S wr ∧ Rf wr w.heap.size q g pr r S ∧ C ≤ 100000 * (k : Int) ∧ S.N ≤ 4000
def CutRel (w : World) (a : Nat) (x0 x1 x2 : Int) (A : Option Addr) (n k : Nat) (f : Nat → Int) (q g pr r t : Nat) (s9 : Value) (W : World) : Prop :=
  ∃ (s p m : Nat) (C : Int) (S : St), s9 = .pointer (some ⟨s, 0, none⟩) ∧ Pl w a x0 x1 x2 A n k f s p m C S q g pr r S W ∧ C ≤ 100000 * ((t : Int) + 1) ∧ S.N ≤ 4000
theorem four_keep {w w' : World} {a b c d e : Addr} {x y z v u : Value} (k : Below w.heap.size w w') (h : w.cell? a = some x ∧ w.cell? b = some y ∧ w.cell? c = some z ∧ w.cell? d = some v ∧ w.cell? e = some u) :
    w'.cell? a = some x ∧ w'.cell? b = some y ∧ w'.cell? c = some z ∧ w'.cell? d = some v ∧ w'.cell? e = some u :=
  ⟨(k.cell (p := a) (block_lt_of_cell h.1)).trans h.1, (k.cell (p := b) (block_lt_of_cell h.2.1)).trans h.2.1, (k.cell (p := c) (block_lt_of_cell h.2.2.1)).trans h.2.2.1, (k.cell (p := d) (block_lt_of_cell h.2.2.2.1)).trans h.2.2.2.1, (k.cell (p := e) (block_lt_of_cell h.2.2.2.2)).trans h.2.2.2.2⟩
theorem fld42 (a b c : Value) (W : World) : (Instr.field 42 (.agg #[a, b, c]) 1).run Try.prog W = .ok b W := by
  simp [Instr.field, run_underlying Try.underlying42, go_sem, asAgg]
theorem ids_to (q : Nat) (b : Bool) (L : List It) (w : World) (h : Rq w q b L) (hn : L.length ≤ 16) (n : Nat) (hl : L.length = n) :
    Calls Try.prog 30 #[.pointer (some ⟨q, 0, none⟩)] w fun e w' => ∃ (X : Option Addr) (k : Nat), e = .returned (.slice X n k) ∧ Nr w' (.slice X n k) (L.map Prod.fst) ∧ Below w.heap.size w w' := by
  refine (ids_ok q b L w h hn).mono ?_
  rintro e w2 ⟨u, rfl, ho, hb⟩
  have := Nr.of_own ho
  obtain ⟨X, k, rfl, _⟩ := K.own_form ho
  rw [List.length_map, hl] at this ⊢
  exact ⟨X, k, rfl, this, hb⟩

def ElRel (w : World) (a : Nat) (x0 x1 x2 : Int) (A : Option Addr) (n k : Nat) (f : Nat → Int) (s p m s2 p2 m2 : Nat) (C : Int) (S : St) (q g pr r : Nat) (i : Value) (W : World) : Prop :=
  ∃ (j : Nat) (D : Int) (T : St), j ≤ 50 ∧ i = .int .i64 (j : Int) ∧ At w s p m D T W ∧ Pl w a x0 x1 x2 A n k f s2 p2 m2 C S q g pr r S W ∧ D ≤ 8000000 + 100000 * (j : Int) ∧ T.N ≤ 4000

set_option maxHeartbeats 800000 in
set_option maxRecDepth 100000 in
theorem walkOut (bp : Bool) (mo z : Int) (A : Option Addr) (n cap : Nat) (w : World) (hn : n ≤ 9223372036854775807) (h : ¬ n ≤ 80 ∨ (4000 < z ∧ z ≤ 65536)) : Calls Try.prog 3 #[.bool bp, .int .i64 mo, .int .i64 z, .slice A n cap] w (Post w) := by
  by_cases c : n ≤ 80
  · have t1 : decide ((80 : Int) < (n : Int)) = false := by simp; omega
    have t2 : decide (80 < n) = false := by simp; omega
    have t3 : decide (4000 < z) = true := by simp; omega
    have t4 : decide (z ≤ 65536) = true := by simp; omega
    clear h c
    go_enter Try.func3, Try.ntmps3
    go_wp2_with fail
    refine (known_any _).mono ?_
    rintro e w0 ⟨rfl, hb0⟩
    go_wp2
    go_ret
    exact ⟨rfl, hb0⟩
  · have t1 : decide ((80 : Int) < (n : Int)) = true := by simp; omega
    have t2 : decide (80 < n) = true := by simp; omega
    clear h c
    go_enter Try.func3, Try.ntmps3
    go_wp2_with fail
    refine (known_any _).mono ?_
    rintro e w0 ⟨rfl, hb0⟩
    go_wp2
    go_ret
    exact ⟨rfl, hb0⟩

set_option maxHeartbeats 1600000 in
set_option maxRecDepth 100000 in
theorem walkBad (bp : Bool) (mo z : Int) (A : Option Addr) (n cap : Nat) (w : World) (h : n ≤ 80) (hz : ¬ (4000 < z ∧ z ≤ 65536)) (HP : Hid (∀ W, Calls Try.prog 9 #[.bool bp, .int .i64 mo, .int .i64 z] W fun e w' => e = .returned (.tuple #[.pointer none, .int .i64 (-17)]) ∧ W = w')) (HD : Hid (∀ W, Calls Try.prog 10 #[.bool bp, .int .i64 mo, .int .i64 z] W fun e w' => e = .returned (.tuple #[.pointer none, .int .i64 (-17)]) ∧ W = w')) :
    Calls Try.prog 3 #[.bool bp, .int .i64 mo, .int .i64 z, .slice A n cap] w (Post w) := by
  have t1 : decide ((80 : Int) < (n : Int)) = false := by simp; omega
  have t2 : decide (80 < n) = false := by simp; omega
  by_cases c : 4000 < z
  · have t3 := decide_eq_true c
    have t4 : decide (z ≤ 65536) = false := by simp; omega
    clear h hz c
    go_enter Try.func3, Try.ntmps3
    go_wp2_with fail
    refine (known_any _).mono ?_
    rintro e w0 ⟨rfl, hb0⟩
    have HB := Lib.hid hb0
    clear hb0
    go_wp2_with fail
    refine (HP.out w0).mono ?_
    rintro e w1 ⟨rfl, rfl⟩
    go_wp2_with fail
    refine (HD.out w0).mono ?_
    rintro e w1 ⟨rfl, rfl⟩
    go_wp2
    go_ret
    exact ⟨rfl, HB.out⟩
  · have t3 := decide_eq_false c
    clear h hz c
    go_enter Try.func3, Try.ntmps3
    go_wp2_with fail
    refine (known_any _).mono ?_
    rintro e w0 ⟨rfl, hb0⟩
    have HB := Lib.hid hb0
    clear hb0
    go_wp2_with fail
    refine (HP.out w0).mono ?_
    rintro e w1 ⟨rfl, rfl⟩
    go_wp2_with fail
    refine (HD.out w0).mono ?_
    rintro e w1 ⟨rfl, rfl⟩
    go_wp2
    go_ret
    exact ⟨rfl, HB.out⟩

set_option maxHeartbeats 25600000 in
set_option maxRecDepth 100000 in
theorem walkIn (bp : Bool) (mo z : Int) (M Z n cap b o : Nat) (A : Option Addr) (op tk pr0 : Nat → Int) (SA : Nat → Option Addr) (sn sk : Nat → Nat) (f0 : Nat → Nat → Int) (w : World)
    (hA : 0 < n → A = some ⟨b, o, none⟩ ∧ Acts w b o n op tk pr0 SA sn sk f0) (hn : n ≤ 80) (hM : 1 ≤ M ∧ M ≤ 1024) (hmo : mo = M) (hZ : Z ≤ 4000) (h4 : Z % 4 = 0) (hz : z = Z) :
    Calls Try.prog 3 #[.bool bp, .int .i64 mo, .int .i64 z, .slice A n cap] w (Post w) := by
  have t1 : decide ((80 : Int) < (n : Int)) = false := by simp; omega
  have t2 : decide (80 < n) = false := by simp; omega
  have t3 : decide (4000 < z) = false := by simp; omega
  have HA := Lib.hid hA
  have hni : (n : Int) ≤ 80 := by omega
  have HN1 := Lib.hid (fun (W : World) (hb : Below w.heap.size w W) => new_at w W bp M Z hM (by omega) h4 z hz mo hmo hb)
  have HN2 := Lib.hid (fun (W : World) => rnew_ok bp M Z hM (by omega) h4 z hz mo hmo W)
  have HZ := Lib.hid hZ
  clear hA hM hmo hZ h4 hz
  go_enter Try.func3, Try.ntmps3
  go_wp2_with fail
  refine (known_any _).mono ?_
  rintro e w0 ⟨rfl, hb0⟩
  have HNew := Lib.hid (HN1.out w0 hb0)
  clear hb0
  go_wp2_with fail
  refine HNew.out.mono ?_
  rintro e w1 ⟨s, p, m, rfl, h1, _, _, _, _⟩
  have HA1 := Lib.hid h1
  clear h1 HNew
  go_wp2_with fail
  refine (HN2.out w1).mono ?_
  rintro e w2 ⟨q, g, pr, r, rfl, hr2, hk2⟩
  have HA2 := Lib.hid (HA1.out.below hk2)
  have HR2 := Lib.hid (hr2.lower HA1.out.b.size)
  clear HA1 hr2 hk2 t1 t2 t3
  go_wp2
  go_loopw [9, 13] (fun sv i wr => PlRel q g pr r n w sv i wr) (fun _ i _ => n - (intOf i).toNat)
  case atStart => exact ⟨s, p, m, 0, 0, _, Nat.zero_le _, rfl, rfl, HA2.out, HR2.out, by omega, HZ.out⟩
  case round =>
    clear HA2 HR2
    obtain ⟨s, p, m, t, C, S, ht, rfl, rfl, h3, hr3, hC, hSN⟩ := hrel
    have HN := Lib.hid hSN
    clear hSN
    by_cases hlt : t < n
    · have hlt' : (t : Int) < (n : Int) := by omega
      obtain ⟨rfl, hac⟩ := HA.out (by omega)
      have hlb := hac.hlt t hlt
      have k0 := (h3.b.cell (p := ⟨b, o + t * 4, none⟩) hlb).trans (hac.c0 t hlt)
      have k1 := (h3.b.cell (p := ⟨b, o + t * 4 + 1, none⟩) hlb).trans (hac.c1 t hlt)
      have k2 := (h3.b.cell (p := ⟨b, o + t * 4 + 2, none⟩) hlb).trans (hac.c2 t hlt)
      have k3 := (h3.b.cell (p := ⟨b, o + t * 4 + 3, none⟩) hlb).trans (hac.c3 t hlt)
      have hin := hac.src t hlt
      have hcp := (hac.cap t hlt).1
      clear hac hlb
      generalize op t = x0 at *
      generalize tk t = x1 at *
      generalize pr0 t = x2 at *
      generalize SA t = A3 at *
      generalize sn t = v at *
      generalize sk t = vk at *
      generalize f0 t = f at *
      have hP : Pl w wr.heap.size x0 x1 x2 A3 v vk f s p m C S q g pr r S (wr.alloc (.cells #[.int .i64 x0, .int .i64 x1, .int .i64 x2, .slice A3 v vk] 33)) :=
        ⟨h3.below ((Below.refl _ _).alloc (Nat.le_refl _) _), hr3.below ((Below.refl _ _).alloc (Nat.le_refl _) _), heap_alloc_new _ _, hin, hcp⟩
      have HL := Lib.hid hC
      by_cases cv : 1100 < v
      · have t5 : decide ((1100 : Int) < (v : Int)) = true := by simp; omega
        have t5' : decide (1100 < v) = true := by simp; omega
        have HP := Lib.hid hP
        clear h3 hr3 hP hin hcp hC
        go_wp2
        go_ret
        exact ⟨rfl, HP.out.at_.b⟩
      have t5 : decide ((1100 : Int) < (v : Int)) = false := by simp; omega
      have t5' : decide (1100 < v) = false := by simp; omega
      clear h3 hr3 hin hcp hC cv
      go_upto_block 2 with fail
      generalize wr.alloc (.cells #[.int .i64 x0, .int .i64 x1, .int .i64 x2, .slice A3 v vk] 33) = w4 at *
      generalize wr.heap.size = a at *
      have HP := Lib.hid hP
      clear k0 k1 k2 k3 hP t5 t5'
      have hC9 : C ≤ 8000000 := by have := HL.out; omega
      go_cut [9] from 90 to 261 (fun s9 wx => CutRel w a x0 x1 x2 A3 v vk f q g pr r t s9 wx)
      case first =>
        by_cases c1 : x0 = 1
        · as_aux_lemma =>
            have u1 : (x0 == 1) = true := by simpa using c1
            clear c1
            obtain ⟨S', bk, rc, ec, hs⟩ : ∃ S' bk rc ec, send S x1 x2 (R.mkm v f) = (S', bk, rc, ec) := ⟨_, _, _, _, rfl⟩
            have HS := Lib.hid hs
            have HF := Lib.hid HP.out.at_.f
            clear hs
            have j1 := HP.out.k1
            have j2 := HP.out.k2
            have j3 := HP.out.k3
            go_wp2_with fail
            refine (send_p HP.out (by omega) HS.out).mono ?_
            rintro en w5 ⟨rfl, h5⟩
            have HP5 := Lib.hid h5
            clear h5 j1 j2 j3
            have j1 := HP5.out.k1
            have j2 := HP5.out.k2
            have j3 := HP5.out.k3
            go_wp2_with fail
            refine (send_d HP5.out HF.out HS.out).mono ?_
            rintro en w6 ⟨rfl, h6⟩
            have HP6 := Lib.hid h6
            clear h6 j1 j2 j3
            have e_bk : (bk != bk) = false := by simp
            have e_rc : (rc != rc) = false := by simp
            have e_ec : (ec != ec) = false := by simp
            go_wp2
            go_meet
            exact ⟨s, p, m, _, S', rfl, HP6.out, by have := HL.out; omega, by have e := send_N S x1 x2 (R.mkm v f); rw [HS.out] at e; have e1 : S'.N = S.N := e; have := HN.out; omega⟩
        have u1 : (x0 == 1) = false := by simpa using c1
        clear c1
        by_cases c2 : x0 = 2
        · as_aux_lemma =>
            have u2 : (x0 == 2) = true := by simpa using c2
            clear c2
            obtain ⟨S', bk, rc, ec, hs⟩ : ∃ S' bk rc ec, trySend S (R.mkm v f) = (S', bk, rc, ec) := ⟨_, _, _, _, rfl⟩
            have HS := Lib.hid hs
            have HF := Lib.hid HP.out.at_.f
            clear hs
            have j3 := HP.out.k3
            go_wp2_with fail
            refine (trySend_p HP.out (by omega) HS.out).mono ?_
            rintro en w5 ⟨rfl, h5⟩
            have HP5 := Lib.hid h5
            clear h5 j3
            have j3 := HP5.out.k3
            go_wp2_with fail
            refine (trySend_d HP5.out HF.out HS.out).mono ?_
            rintro en w6 ⟨rfl, h6⟩
            have HP6 := Lib.hid h6
            clear h6 j3
            have e_bk : (bk != bk) = false := by simp
            have e_rc : (rc != rc) = false := by simp
            have e_ec : (ec != ec) = false := by simp
            go_wp2
            go_meet
            exact ⟨s, p, m, _, S', rfl, HP6.out, by have := HL.out; omega, by have e := trySend_N S (R.mkm v f); rw [HS.out] at e; have e1 : S'.N = S.N := e; have := HN.out; omega⟩
        have u2 : (x0 == 2) = false := by simpa using c2
        clear c2
        by_cases c3 : x0 = 3
        · as_aux_lemma =>
            have u3 : (x0 == 3) = true := by simpa using c3
            clear c3
            obtain ⟨S', oo, outs, ec, hs⟩ : ∃ S' oo outs ec, recv S x1 x2 = (S', oo, outs, ec) := ⟨_, _, _, _, rfl⟩
            have HS := Lib.hid hs
            have HF := Lib.hid HP.out.at_.f
            obtain ⟨j, hj⟩ : ∃ j, outs.length = j := ⟨_, rfl⟩
            have HJ := Lib.hid hj
            clear hs hj
            have j1 := HP.out.k1
            have j2 := HP.out.k2
            go_wp2_with fail
            refine (recv_p HP.out (by omega) HS.out HJ.out).mono ?_
            rintro en w5 ⟨v1, X, i, rfl, hg5, h5⟩
            obtain ⟨Y, yi, yj, rfl⟩ := hg5.1
            have HB5 := Lib.hid (show Below w5.heap.size w5 (w5.alloc (.cells #[.slice Y yi yj, .bool oo.isSome, .slice X j i] 42)) from (Below.refl _ _).alloc (Nat.le_refl _) _)
            have HBX := Lib.hid (box3_new w5 42 (.slice Y yi yj) (.bool oo.isSome) (.slice X j i))
            have HP5 := Lib.hid (h5.below HB5.out)
            have HG5 := Lib.hid (hg5.below HB5.out)
            clear h5 hg5 j1 j2
            generalize hw5 : w5.alloc (.cells #[.slice Y yi yj, .bool oo.isSome, .slice X j i] 42) = w5b at *
            generalize hk5 : oo.isSome = ks at *
            have j1 := HP5.out.k1
            have j2 := HP5.out.k2
            go_wp2_with fail
            refine (recv_d HP5.out HF.out HS.out HJ.out).mono ?_
            rintro en w6 ⟨X6, i6, rfl, ho6, h6, k6⟩
            try rw [hk5]
            have HB6 := Lib.hid (show Below w6.heap.size w6 (w6.alloc (.cells #[.string (R.str (oo.getD [])), .bool ks, .slice X6 j i6] 46)) from (Below.refl _ _).alloc (Nat.le_refl _) _)
            have bx5 := (HBX.out.keep (keepD HP5.out.rf k6 HBX.out (by decide) (by decide) (by decide))).below HB6.out
            have bx6 := box3_new w6 46 (.string (R.str (oo.getD []))) (.bool ks) (.slice X6 j i6)
            have HG6 := Lib.hid ((HG5.out.et HP5.out.rf k6).below HB6.out)
            have HO6 := Lib.hid (K.own_below ho6 HB6.out)
            have HP6 := Lib.hid (h6.below HB6.out)
            have a0 := bx5.c0
            have a1 := bx5.c1
            have a2 := bx5.c2
            have b0 := bx6.c0
            have b1 := bx6.c1
            have b2 := bx6.c2
            have HGO := Lib.hid (fun Wz (hb : Below (w6.alloc (.cells #[.string (R.str (oo.getD [])), .bool ks, .slice X6 j i6] 46)).heap.size (w6.alloc (.cells #[.string (R.str (oo.getD [])), .bool ks, .slice X6 j i6] 46)) Wz) => got_ok (w := Wz) (o := oo) (outs := outs) (X := X) (Y := X6) (n := j) (i := i) (j := i6) HG6.out.1 (HG6.out.2.1.below hb) (nr_own HJ.out (K.own_below HG6.out.2.2 hb)) (nr_own HJ.out (K.own_below HO6.out hb)))
            try rw [hk5] at HGO
            clear ho6 h6 k6 bx5 bx6 j1 j2
            have e_c : (ec != ec) = false := by simp
            go_wp2_with fail
            refine (HGO.out _ (Below.refl _ _)).mono ?_
            rintro en w7 ⟨rfl, hb7⟩
            have HP7 := Lib.hid (HP6.out.below hb7)
            clear hb7
            go_wp2
            go_meet
            exact ⟨s, p, m, _, S', rfl, HP7.out, by have := HL.out; omega, by have e := recv_N S x1 x2; rw [HS.out] at e; have e1 : S'.N = S.N := e; have := HN.out; omega⟩
        have u3 : (x0 == 3) = false := by simpa using c3
        clear c3
        by_cases c4 : x0 = 4
        · as_aux_lemma =>
            have u4 : (x0 == 4) = true := by simpa using c4
            clear c4
            obtain ⟨S', oo, outs, hs⟩ : ∃ S' oo outs, tryRecv S = (S', oo, outs) := ⟨_, _, _, rfl⟩
            have HS := Lib.hid hs
            have HF := Lib.hid HP.out.at_.f
            obtain ⟨j, hj⟩ : ∃ j, outs.length = j := ⟨_, rfl⟩
            have HJ := Lib.hid hj
            clear hs hj
            go_wp2_with fail
            refine (tryRecv_p HP.out (by omega) HS.out HJ.out).mono ?_
            rintro en w5 ⟨v1, X, i, rfl, hg5, h5⟩
            have HP5 := Lib.hid h5
            have HG5 := Lib.hid hg5
            clear h5 hg5
            go_wp2_with fail
            refine (tryRecv_d HP5.out HF.out HS.out HJ.out).mono ?_
            rintro en w6 ⟨X6, i6, rfl, ho6, h6, k6⟩
            have HG6 := Lib.hid (HG5.out.et HP5.out.rf k6)
            have HO6 := Lib.hid ho6
            have HP6 := Lib.hid h6
            clear ho6 h6 k6
            go_wp2_with fail
            refine (got_ok (w := w6) (o := oo) (outs := outs) HG6.out.1 HG6.out.2.1 (nr_own HJ.out HG6.out.2.2) (nr_own HJ.out HO6.out)).mono ?_
            rintro en w7 ⟨rfl, hb7⟩
            have HP7 := Lib.hid (HP6.out.below hb7)
            clear hb7
            go_wp2
            go_meet
            exact ⟨s, p, m, _, S', rfl, HP7.out, by have := HL.out; omega, by have e := tryRecv_N S; rw [HS.out] at e; have e1 : S'.N = S.N := e; have := HN.out; omega⟩
        have u4 : (x0 == 4) = false := by simpa using c4
        clear c4
        by_cases c5 : x0 = 5
        · as_aux_lemma =>
            have u5 : (x0 == 5) = true := by simpa using c5
            clear c5
            have HF := Lib.hid HP.out.at_.f
            obtain ⟨j, hj⟩ : ∃ j, (drop S x1).2.length = j := ⟨_, rfl⟩
            have HJ := Lib.hid hj
            have hk1 := HP.out.k1
            clear hj
            go_wp2
            go_region_held3 (fun Z => Z.cell? ⟨a, 1, none⟩ = some (.int .i64 x1) ∧ True)
              (first | exact ⟨HP7.out.k1, trivial⟩ | exact ⟨HP6.out.k1, trivial⟩ | exact ⟨HP5.out.k1, trivial⟩ | exact ⟨hk1, trivial⟩ | assumption)
              (first
                | (go_at_call 20; refine (same_any _ _ _ _ true _ (nr_own HJ.out HO6.out) (nr_own HJ.out ho6) (by simp)).mono ?_; rintro en w7 ⟨rfl, hb7⟩; have HP7 := Lib.hid (HP6.out.below hb7))
                | (go_at_call 22; refine (drop_d HP5.out HF.out HJ.out).mono ?_; rintro en w6 ⟨X6, i6, rfl, ho6, h6, k6⟩; have HP6 := Lib.hid h6; have HO6 := Lib.hid (own_et HO5.out HP5.out.rf k6))
                | (go_at_call 21; refine (drop_p HP.out.drew (by omega) HJ.out).mono ?_; rintro en w5 ⟨X5, i5, rfl, ho5, h5⟩; have HP5 := Lib.hid h5; have HO5 := Lib.hid ho5))
            clear ho5 h5 ho6 h6 k6 hb7 hk1
            go_wp2
            go_meet
            exact ⟨s, p, m, _, _, rfl, HP7.out, by have := HL.out; omega, by have e := drop_N S x1; have := HN.out; omega⟩
        have u5 : (x0 == 5) = false := by simpa using c5
        clear c5
        by_cases c6 : x0 = 6
        · as_aux_lemma =>
            have u6 : (x0 == 6) = true := by simpa using c6
            clear c6
            have HF := Lib.hid HP.out.at_.f
            obtain ⟨j, hj⟩ : ∃ j, (change S x1 x2).2.1.length = j := ⟨_, rfl⟩
            have HJ := Lib.hid hj
            obtain ⟨ck, hck⟩ : ∃ ck, (change S x1 x2).2.2 = ck := ⟨_, rfl⟩
            have HCK := Lib.hid hck
            clear hj hck
            have j1 := HP.out.k1
            have j2 := HP.out.k2
            go_wp2_with fail
            refine (change_p HP.out (by omega) HJ.out).mono ?_
            rintro en w5 ⟨X5, i5, rfl, ho5, h5⟩
            have HP5 := Lib.hid h5
            have HO5 := Lib.hid ho5
            rw [HCK.out]
            clear h5 ho5 j1 j2
            have j1 := HP5.out.k1
            have j2 := HP5.out.k2
            go_wp2_with fail
            refine (change_d HP5.out HF.out HJ.out).mono ?_
            rintro en w6 ⟨X6, i6, rfl, ho6, h6, k6⟩
            have HP6 := Lib.hid h6
            have HO6 := Lib.hid ho6
            have HO7 := Lib.hid (own_et HO5.out HP5.out.rf k6)
            rw [HCK.out]
            have e_c : (ck != ck) = false := by simp
            clear h6 ho6 k6 j1 j2
            go_wp2_with fail
            refine (same_any _ _ _ _ true w6 (nr_own HJ.out HO7.out) (nr_own HJ.out HO6.out) (by simp)).mono ?_
            rintro en w7 ⟨rfl, hb7⟩
            have HP7 := Lib.hid (HP6.out.below hb7)
            clear hb7
            go_wp2
            go_meet
            exact ⟨s, p, m, _, _, rfl, HP7.out, by have := HL.out; omega, by have e := change_N S x1 x2; have := HN.out; omega⟩
        have u6 : (x0 == 6) = false := by simpa using c6
        clear c6
        by_cases c7 : x0 = 7
        · as_aux_lemma =>
            have u7 : (x0 == 7) = true := by simpa using c7
            clear c7
            go_wp2_with fail
            refine (apart_ok _ s p m C S w4 HP.out.at_.q HP.out.at_.f).mono ?_
            rintro en w5 ⟨s2, rfl, p2, m2, hq5, hb5⟩
            have h5 := HP.out.below hb5
            have HOld := Lib.hid h5.at_
            have HNE := Lib.hid (show (s2 ≠ s ∧ s2 ≠ p ∧ s2 ≠ m) ∧ (p2 ≠ s ∧ p2 ≠ p ∧ p2 ≠ m) ∧ (m2 ≠ s ∧ m2 ≠ p ∧ m2 ≠ m) by
              have e1 := HP.out.at_.q.lt; have e2 := HP.out.at_.q.ltp; have e3 := HP.out.at_.q.ltm; have e4 := hq5.bs; have e5 := hq5.bp; have e6 := hq5.bm; omega)
            have HP5 := Lib.hid (show Pl w a x0 x1 x2 A3 v vk f s2 p2 m2 C S q g pr r S w5 from ⟨⟨hq5.lower HP.out.at_.b.size, HP.out.at_.f, h5.at_.b⟩, h5.rf, h5.cl, h5.inb, h5.cap⟩)
            clear hq5 hb5 h5
            go_wp2
            go_loopw [36] (fun i wx => ElRel w a x0 x1 x2 A3 v vk f s p m s2 p2 m2 C S q g pr r i wx) (fun i _ => 50 - (intOf i).toNat)
            case atStart => exact ⟨0, C, S, by omega, rfl, HOld.out, HP5.out, by omega, HN.out⟩
            case round =>
              obtain ⟨k, D, T, hk, rfl, hat, hpl, hD, hTN⟩ := hrel
              have HTN := Lib.hid hTN
              clear hTN
              have HT := Lib.hid hat
              have HPx := Lib.hid hpl
              clear hat hpl
              by_cases hk5 : k < 50
              · have t7 : decide ((k : Int) < 50) = true := by simp; omega
                have t7' : decide (k < 50) = true := by simpa using hk5
                obtain ⟨T', oo, outs, hs⟩ : ∃ T' oo outs, tryRecv T = (T', oo, outs) := ⟨_, _, _, rfl⟩
                have HTR := Lib.hid (tryRecv_at HT.out (by omega) hs)
                have HTN' := Lib.hid (show T'.N ≤ 4000 by have e := tryRecv_N T; rw [hs] at e; have e1 : T'.N = T.N := e; have := HTN.out; omega)
                clear hs
                go_wp2_with fail
                refine HTR.out.mono ?_
                rintro en w6 ⟨gv, rfl, hg, ha6, hd6⟩
                obtain ⟨v1, v2, rfl, _, _, _⟩ := hg
                have HT6 := Lib.hid ha6
                have HP6 := Lib.hid (HPx.out.elder HT.out.q hd6 HNE.out.1 HNE.out.2.1 HNE.out.2.2)
                have hfl := fld42 v1 (.bool oo.isSome) v2
                have c6 := ha6.q.c.ring
                have HLen := Lib.hid (len_at ha6)
                have hgl : T'.G.length ≤ 4000 := by have e1 := R.tot_len T'.G; have e2 := ha6.f.g; have e3 := HTN'.out; omega
                obtain ⟨L, hL⟩ : ∃ L, T'.G.length = L := ⟨_, rfl⟩
                rw [hL] at HLen hgl
                have t8 : decide ((4000 : Int) < (L : Int)) = false := by simp; omega
                have t8' : decide (4000 < L) = false := by simp; omega
                clear ha6 hd6 HTR hL
                obtain ⟨ks, hks⟩ : ∃ ks, oo.isSome = ks := ⟨_, rfl⟩
                rw [hks] at hfl ⊢
                clear hks
                cases ks with
                | true =>
                  go_wp2_with fail
                  refine HLen.out.mono ?_
                  rintro en w7 ⟨rfl, rfl⟩
                  go_wp2
                  go_roundw
                  case rel => exact ⟨k + 1, _, _, by omega, by go_num, HT6.out, HP6.out, by omega, HTN'.out⟩
                  case measure => first | omega | (simp [intOf]; omega)
                | false =>
                  go_wp2
                  go_meet
                  exact ⟨s2, p2, m2, _, S, rfl, HP6.out, by have := HL.out; omega, HN.out⟩
              · have t7 : decide ((k : Int) < 50) = false := by simp; omega
                have t7' : decide (k < 50) = false := by simpa using hk5
                go_wp2
                go_meet
                exact ⟨s2, p2, m2, _, S, rfl, HPx.out, by have := HL.out; omega, HN.out⟩
        have u7 : (x0 == 7) = false := by simpa using c7
        clear c7
        as_aux_lemma =>
          go_wp2
          go_meet
          exact ⟨s, p, m, _, S, rfl, HP.out, by have := HL.out; omega, HN.out⟩
      case rest =>
        clear HP HL hC9 HN
        obtain ⟨s, p, m, C, S, rfl, hP, hC, hSN⟩ := hcut
        have HN := Lib.hid hSN
        clear hSN
        have HPZ := Lib.hid hP
        have HLS := Lib.hid hC
        have c0 := hP.at_.q.c.ring
        have d0 := hP.rf.d.c0
        have d1 := hP.rf.d.c1
        have d2 := hP.rf.d.c2
        obtain ⟨XL, kL, _, d3, _, _, _, _⟩ := hP.rf.o.open
        obtain ⟨nG, hG⟩ : ∃ nG, S.G.length = nG := ⟨_, rfl⟩
        obtain ⟨nS, hS⟩ : ∃ nS, S.S.length = nS := ⟨_, rfl⟩
        obtain ⟨nR, hR⟩ : ∃ nR, S.R.length = nR := ⟨_, rfl⟩
        rw [hG] at d3
        have HS := Lib.hid hS
        have HR := Lib.hid hR
        have HLen := Lib.hid (fun W (h : At w s p m C S W) => len_at h)
        rw [hG] at HLen
        have HFr := Lib.hid (fun W (h : At w s p m C S W) => free_at h)
        have HFd := Lib.hid (fun W (h : Rf W w.heap.size q g pr r S) => R.rfree_any g S.N S.G W h.o hP.at_.f.g hP.at_.f.n hP.at_.f.gm)
        obtain ⟨fr, hfr⟩ : ∃ fr : Int, (S.N : Int) - (R.tot S.G : Int) = fr := ⟨_, rfl⟩
        rw [hfr] at HFr HFd
        clear hP hC hG hS hR hfr
        go_wp2
        go_region_held3 (fun Z => Z.cell? ⟨s, 0, none⟩ = some (.pointer (some ⟨p, 0, none⟩)) ∧ Z.cell? ⟨q, 0, none⟩ = some (.pointer (some ⟨g, 0, none⟩)) ∧ Z.cell? ⟨q, 1, none⟩ = some (.pointer (some ⟨pr, 0, none⟩)) ∧ Z.cell? ⟨q, 2, none⟩ = some (.pointer (some ⟨r, 0, none⟩)) ∧ Z.cell? ⟨g, 1, none⟩ = some (.slice XL nG kL))
          (first | exact four_keep B8 ⟨c0, d0, d1, d2, d3⟩ | exact four_keep B7 ⟨c0, d0, d1, d2, d3⟩ | exact four_keep B6 ⟨c0, d0, d1, d2, d3⟩ | exact four_keep B5 ⟨c0, d0, d1, d2, d3⟩ | exact four_keep B4 ⟨c0, d0, d1, d2, d3⟩ | exact four_keep B3 ⟨c0, d0, d1, d2, d3⟩ | exact four_keep B2 ⟨c0, d0, d1, d2, d3⟩ | exact ⟨c0, d0, d1, d2, d3⟩ | assumption)
          (first
            | (go_at_call 20; refine (same_any _ _ _ _ true _ (n6.below b7) n7 (by simp)).mono ?_; rintro e w8 ⟨rfl, b8⟩; have B8 := below_trans B7 b8)
            | (go_at_call 30; refine (ids_to r false S.R _ (HPZ.out.rf.below B6).q HPZ.out.at_.f.r.len nR HR.out).mono ?_; rintro e w7 ⟨X7, K7, rfl, n7, b7⟩; have B7 := below_trans B6 b7)
            | (go_at_call 31; refine (receivers_at (HPZ.out.at_.below B5) HR.out).mono ?_; rintro e w6 ⟨X6, K6, rfl, n6, b6⟩; have B6 := below_trans B5 b6)
            | (go_at_call 20; refine (same_any _ _ _ _ true _ (n3.below b4) n4 (by simp)).mono ?_; rintro e w5 ⟨rfl, b5⟩; have B5 := below_trans B4 b5)
            | (go_at_call 30; refine (ids_to pr S.b S.S _ (HPZ.out.rf.below B3).s HPZ.out.at_.f.s.len nS HS.out).mono ?_; rintro e w4 ⟨X4, K4, rfl, n4, b4⟩; have B4 := below_trans B3 b4)
            | (go_at_call 29; refine (senders_at (HPZ.out.at_.below B2) HS.out).mono ?_; rintro e w3 ⟨X3, K3, rfl, n3, b3⟩; have B3 := below_trans B2 b3)
            | (go_at_call 28; refine (HFd.out _ (HPZ.out.rf.below B2)).mono ?_; rintro e w2 ⟨rfl, rfl⟩)
            | (go_at_call 27; refine (HFr.out _ HPZ.out.at_.drew).mono ?_; rintro e w2 ⟨rfl, dd, rfl⟩; have B2 := below_drewN wc (1 + dd))
            | (go_at_call 26; refine (HLen.out _ HPZ.out.at_.drew).mono ?_; rintro e w1 ⟨rfl, rfl⟩))
        have HB8 := Lib.hid B8
        clear B2 B3 B4 B5 B6 B7 B8 b3 b4 b5 b6 b7 b8 n3 n4 n6 n7 c0 d0 d1 d2 d3
        go_wp2
        go_roundw
        case rel => exact ⟨s, p, m, t + 1, C, S, by omega, rfl, by go_num, HPZ.out.at_.below HB8.out, HPZ.out.rf.below HB8.out, by have := HLS.out; omega, HN.out⟩
        case measure => first | omega | (simp [intOf]; omega)
    · have HB := Lib.hid h3.b
      have v1 : decide ((t : Int) < (n : Int)) = false := by simp; omega
      clear h3 hr3
      go_wp2
      go_ret
      exact ⟨rfl, HB.out⟩
end Go.Proofs.Ytneimdjgbblaoaa.bufferPlays
