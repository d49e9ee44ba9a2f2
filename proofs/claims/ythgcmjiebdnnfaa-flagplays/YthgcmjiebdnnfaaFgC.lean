/- Contracts of package flag: metBy, permitted, give, Poll, Wait. -/
import Derived.Test.YthgcmjiebdnnfaaFgS
import Derived.Deep.RegionHeld3
namespace Go.Proofs.Ythgcmjiebdnnfaa
open Go.RowKit
set_option maxRecDepth 100000

set_option maxHeartbeats 800000 in
theorem metBy_any (x a k : Int) (r : Bool) (w : World) (hr : met x (a, k) = r) :
    Calls Try.prog 33 #[.agg #[.int .u32 a, .int .i64 k], .int .u32 x] w fun e w' => e = .returned (.bool r) ∧ Below w.heap.size w w' := by
  obtain ⟨h, hh⟩ : ∃ h, bits .and .u32 x a = h := ⟨_, rfl⟩
  unfold met at hr
  simp only [hh] at hr
  have HB := Lib.hid ((Below.refl w.heap.size w).alloc (Nat.le_refl _) (.cells #[.int .u32 a, .int .i64 k] 55))
  by_cases c0 : h = 0
  · obtain rfl : r = false := by rw [← hr]; simp [c0]
    have t0 : (h == 0) = true := by simpa using c0
    have t1 : (h != 0) = false := by simp [c0]
    clear hr c0
    go_enter Try.func33, Try.ntmps33
    go_wp2
    go_ret
    exact ⟨rfl, HB.out⟩
  · have t0 : (h == 0) = false := by simpa using c0
    have t1 : (h != 0) = true := by simpa using c0
    by_cases c1 : k = 1
    · obtain rfl : r = true := by rw [← hr]; simp [c0, c1]
      have t2 : (k == 1) = true := by simpa using c1
      clear hr c0 c1
      go_enter Try.func33, Try.ntmps33
      go_wp2
      go_ret
      exact ⟨rfl, HB.out⟩
    · have t2 : (k == 1) = false := by simpa using c1
      obtain rfl : r = (h == a) := by rw [← hr, Bool.eq_iff_iff]; simp [c0, c1]
      clear hr c0 c1
      go_enter Try.func33, Try.ntmps33
      go_wp2
      go_ret
      exact ⟨rfl, HB.out⟩

set_option maxHeartbeats 800000 in
theorem permitted2_any (a k : Int) (r : Bool) (w : World) (hr : perm (a, k) = r) :
    Calls Try.prog 32 #[.agg #[.int .u32 a, .int .i64 k]] w fun e w' => e = .returned (.bool r) ∧ Below w.heap.size w w' := by
  unfold perm at hr
  simp only at hr
  have HB := Lib.hid ((Below.refl w.heap.size w).alloc (Nat.le_refl _) (.cells #[.int .u32 a, .int .i64 k] 55))
  by_cases c0 : a = 0
  · obtain rfl : r = false := by rw [← hr]; simp [c0]
    have t1 : (a != 0) = false := by simp [c0]
    clear hr c0
    go_enter Try.func32, Try.ntmps32
    go_wp2
    go_ret
    exact ⟨rfl, HB.out⟩
  · have t1 : (a != 0) = true := by simpa using c0
    by_cases c1 : k = 0
    · obtain rfl : r = true := by rw [← hr]; simp [c0, c1]
      have t2 : (k == 0) = true := by simpa using c1
      clear hr c0 c1
      go_enter Try.func32, Try.ntmps32
      go_wp2
      go_ret
      exact ⟨rfl, HB.out⟩
    · have t2 : (k == 0) = false := by simpa using c1
      obtain rfl : r = (k == 1) := by rw [← hr, Bool.eq_iff_iff]; simp [c0, c1]
      clear hr c0 c1
      go_enter Try.func32, Try.ntmps32
      go_wp2
      go_ret
      exact ⟨rfl, HB.out⟩

/-- the wishes in memory are those of the tasks that wait -/
def Agr (f : Nat → Wi) (S : St) : Prop := ∀ y, y ∈ S.L → f y.1.toNat = S.W y.1
/-- the program's eventflag -/
def Sq (w : World) (s p : Nat) (S : St) : Prop := ∃ f, Fg w s 58 p 1 4 S.x S.m S.c f ∧ Agr f S ∧ Ln w p 70 S.b S.L
theorem Sq.below {w w' : World} {s p : Nat} {S : St} (h : Sq w s p S) (k : Below w.heap.size w w') : Sq w' s p S := by
  obtain ⟨f, h1, h2, h3⟩ := h; exact ⟨f, h1.below k, h2, h3.below k⟩
theorem Sq.drew {w : World} {s p : Nat} {S : St} (h : Sq w s p S) : Sq w.drew s p S := h
theorem Sq.drewN {w : World} {s p : Nat} {S : St} (h : Sq w s p S) (n : Nat) : Sq (w.drewN n) s p S := h
theorem Sq.alloc {w : World} {s p : Nat} {S : St} (h : Sq w s p S) (o : Obj) : Sq (w.alloc o) s p S := by
  obtain ⟨f, h1, h2, h3⟩ := h; exact ⟨f, h1.alloc o, h2, h3.alloc o⟩
theorem Sq.ne {w : World} {s p : Nat} {S : St} (h : Sq w s p S) : s ≠ p := by obtain ⟨f, h1, h2, h3⟩ := h; exact h1.ne h3 (by decide)
theorem Sq.lts {w : World} {s p : Nat} {S : St} (h : Sq w s p S) : s < w.heap.size := by obtain ⟨f, h1, h2, h3⟩ := h; exact h1.lt
theorem Sq.ltp {w : World} {s p : Nat} {S : St} (h : Sq w s p S) : p < w.heap.size := by obtain ⟨f, h1, h2, h3⟩ := h; exact h3.lt
theorem Sq.c0 {w : World} {s p : Nat} {S : St} (h : Sq w s p S) : w.cell? ⟨s, 0, none⟩ = some (.pointer (some ⟨p, 0, none⟩)) := by obtain ⟨f, h1, h2, h3⟩ := h; exact h1.c0
theorem Sq.c1 {w : World} {s p : Nat} {S : St} (h : Sq w s p S) : w.cell? ⟨s, 1, none⟩ = some (.int .u32 S.x) := by obtain ⟨f, h1, h2, h3⟩ := h; exact h1.cx
theorem Sq.c2 {w : World} {s p : Nat} {S : St} (h : Sq w s p S) : w.cell? ⟨s, 2, none⟩ = some (.bool S.m) := by obtain ⟨f, h1, h2, h3⟩ := h; exact h1.cm
theorem Sq.c3 {w : World} {s p : Nat} {S : St} (h : Sq w s p S) : w.cell? ⟨s, 3, none⟩ = some (.bool S.c) := by obtain ⟨f, h1, h2, h3⟩ := h; exact h1.cc
theorem Sq.fz {w : World} {s p : Nat} {S : St} (h : Sq w s p S) (i : Nat) : w.frozen? ⟨s, i, none⟩ = false := by obtain ⟨f, h1, h2, h3⟩ := h; exact h1.fz i
theorem Sq.setX {w : World} {s p : Nat} {S : St} (h : Sq w s p S) (y : Int) : Sq (w.setCell ⟨s, 1, none⟩ (.int .u32 y)) s p (setx S y) := by
  have hsp := h.ne
  obtain ⟨f, h1, h2, h3⟩ := h
  exact ⟨f, h1.setX y, h2, h3.keep (Below.heap_setCell _ _ _ _ (Ne.symm hsp))⟩

set_option maxHeartbeats 400000 in
theorem ensure_ok (s p : Nat) (S : St) (w : World) (h : Sq w s p S) : Calls Try.prog 31 #[.pointer (some ⟨s, 0, none⟩)] w fun e w' => e = .returned (.tuple #[]) ∧ w = w' := by
  have h0 := h.c0
  go_enter Try.func31, Try.ntmps31
  go_wp2
  go_end0
  exact ⟨rfl, rfl⟩

set_option maxHeartbeats 800000 in
theorem give_any (s p : Nat) (S : St) (w : World) (h : Sq w s p S) :
    Calls Try.prog 34 #[.pointer (some ⟨s, 0, none⟩)] w fun e w' => e = .returned (.int .u32 S.x) ∧ Sq w' s p (got S) ∧ Only s w w' := by
  obtain ⟨b, m, c, x, L, W⟩ := S
  have d1 := h.c1
  have d3 := h.c3
  have z1 := h.fz 1
  simp only at d1 d3
  cases c with
  | true =>
    have HS := Lib.hid (h.setX 0)
    have HO := Lib.hid ((Only.refl s w).setCell (q := ⟨s, 1, none⟩) (.inl rfl) (.int .u32 0))
    clear h
    go_enter Try.func34, Try.ntmps34
    go_wp2
    go_ret
    exact ⟨rfl, HS.out, HO.out⟩
  | false =>
    have HS := Lib.hid h
    clear h
    go_enter Try.func34, Try.ntmps34
    go_wp2
    go_ret
    exact ⟨rfl, HS.out, Only.refl _ _⟩

theorem three_below {a b c : Addr} {x y z : Value} {W W' : World} (hb : Below W.heap.size W W') (h : W.cell? a = some x ∧ W.cell? b = some y ∧ W.cell? c = some z) :
    W'.cell? a = some x ∧ W'.cell? b = some y ∧ W'.cell? c = some z :=
  ⟨(hb.cell (p := a) (block_lt_of_cell h.1)).trans h.1, (hb.cell (p := b) (block_lt_of_cell h.2.1)).trans h.2.1, (hb.cell (p := c) (block_lt_of_cell h.2.2)).trans h.2.2⟩

set_option maxHeartbeats 1600000 in
theorem poll_any (s p : Nat) (S S' : St) (a k : Int) (y : Int) (r : Bool) (e : Int) (w : World) (h : Sq w s p S) (hs : poll S (a, k) = (S', y, r, e)) :
    Calls Try.prog 14 #[.pointer (some ⟨s, 0, none⟩), .int .u32 a, .int .i64 k] w fun en w' => en = .returned (.tuple #[.int .u32 y, .bool r, .int .i64 e]) ∧ Sq w' s p S' ∧ Only s w w' := by
  have HE := Lib.hid (ensure_ok s p S w h)
  have h1 := h.alloc (.cells #[.int .u32 a, .int .i64 k] 55)
  have hb1 : Below w.heap.size w (w.alloc (.cells #[.int .u32 a, .int .i64 k] 55)) := (Below.refl _ _).alloc (Nat.le_refl _) _
  have bx := box_new w 55 (.int .u32 a) (.int .i64 k)
  unfold poll at hs
  cases hp : perm (a, k) with
  | false =>
    rw [hp] at hs
    simp only [Bool.false_eq_true, if_false, Prod.mk.injEq] at hs
    obtain ⟨rfl, rfl, rfl, rfl⟩ := hs
    have HP := Lib.hid (fun W => permitted2_any a k false W hp)
    have q0 := bx.c0
    have q1 := bx.c1
    have H1 := Lib.hid h1
    have HB := Lib.hid hb1
    clear h h1 hb1 bx hp
    go_enter Try.func14, Try.ntmps14
    go_wp2_with fail
    refine HE.out.mono ?_
    rintro en w1 ⟨rfl, rfl⟩
    clear HE
    go_wp2_with fail
    refine (HP.out _).mono ?_
    rintro en w1 ⟨rfl, hb⟩
    have h2 := Lib.hid (H1.out.below hb)
    have ho := Lib.hid ((Only.of_below (p := s) HB.out).trans (Only.of_below hb))
    clear hb H1 HB q0 q1 HP
    go_wp2
    go_ret3
    exact ⟨rfl, h2.out, ho.out⟩
  | true =>
    rw [hp] at hs
    have HP := Lib.hid (fun W => permitted2_any a k true W hp)
    have H1 := Lib.hid h1
    have HB := Lib.hid hb1
    have BX := Lib.hid bx
    have q0 := bx.c0
    have q1 := bx.c1
    have HN := Lib.hid h.ne
    have HL := Lib.hid h.lts
    obtain ⟨b, m, c, x, L, W⟩ := S
    simp only [if_true] at hs
    obtain ⟨f0, hf1, hf2, hf3⟩ := h
    have HLn := Lib.hid hf3
    clear hf1 hf2 hf3 h1 hb1 bx hp
    cases m with
    | false =>
      by_cases hl : 0 < L.length
      · rw [if_pos (by simp [full, hl])] at hs
        simp only [Prod.mk.injEq] at hs
        obtain ⟨rfl, rfl, rfl, rfl⟩ := hs
        have hlp : decide ((0 : Int) < (L.length : Int)) = true := by simp; omega
        go_enter Try.func14, Try.ntmps14
        go_wp2_with fail
        refine HE.out.mono ?_
        rintro en w1 ⟨rfl, rfl⟩
        clear HE
        go_wp2_with fail
        refine (HP.out _).mono ?_
        rintro en w2 ⟨rfl, hb⟩
        have hb0 := Lib.hid (HB.out.trans (hb.mono HB.out.size))
        have H2 := Lib.hid (H1.out.below hb)
        have d0 := H2.out.c0
        have d2 := H2.out.c2
        simp only at d0 d2
        clear hb H1 HB q0 q1 HP
        go_wp2_with fail
        refine (len_ok p 70 b L w2 (HLn.out.below hb0.out)).mono ?_
        rintro en w3 ⟨rfl, rfl⟩
        go_wp2
        go_ret3
        exact ⟨rfl, H2.out, Only.of_below hb0.out⟩
      · rw [if_neg (by simp [full, hl])] at hs
        have hlp : decide ((0 : Int) < (L.length : Int)) = false := decide_eq_false (by omega)
        cases hm : met x (a, k) with
        | false =>
          rw [hm] at hs
          simp only [Bool.false_eq_true, if_false, Prod.mk.injEq] at hs
          obtain ⟨rfl, rfl, rfl, rfl⟩ := hs
          go_enter Try.func14, Try.ntmps14
          go_wp2_with fail
          refine HE.out.mono ?_
          rintro en w1 ⟨rfl, rfl⟩
          clear HE
          go_wp2_with fail
          refine (HP.out _).mono ?_
          rintro en w2 ⟨rfl, hb⟩
          have hb0 := Lib.hid (HB.out.trans (hb.mono HB.out.size))
          have H2 := Lib.hid (H1.out.below hb)
          have d0 := H2.out.c0
          have d2 := H2.out.c2
          simp only at d0 d2
          clear H1 HB q0 q1

          have d1 := H2.out.c1
          have bx2 := BX.out.below hb
          have q0 := bx2.c0
          have q1 := bx2.c1
          have HO := Lib.hid (Only.of_below (p := s) hb0.out)
          simp only at d1
          obtain ⟨g, hg⟩ : ∃ g, w.heap.size = g := ⟨_, rfl⟩
          rw [hg] at bx2 HL q0 q1 ⊢
          have hgs : s ≠ g := by have := HL.out; omega
          clear hg HL bx2 hb HP BX

          go_wp2_with fail
          refine (len_ok p 70 b L w2 (HLn.out.below hb0.out)).mono ?_
          rintro en w3 ⟨rfl, rfl⟩
          go_wp2_with fail

          have HM := Lib.hid (fun W => metBy_any x a k _ W hm)
          go_region_held3 (fun W => W.cell? ⟨g, 0, none⟩ = some (.int .u32 a) ∧ W.cell? ⟨g, 1, none⟩ = some (.int .i64 k) ∧ W.cell? ⟨s, 1, none⟩ = some (.int .u32 x))
            (first | exact ⟨q0, q1, d1⟩ | exact three_below hb5 (by assumption) | assumption)
            (first
              | (go_at_call 33; refine (HM.out _).mono ?_; rintro en w5 ⟨rfl, hb5⟩))
          have hb6 : Below w2.heap.size w2 w5 := ⟨hb5.os, hb5.tape, hb5.output, hb5.size, hb5.block⟩
          have H5 := Lib.hid (H2.out.below hb6)
          have HO5 := Lib.hid (HO.out.trans (Only.of_below hb6))

          clear hb5 hb6 d0 d1 d2 q0 q1 HM
          go_wp2
          go_ret3
          exact ⟨rfl, H5.out, HO5.out⟩
        | true =>
          rw [hm] at hs
          simp only [if_true, Prod.mk.injEq] at hs
          obtain ⟨rfl, rfl, rfl, rfl⟩ := hs
          go_enter Try.func14, Try.ntmps14
          go_wp2_with fail
          refine HE.out.mono ?_
          rintro en w1 ⟨rfl, rfl⟩
          clear HE
          go_wp2_with fail
          refine (HP.out _).mono ?_
          rintro en w2 ⟨rfl, hb⟩
          have hb0 := Lib.hid (HB.out.trans (hb.mono HB.out.size))
          have H2 := Lib.hid (H1.out.below hb)
          have d0 := H2.out.c0
          have d2 := H2.out.c2
          simp only at d0 d2
          clear H1 HB q0 q1

          have d1 := H2.out.c1
          have bx2 := BX.out.below hb
          have q0 := bx2.c0
          have q1 := bx2.c1
          have HO := Lib.hid (Only.of_below (p := s) hb0.out)
          simp only at d1
          obtain ⟨g, hg⟩ : ∃ g, w.heap.size = g := ⟨_, rfl⟩
          rw [hg] at bx2 HL q0 q1 ⊢
          have hgs : s ≠ g := by have := HL.out; omega
          clear hg HL bx2 hb HP BX

          go_wp2_with fail
          refine (len_ok p 70 b L w2 (HLn.out.below hb0.out)).mono ?_
          rintro en w3 ⟨rfl, rfl⟩
          go_wp2_with fail

          have HM := Lib.hid (fun W => metBy_any x a k _ W hm)
          go_region_held3 (fun W => W.cell? ⟨g, 0, none⟩ = some (.int .u32 a) ∧ W.cell? ⟨g, 1, none⟩ = some (.int .i64 k) ∧ W.cell? ⟨s, 1, none⟩ = some (.int .u32 x))
            (first | exact ⟨q0, q1, d1⟩ | exact three_below hb5 (by assumption) | assumption)
            (first
              | (go_at_call 33; refine (HM.out _).mono ?_; rintro en w5 ⟨rfl, hb5⟩))
          have hb6 : Below w2.heap.size w2 w5 := ⟨hb5.os, hb5.tape, hb5.output, hb5.size, hb5.block⟩
          have H5 := Lib.hid (H2.out.below hb6)
          have HO5 := Lib.hid (HO.out.trans (Only.of_below hb6))

          clear hb5 hb6 d0 d1 d2 q0 q1 HM
          go_wp2_with fail
          refine (give_any s p _ w5 H5.out).mono ?_
          rintro en w6 ⟨rfl, h6, ho6⟩
          have HO6 := Lib.hid (HO5.out.trans ho6)
          clear ho6
          go_wp2
          go_ret3
          exact ⟨rfl, h6, HO6.out⟩
    | true =>
      rw [if_neg (by simp [full])] at hs
      cases hm : met x (a, k) with
      | false =>
        rw [hm] at hs
        simp only [Bool.false_eq_true, if_false, Prod.mk.injEq] at hs
        obtain ⟨rfl, rfl, rfl, rfl⟩ := hs
        go_enter Try.func14, Try.ntmps14
        go_wp2_with fail
        refine HE.out.mono ?_
        rintro en w1 ⟨rfl, rfl⟩
        clear HE
        go_wp2_with fail
        refine (HP.out _).mono ?_
        rintro en w2 ⟨rfl, hb⟩
        have hb0 := Lib.hid (HB.out.trans (hb.mono HB.out.size))
        have H2 := Lib.hid (H1.out.below hb)
        have d0 := H2.out.c0
        have d2 := H2.out.c2
        simp only at d0 d2
        clear H1 HB q0 q1

        have d1 := H2.out.c1
        have bx2 := BX.out.below hb
        have q0 := bx2.c0
        have q1 := bx2.c1
        have HO := Lib.hid (Only.of_below (p := s) hb0.out)
        simp only at d1
        obtain ⟨g, hg⟩ : ∃ g, w.heap.size = g := ⟨_, rfl⟩
        rw [hg] at bx2 HL q0 q1 ⊢
        have hgs : s ≠ g := by have := HL.out; omega
        clear hg HL bx2 hb HP BX

        go_wp2_with fail

        have HM := Lib.hid (fun W => metBy_any x a k _ W hm)
        go_region_held3 (fun W => W.cell? ⟨g, 0, none⟩ = some (.int .u32 a) ∧ W.cell? ⟨g, 1, none⟩ = some (.int .i64 k) ∧ W.cell? ⟨s, 1, none⟩ = some (.int .u32 x))
          (first | exact ⟨q0, q1, d1⟩ | exact three_below hb5 (by assumption) | assumption)
          (first
            | (go_at_call 33; refine (HM.out _).mono ?_; rintro en w5 ⟨rfl, hb5⟩))
        have hb6 : Below w2.heap.size w2 w5 := ⟨hb5.os, hb5.tape, hb5.output, hb5.size, hb5.block⟩
        have H5 := Lib.hid (H2.out.below hb6)
        have HO5 := Lib.hid (HO.out.trans (Only.of_below hb6))

        clear hb5 hb6 d0 d1 d2 q0 q1 HM
        go_wp2
        go_ret3
        exact ⟨rfl, H5.out, HO5.out⟩
      | true =>
        rw [hm] at hs
        simp only [if_true, Prod.mk.injEq] at hs
        obtain ⟨rfl, rfl, rfl, rfl⟩ := hs
        go_enter Try.func14, Try.ntmps14
        go_wp2_with fail
        refine HE.out.mono ?_
        rintro en w1 ⟨rfl, rfl⟩
        clear HE
        go_wp2_with fail
        refine (HP.out _).mono ?_
        rintro en w2 ⟨rfl, hb⟩
        have hb0 := Lib.hid (HB.out.trans (hb.mono HB.out.size))
        have H2 := Lib.hid (H1.out.below hb)
        have d0 := H2.out.c0
        have d2 := H2.out.c2
        simp only at d0 d2
        clear H1 HB q0 q1

        have d1 := H2.out.c1
        have bx2 := BX.out.below hb
        have q0 := bx2.c0
        have q1 := bx2.c1
        have HO := Lib.hid (Only.of_below (p := s) hb0.out)
        simp only at d1
        obtain ⟨g, hg⟩ : ∃ g, w.heap.size = g := ⟨_, rfl⟩
        rw [hg] at bx2 HL q0 q1 ⊢
        have hgs : s ≠ g := by have := HL.out; omega
        clear hg HL bx2 hb HP BX

        go_wp2_with fail

        have HM := Lib.hid (fun W => metBy_any x a k _ W hm)
        go_region_held3 (fun W => W.cell? ⟨g, 0, none⟩ = some (.int .u32 a) ∧ W.cell? ⟨g, 1, none⟩ = some (.int .i64 k) ∧ W.cell? ⟨s, 1, none⟩ = some (.int .u32 x))
          (first | exact ⟨q0, q1, d1⟩ | exact three_below hb5 (by assumption) | assumption)
          (first
            | (go_at_call 33; refine (HM.out _).mono ?_; rintro en w5 ⟨rfl, hb5⟩))
        have hb6 : Below w2.heap.size w2 w5 := ⟨hb5.os, hb5.tape, hb5.output, hb5.size, hb5.block⟩
        have H5 := Lib.hid (H2.out.below hb6)
        have HO5 := Lib.hid (HO.out.trans (Only.of_below hb6))

        clear hb5 hb6 d0 d1 d2 q0 q1 HM
        go_wp2_with fail
        refine (give_any s p _ w5 H5.out).mono ?_
        rintro en w6 ⟨rfl, h6, ho6⟩
        have HO6 := Lib.hid (HO5.out.trans ho6)
        clear ho6
        go_wp2
        go_ret3
        exact ⟨rfl, h6, HO6.out⟩

theorem Agr.sub {f : Nat → Wi} {S : St} (h : Agr f S) {M : List It} (hs : List.Sublist M S.L) : Agr f (setl S M) := fun y hy => h y (hs.mem hy)
theorem agr_addW {f : Nat → Wi} {S : St} (h : Agr f S) (hg : Good S.b S.L) {id pri : Int} {v : Wi} (hc : addC S.L id pri = 0) {t : Nat} (ht : id = (t : Int)) {g : Nat → Wi} (hg' : ∀ i, g i = if i = t then v else f i) : Agr g (addW S id pri v) := by
  intro y hy
  show g y.1.toNat = if addC S.L id pri = 0 ∧ y.1 = id then v else S.W y.1
  obtain ⟨_, _, hn⟩ := addC_new hc
  rw [hg']
  rcases addL_mem hy with hy | ⟨rfl, _⟩
  · have h1 := not_pos hn y hy
    have h2 := hg.rng y hy
    rw [if_neg (by omega), if_neg (fun h => h1 h.2)]
    exact h y hy
  · rw [if_pos (by show id.toNat = t; omega), if_pos ⟨hc, rfl⟩]
theorem agr_addN {f : Nat → Wi} {S : St} (h : Agr f S) {id pri : Int} {v : Wi} (hc : addC S.L id pri ≠ 0) : Agr f (addW S id pri v) := by
  intro y hy
  show f y.1.toNat = if addC S.L id pri = 0 ∧ y.1 = id then v else S.W y.1
  rw [if_neg (fun h => hc h.1)]
  rcases addL_mem hy with hy | ⟨_, h0⟩
  · exact h y hy
  · exact absurd h0 hc

set_option maxHeartbeats 1600000 in
theorem wait_any (s p : Nat) (S S' : St) (id pri a k : Int) (y : Int) (r : Bool) (e : Int) (w : World) (h : Sq w s p S) (hf : Fine S) (hs : wait S id pri (a, k) = (S', y, r, e)) :
    Calls Try.prog 12 #[.pointer (some ⟨s, 0, none⟩), .int .i64 id, .int .i64 pri, .int .u32 a, .int .i64 k] w fun en w' => en = .returned (.tuple #[.int .u32 y, .bool r, .int .i64 e]) ∧ Sq w' s p S' ∧ On2 s p w w' := by
  rcases wait_cases S id pri (a, k) with ⟨e1, e2⟩ | ⟨hp, e2, e1⟩
  · rw [e1] at hs
    rw [hs] at e2
    simp only at e2
    have HP := Lib.hid (poll_any s p S S' a k y r e w h hs)
    clear h hf hs e1
    cases r with
    | true =>
      clear e2
      go_enter Try.func12, Try.ntmps12
      go_wp2_with fail
      refine HP.out.mono ?_
      rintro en w1 ⟨rfl, h1, ho⟩
      go_wp2
      go_ret3
      exact ⟨rfl, h1, On2.fst ho⟩
    | false =>
      have e3 : e ≠ 0 := by rcases e2 with e2 | e2
                            · cases e2
                            · exact e2
      have t1 : (e != 0) = true := by simpa using e3
      clear e2 e3
      go_enter Try.func12, Try.ntmps12
      go_wp2_with fail
      refine HP.out.mono ?_
      rintro en w1 ⟨rfl, h1, ho⟩
      go_wp2
      go_ret3
      exact ⟨rfl, h1, On2.fst ho⟩
  · rw [e1] at hs
    simp only [Prod.mk.injEq] at hs
    obtain ⟨rfl, rfl, rfl, rfl⟩ := hs
    have HP := Lib.hid (poll_any s p S S a k 0 false 0 w h e2)
    have HN := Lib.hid h.ne
    have HG := Lib.hid hf.q
    clear h hf e2 e1 hp
    go_enter Try.func12, Try.ntmps12
    go_wp2_with fail
    refine HP.out.mono ?_
    rintro en w1 ⟨rfl, h1, ho⟩
    clear HP
    obtain ⟨f, g1, g2, g3⟩ := h1
    have d0 := g1.c0
    go_wp2_with fail
    refine (add_any p S.b S.L w1 g3 HG.out id pri).mono ?_
    rintro en w2 ⟨rfl, hl2, ho2⟩
    have g4 := g1.only ho2 HN.out
    have HO := Lib.hid ((On2.fst (p := p) ho).trans (On2.one (s := s) ho2))
    clear g1 g3 d0 ho ho2
    by_cases hc : addC S.L id pri = 0
    · obtain ⟨hid, _, _⟩ := addC_new hc
      have HA := Lib.hid (fun t ht g hg => agr_addW g2 HG.out (id := id) (pri := pri) (v := (a, k)) hc (t := t) ht (g := g) hg)
      rw [hc]
      obtain ⟨t, ht⟩ : ∃ t : Nat, id = (t : Int) := ⟨id.toNat, by omega⟩
      subst ht
      have ht : t < 17 := by omega
      have hti : (t : Int) < 17 := by omega
      have y1 := (g4.cw ht).1
      have z1 := g4.fz (4 + t * 2)
      have g5 := g4.setA ht a
      have y2 := (g5.cw ht).2
      have z2 := g5.fz (4 + t * 2 + 1)
      have G6 := Lib.hid (g5.setB ht k)
      have HL := Lib.hid ((hl2.keep (w' := w2.setCell ⟨s, 4 + t * 2, none⟩ (.int .u32 a)) (Below.heap_setCell _ _ _ _ (Ne.symm HN.out))).keep (w' := (w2.setCell ⟨s, 4 + t * 2, none⟩ (.int .u32 a)).setCell ⟨s, 4 + t * 2 + 1, none⟩ (.int .i64 k)) (Below.heap_setCell _ _ _ _ (Ne.symm HN.out)))
      have HO2 := Lib.hid ((HO.out.setCell (q := ⟨s, 4 + t * 2, none⟩) (.inl rfl) (.int .u32 a)).setCell (q := ⟨s, 4 + t * 2 + 1, none⟩) (.inl rfl) (.int .i64 k))
      have HC := Lib.hid hc
      clear g4 g5 hl2 HO g2 hid hc
      go_wp2
      go_ret3
      refine ⟨by rw [HC.out]; rfl, ⟨_, G6.out, HA.out t rfl _ fun i => ?_, HL.out⟩, HO2.out⟩
      by_cases hi : i = t
      · simp [hi]
      · simp [hi]
    · have t1 : (addC S.L id pri == 0) = false := by simpa using hc
      have HA := Lib.hid (agr_addN g2 (id := id) (pri := pri) (v := (a, k)) hc)
      have G4 := Lib.hid g4
      have HL := Lib.hid hl2
      obtain ⟨ec, he⟩ : ∃ ec, addC S.L id pri = ec := ⟨_, rfl⟩
      rw [he] at t1 ⊢
      have HC := Lib.hid he
      clear g4 hl2 g2 hc he
      go_wp2
      go_ret3
      exact ⟨by rw [HC.out]; rfl, ⟨f, G4.out, HA.out, HL.out⟩, HO.out⟩
end Go.Proofs.Ythgcmjiebdnnfaa
