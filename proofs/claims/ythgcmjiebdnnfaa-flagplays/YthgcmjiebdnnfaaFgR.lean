/- The document's eventflag (detentref12) in memory: what each of its functions but Raise makes of it: the same as the program's. -/
import Derived.Test.YthgcmjiebdnnfaaRefD
import Derived.Test.YthgcmjiebdnnfaaFgK
namespace Go.Proofs.Ythgcmjiebdnnfaa
open Go.RowKit
set_option maxRecDepth 100000

/-- the document's eventflag -/
def Rs (w : World) (s q : Nat) (S : St) : Prop := ∃ f, Fg w s 50 q 35 1 S.x S.m S.c f ∧ Agr f S ∧ Rq w q S.b S.L
theorem Rs.below {w w' : World} {s q : Nat} {S : St} (h : Rs w s q S) (k : Below w.heap.size w w') : Rs w' s q S := by
  obtain ⟨f, h1, h2, h3⟩ := h; exact ⟨f, h1.below k, h2, h3.below k⟩
theorem Rs.drew {w : World} {s q : Nat} {S : St} (h : Rs w s q S) : Rs w.drew s q S := h
theorem Rs.drewN {w : World} {s q : Nat} {S : St} (h : Rs w s q S) (n : Nat) : Rs (w.drewN n) s q S := h
theorem Rs.alloc {w : World} {s q : Nat} {S : St} (h : Rs w s q S) (o : Obj) : Rs (w.alloc o) s q S := h.below ((Below.refl _ _).alloc (Nat.le_refl _) o)
theorem Rs.ne {w : World} {s q : Nat} {S : St} (h : Rs w s q S) : s ≠ q := by
  obtain ⟨f, ⟨_, cs, h1, _⟩, _, h3⟩ := h
  rintro rfl; exact h3.type (e := 50) (by decide) _ _ h1
theorem Rs.lts {w : World} {s q : Nat} {S : St} (h : Rs w s q S) : s < w.heap.size := by obtain ⟨f, h1, h2, h3⟩ := h; exact h1.lt
theorem Rs.ltq {w : World} {s q : Nat} {S : St} (h : Rs w s q S) : q < w.heap.size := by obtain ⟨f, h1, h2, h3⟩ := h; exact h3.lt
theorem Rs.c0 {w : World} {s q : Nat} {S : St} (h : Rs w s q S) : w.cell? ⟨s, 0, none⟩ = some (.pointer (some ⟨q, 0, none⟩)) := by obtain ⟨f, h1, h2, h3⟩ := h; exact h1.c0
theorem Rs.cx {w : World} {s q : Nat} {S : St} (h : Rs w s q S) : w.cell? ⟨s, 35, none⟩ = some (.int .u32 S.x) := by obtain ⟨f, h1, h2, h3⟩ := h; exact h1.cx
theorem Rs.cm {w : World} {s q : Nat} {S : St} (h : Rs w s q S) : w.cell? ⟨s, 36, none⟩ = some (.bool S.m) := by obtain ⟨f, h1, h2, h3⟩ := h; exact h1.cm
theorem Rs.cc {w : World} {s q : Nat} {S : St} (h : Rs w s q S) : w.cell? ⟨s, 37, none⟩ = some (.bool S.c) := by obtain ⟨f, h1, h2, h3⟩ := h; exact h1.cc
theorem Rs.fz {w : World} {s q : Nat} {S : St} (h : Rs w s q S) (i : Nat) : w.frozen? ⟨s, i, none⟩ = false := by obtain ⟨f, h1, h2, h3⟩ := h; exact h1.fz i
theorem Rq.keepq {w w' : World} {q : Nat} {b : Bool} {L : List It} (h : Rq w q b L) {s : Nat} (ht : ∀ cs fr, w.heap[s]? ≠ some (.cells cs 96 fr)) (hs : q ≠ s) (k : Only s w w') : Rq w' q b L := by
  obtain ⟨X, c, h1, h2, h3⟩ := h
  exact ⟨X, c, (k.block q (lt_of_heap h1) hs).trans h1, h2.only k ht, h3⟩
theorem Rs.setX {w : World} {s q : Nat} {S : St} (h : Rs w s q S) (y : Int) : Rs (w.setCell ⟨s, 35, none⟩ (.int .u32 y)) s q (setx S y) := by
  have hsp := h.ne
  obtain ⟨f, h1, h2, h3⟩ := h
  exact ⟨f, h1.setX y, h2, h3.keepq (h1.type (by decide)) (Ne.symm hsp) ((Only.refl s w).setCell (q := ⟨s, 35, none⟩) (.inl rfl) _)⟩

set_option maxHeartbeats 800000 in
theorem rgot_any (s q : Nat) (S : St) (w : World) (h : Rs w s q S) :
    Calls Try.prog 36 #[.pointer (some ⟨s, 0, none⟩)] w fun e w' => e = .returned (.int .u32 S.x) ∧ Rs w' s q (got S) ∧ Only s w w' := by
  obtain ⟨b, m, c, x, L, W⟩ := S
  have d1 := h.cx
  have d3 := h.cc
  have z1 := h.fz 35
  simp only at d1 d3
  cases c with
  | true =>
    have HS := Lib.hid (h.setX 0)
    have HO := Lib.hid ((Only.refl s w).setCell (q := ⟨s, 35, none⟩) (.inl rfl) (.int .u32 0))
    clear h
    go_enter Try.func36, Try.ntmps36
    go_wp2
    go_ret
    exact ⟨rfl, HS.out, HO.out⟩
  | false =>
    have HS := Lib.hid h
    clear h
    go_enter Try.func36, Try.ntmps36
    go_wp2
    go_ret
    exact ⟨rfl, HS.out, Only.refl _ _⟩

set_option maxHeartbeats 800000 in
theorem rmeets_any (s : Nat) (x a k : Int) (r : Bool) (w : World) (hx : w.cell? ⟨s, 35, none⟩ = some (.int .u32 x)) (hp : perm (a, k) = true) (hr : met x (a, k) = r) :
    Calls Try.prog 35 #[.pointer (some ⟨s, 0, none⟩), .agg #[.int .u32 a, .int .i64 k]] w fun e w' => e = .returned (.bool r) ∧ Below w.heap.size w w' := by
  obtain ⟨h, hh⟩ : ∃ h, bits .and .u32 x a = h := ⟨_, rfl⟩
  unfold met at hr
  unfold perm at hp
  simp only [hh] at hr
  simp only [decide_eq_true_eq] at hp
  have hb := (Below.refl w.heap.size w).alloc (Nat.le_refl _) (.cells #[.int .u32 a, .int .i64 k] 47)
  have bx := box_new w 47 (.int .u32 a) (.int .i64 k)
  have q0 := bx.c0
  have q1 := bx.c1
  have hx1 := (hb.cell (p := ⟨s, 35, none⟩) (block_lt_of_cell hx)).trans hx
  have HB := Lib.hid hb
  clear hb bx hx
  by_cases c0 : k = 0
  · obtain rfl : r = (h == a) := by
      rw [← hr, Bool.eq_iff_iff]
      simp only [decide_eq_true_eq, beq_iff_eq]
      constructor
      · rintro ⟨_, h1 | h1⟩
        · omega
        · exact h1
      · intro h1
        exact ⟨by rw [h1]; exact hp.1, .inr h1⟩
    have t0 : (k == 0) = true := by simpa using c0
    clear hr c0 hp
    go_enter Try.func35, Try.ntmps35
    go_wp2
    generalize w.alloc (.cells #[.int .u32 a, .int .i64 k] 47) = w1 at *
    go_quiet (fail)
    go_wp2
    go_ret
    exact ⟨rfl, ⟨HB.out.os, HB.out.tape, HB.out.output, HB.out.size, HB.out.block⟩⟩
  · obtain rfl : r = (h != 0) := by
      rw [← hr, Bool.eq_iff_iff]
      simp only [decide_eq_true_eq, bne_iff_ne]
      constructor
      · rintro ⟨h1, _⟩; exact h1
      · intro h1
        exact ⟨h1, .inl (by rcases hp.2 with h2 | h2; exact absurd h2 c0; exact h2)⟩
    have t0 : (k == 0) = false := by simpa using c0
    clear hr c0 hp
    go_enter Try.func35, Try.ntmps35
    go_wp2
    generalize w.alloc (.cells #[.int .u32 a, .int .i64 k] 47) = w1 at *
    go_quiet (fail)
    go_wp2
    go_ret
    exact ⟨rfl, ⟨HB.out.os, HB.out.tape, HB.out.output, HB.out.size, HB.out.block⟩⟩

set_option maxHeartbeats 1600000 in
theorem rpoll_any (s q : Nat) (S S' : St) (a k : Int) (y : Int) (r : Bool) (e : Int) (w : World) (h : Rs w s q S) (hs : poll S (a, k) = (S', y, r, e)) :
    Calls Try.prog 15 #[.pointer (some ⟨s, 0, none⟩), .int .u32 a, .int .i64 k] w fun en w' => en = .returned (.tuple #[.int .u32 y, .bool r, .int .i64 e]) ∧ Rs w' s q S' ∧ Only s w w' := by
  unfold poll at hs
  cases hp : perm (a, k) with
  | false =>
    rw [hp] at hs
    simp only [Bool.false_eq_true, if_false, Prod.mk.injEq] at hs
    obtain ⟨rfl, rfl, rfl, rfl⟩ := hs
    have hp2 : a = 0 ∨ k < 0 ∨ 1 < k := by
      unfold perm at hp
      simp only [decide_eq_false_iff_not] at hp
      by_cases c0 : a = 0
      · exact .inl c0
      · have : ¬ (k = 0 ∨ k = 1) := fun c => hp ⟨c0, c⟩
        omega
    by_cases c0 : a = 0
    · have t0 : (a == 0) = true := by simpa using c0
      clear hp hp2 c0
      go_enter Try.func15, Try.ntmps15
      go_wp2
      go_ret3
      exact ⟨rfl, h, Only.refl _ _⟩
    · have t0 : (a == 0) = false := by simpa using c0
      by_cases c1 : k < 0
      · have t1 : decide (k < 0) = true := by simpa using c1
        clear hp hp2 c0 c1
        go_enter Try.func15, Try.ntmps15
        go_wp2
        go_ret3
        exact ⟨rfl, h, Only.refl _ _⟩
      · have t1 : decide (k < 0) = false := by simpa using c1
        have t2 : decide (1 < k) = true := decide_eq_true (by omega)
        clear hp hp2 c0 c1
        go_enter Try.func15, Try.ntmps15
        go_wp2
        go_ret3
        exact ⟨rfl, h, Only.refl _ _⟩
  | true =>
    rw [hp] at hs
    simp only [if_true] at hs
    have HP := Lib.hid hp
    have hp2 : a ≠ 0 ∧ (k = 0 ∨ k = 1) := by unfold perm at hp; simpa using hp
    have t0 : (a == 0) = false := by simpa using hp2.1
    have t1 : decide (k < 0) = false := decide_eq_false (by omega)
    have t2 : decide (1 < k) = false := decide_eq_false (by omega)
    clear hp hp2
    have d0 := h.c0
    have dm := h.cm
    have dx := h.cx
    have hrq : ∃ (X : Option Addr) (kk : Nat), w.cell? ⟨q, 1, none⟩ = some (.slice X S.L.length kk) := by
      obtain ⟨f, _, _, h3⟩ := h
      obtain ⟨X, kk, _, h1, _⟩ := h3.open
      exact ⟨X, kk, h1⟩
    obtain ⟨X, kk, d1⟩ := hrq
    cases hmm : S.m with
    | true =>
      rw [hmm] at dm
      have hfull : ¬ full S = true := by unfold full; rw [hmm]; simp
      clear hmm
      rw [if_neg hfull] at hs
      cases hm : met S.x (a, k) with
      | false =>
        rw [hm] at hs
        simp only [Bool.false_eq_true, if_false, Prod.mk.injEq] at hs
        obtain ⟨rfl, rfl, rfl, rfl⟩ := hs
        have HM := Lib.hid (fun W hx => rmeets_any s S.x a k false W hx HP.out hm)
        clear hm hfull
        go_enter Try.func15, Try.ntmps15
        go_wp2_with fail
        refine (HM.out w dx).mono ?_
        rintro en w2 ⟨rfl, hb⟩
        have H2 := Lib.hid (h.below hb)
        have HO := Lib.hid (Only.of_below (p := s) hb)
        clear h hb d0 d1 dm dx HM
        go_wp2
        go_ret3
        exact ⟨rfl, H2.out, HO.out⟩
      | true =>
        rw [hm] at hs
        simp only [if_true, Prod.mk.injEq] at hs
        obtain ⟨rfl, rfl, rfl, rfl⟩ := hs
        have HM := Lib.hid (fun W hx => rmeets_any s S.x a k true W hx HP.out hm)
        clear hm hfull
        go_enter Try.func15, Try.ntmps15
        go_wp2_with fail
        refine (HM.out w dx).mono ?_
        rintro en w2 ⟨rfl, hb⟩
        have H2 := Lib.hid (h.below hb)
        have HO := Lib.hid (Only.of_below (p := s) hb)
        clear h hb d0 d1 dm dx HM
        go_wp2_with fail
        refine (rgot_any s q _ w2 H2.out).mono ?_
        rintro en w3 ⟨rfl, h3, ho3⟩
        have HO3 := Lib.hid (HO.out.trans ho3)
        clear ho3
        go_wp2
        go_ret3
        exact ⟨rfl, h3, HO3.out⟩
    | false =>
      rw [hmm] at dm
      by_cases hl : 0 < S.L.length
      · have hfull : full S = true := by unfold full; rw [hmm]; simp [hl]
        rw [if_pos hfull] at hs
        simp only [Prod.mk.injEq] at hs
        obtain ⟨rfl, rfl, rfl, rfl⟩ := hs
        have hlp : decide ((0 : Int) < (S.L.length : Int)) = true := decide_eq_true (by omega)
        have hlp2 : decide (0 < S.L.length) = true := decide_eq_true hl
        obtain ⟨ln, hln⟩ : ∃ ln, S.L.length = ln := ⟨_, rfl⟩
        rw [hln] at d1 hlp hlp2
        clear hfull hmm hl hln
        go_enter Try.func15, Try.ntmps15
        go_wp2
        go_ret3
        exact ⟨rfl, h, Only.refl _ _⟩
      · have hfull : ¬ full S = true := by unfold full; rw [hmm]; simp [hl]
        have hlp : decide ((0 : Int) < (S.L.length : Int)) = false := decide_eq_false (by omega)
        have hlp2 : decide (0 < S.L.length) = false := decide_eq_false hl
        obtain ⟨ln, hln⟩ : ∃ ln, S.L.length = ln := ⟨_, rfl⟩
        rw [hln] at d1 hlp hlp2
        clear hmm hl hln
        rw [if_neg hfull] at hs
        cases hm : met S.x (a, k) with
        | false =>
          rw [hm] at hs
          simp only [Bool.false_eq_true, if_false, Prod.mk.injEq] at hs
          obtain ⟨rfl, rfl, rfl, rfl⟩ := hs
          have HM := Lib.hid (fun W hx => rmeets_any s S.x a k false W hx HP.out hm)
          clear hm hfull
          go_enter Try.func15, Try.ntmps15
          go_wp2_with fail
          refine (HM.out w dx).mono ?_
          rintro en w2 ⟨rfl, hb⟩
          have H2 := Lib.hid (h.below hb)
          have HO := Lib.hid (Only.of_below (p := s) hb)
          clear h hb d0 d1 dm dx HM
          go_wp2
          go_ret3
          exact ⟨rfl, H2.out, HO.out⟩
        | true =>
          rw [hm] at hs
          simp only [if_true, Prod.mk.injEq] at hs
          obtain ⟨rfl, rfl, rfl, rfl⟩ := hs
          have HM := Lib.hid (fun W hx => rmeets_any s S.x a k true W hx HP.out hm)
          clear hm hfull
          go_enter Try.func15, Try.ntmps15
          go_wp2_with fail
          refine (HM.out w dx).mono ?_
          rintro en w2 ⟨rfl, hb⟩
          have H2 := Lib.hid (h.below hb)
          have HO := Lib.hid (Only.of_below (p := s) hb)
          clear h hb d0 d1 dm dx HM
          go_wp2_with fail
          refine (rgot_any s q _ w2 H2.out).mono ?_
          rintro en w3 ⟨rfl, h3, ho3⟩
          have HO3 := Lib.hid (HO.out.trans ho3)
          clear ho3
          go_wp2
          go_ret3
          exact ⟨rfl, h3, HO3.out⟩

set_option maxHeartbeats 1600000 in
theorem rwait_any (s q : Nat) (S S' : St) (id pri a k : Int) (y : Int) (r : Bool) (e : Int) (w : World) (h : Rs w s q S) (hf : Fine S) (hs : wait S id pri (a, k) = (S', y, r, e)) :
    Calls Try.prog 13 #[.pointer (some ⟨s, 0, none⟩), .int .i64 id, .int .i64 pri, .int .u32 a, .int .i64 k] w fun en w' => en = .returned (.tuple #[.int .u32 y, .bool r, .int .i64 e]) ∧ Rs w' s q S' ∧ On2 s q w w' := by
  rcases wait_cases S id pri (a, k) with ⟨e1, e2⟩ | ⟨hp, e2, e1⟩
  · rw [e1] at hs
    rw [hs] at e2
    simp only at e2
    have HP := Lib.hid (rpoll_any s q S S' a k y r e w h hs)
    clear h hf hs e1
    cases r with
    | true =>
      clear e2
      go_enter Try.func13, Try.ntmps13
      go_wp2_with fail
      refine HP.out.mono ?_
      rintro en w1 ⟨rfl, h1, ho⟩
      go_wp2
      go_ret3
      exact ⟨rfl, h1, On2.fst ho⟩
    | false =>
      have e3 : e ≠ 0 := by rcases e2 with e2 | e2
                            · cases e2
                            · exact e2
      have t1 : (e != 0) = true := by simpa using e3
      clear e2 e3
      go_enter Try.func13, Try.ntmps13
      go_wp2_with fail
      refine HP.out.mono ?_
      rintro en w1 ⟨rfl, h1, ho⟩
      go_wp2
      go_ret3
      exact ⟨rfl, h1, On2.fst ho⟩
  · rw [e1] at hs
    simp only [Prod.mk.injEq] at hs
    obtain ⟨rfl, rfl, rfl, rfl⟩ := hs
    have HP := Lib.hid (rpoll_any s q S S a k 0 false 0 w h e2)
    have HN := Lib.hid h.ne
    have HG := Lib.hid hf.q
    clear h hf e2 e1 hp
    go_enter Try.func13, Try.ntmps13
    go_wp2_with fail
    refine HP.out.mono ?_
    rintro en w1 ⟨rfl, h1, ho⟩
    clear HP
    obtain ⟨f, g1, g2, g3⟩ := h1
    have d0 := g1.c0
    go_wp2_with fail
    refine (radd_any q S.b S.L w1 g3 HG.out id pri).mono ?_
    rintro en w2 ⟨rfl, hl2, ho2⟩
    have g4 := g1.only ho2 HN.out
    have HO := Lib.hid ((On2.fst (p := q) ho).trans (On2.one (s := s) ho2))
    clear g1 g3 d0 ho ho2
    by_cases hc : addC S.L id pri = 0
    · obtain ⟨hid, _, _⟩ := addC_new hc
      have HA := Lib.hid (fun t ht g hg => agr_addW g2 HG.out (id := id) (pri := pri) (v := (a, k)) hc (t := t) ht (g := g) hg)
      rw [hc]
      obtain ⟨t, ht⟩ : ∃ t : Nat, id = (t : Int) := ⟨id.toNat, by omega⟩
      subst ht
      have ht : t < 17 := by omega
      have hti : (t : Int) < 17 := by omega
      have y1 := (g4.cw ht).1
      have z1 := g4.fz (1 + t * 2)
      have g5 := g4.setA ht a
      have y2 := (g5.cw ht).2
      have z2 := g5.fz (1 + t * 2 + 1)
      have G6 := Lib.hid (g5.setB ht k)
      have HL := Lib.hid (hl2.keepq (g4.type (by decide)) (Ne.symm HN.out) (((Only.refl s w2).setCell (q := ⟨s, 1 + t * 2, none⟩) (.inl rfl) (.int .u32 a)).setCell (q := ⟨s, 1 + t * 2 + 1, none⟩) (.inl rfl) (.int .i64 k)))
      have HO2 := Lib.hid ((HO.out.setCell (q := ⟨s, 1 + t * 2, none⟩) (.inl rfl) (.int .u32 a)).setCell (q := ⟨s, 1 + t * 2 + 1, none⟩) (.inl rfl) (.int .i64 k))
      have HC := Lib.hid hc
      clear g4 g5 hl2 HO g2 hid hc
      go_wp2
      go_ret3
      refine ⟨by rw [HC.out]; rfl, ⟨_, G6.out, HA.out t rfl _ fun i => ?_, HL.out⟩, HO2.out⟩
      by_cases hi : i = t
      · simp [hi]
      · simp [hi]
    · have t1 : (addC S.L id pri == 0) = false := by simpa using hc
      have HA := Lib.hid (agr_addN g2 (id := id) (pri := pri) (v := (a, k)) hc)
      have G4 := Lib.hid g4
      have HL := Lib.hid hl2
      obtain ⟨ec, he⟩ : ∃ ec, addC S.L id pri = ec := ⟨_, rfl⟩
      rw [he] at t1 ⊢
      have HC := Lib.hid he
      clear g4 hl2 g2 hc he
      go_wp2
      go_ret3
      exact ⟨by rw [HC.out]; rfl, ⟨f, G4.out, HA.out, HL.out⟩, HO.out⟩

theorem fg_rzero (w : World) (p : Nat) (x : Int) (m c : Bool) :
    Fg (w.alloc (.cells #[.pointer (some ⟨p, 0, none⟩), .int .u32 0, .int .i64 0, .int .u32 0, .int .i64 0, .int .u32 0, .int .i64 0, .int .u32 0, .int .i64 0, .int .u32 0, .int .i64 0, .int .u32 0, .int .i64 0, .int .u32 0, .int .i64 0, .int .u32 0, .int .i64 0, .int .u32 0, .int .i64 0, .int .u32 0, .int .i64 0, .int .u32 0, .int .i64 0, .int .u32 0, .int .i64 0, .int .u32 0, .int .i64 0, .int .u32 0, .int .i64 0, .int .u32 0, .int .i64 0, .int .u32 0, .int .i64 0, .int .u32 0, .int .i64 0, .int .u32 x, .bool m, .bool c] 50)) w.heap.size 50 p 35 1 x m c (fun _ => (0, 0)) := by
  refine ⟨.inr ⟨rfl, rfl⟩, _, heap_alloc_new w _, rfl, rfl, rfl, rfl, rfl, fun i hi => ?_⟩
  match i, hi with
  | 0, _ => exact ⟨rfl, rfl⟩
  | 1, _ => exact ⟨rfl, rfl⟩
  | 2, _ => exact ⟨rfl, rfl⟩
  | 3, _ => exact ⟨rfl, rfl⟩
  | 4, _ => exact ⟨rfl, rfl⟩
  | 5, _ => exact ⟨rfl, rfl⟩
  | 6, _ => exact ⟨rfl, rfl⟩
  | 7, _ => exact ⟨rfl, rfl⟩
  | 8, _ => exact ⟨rfl, rfl⟩
  | 9, _ => exact ⟨rfl, rfl⟩
  | 10, _ => exact ⟨rfl, rfl⟩
  | 11, _ => exact ⟨rfl, rfl⟩
  | 12, _ => exact ⟨rfl, rfl⟩
  | 13, _ => exact ⟨rfl, rfl⟩
  | 14, _ => exact ⟨rfl, rfl⟩
  | 15, _ => exact ⟨rfl, rfl⟩
  | 16, _ => exact ⟨rfl, rfl⟩
  | n + 17, h => exact absurd h (by omega)

/-- a new one of the document's -/
def MadeR (S : St) (w : World) (v : Value) (w' : World) : Prop :=
  ∃ s q : Nat, w.heap.size ≤ s ∧ w.heap.size ≤ q ∧ v = .pointer (some ⟨s, 0, none⟩) ∧ Rs w' s q S ∧ Below w.heap.size w w'

set_option maxHeartbeats 800000 in
theorem rnew_ok (b m c : Bool) (x : Int) (w : World) :
    Calls Try.prog 11 #[.bool b, .bool m, .bool c, .int .u32 x] w fun e w' => ∃ v, e = .returned v ∧ MadeR ⟨b, m, c, x, [], fun _ => (0, 0)⟩ w v w' := by
  have hr1 : Rq (w.alloc (.cells #[.bool b, .slice none 0 0] 79)) w.heap.size b [] := ⟨none, 0, heap_alloc_new _ _, .inl ⟨rfl, rfl⟩, Nat.le_refl _, by omega⟩
  have hb1 : Below w.heap.size w (w.alloc (.cells #[.bool b, .slice none 0 0] 79)) := (Below.refl _ _).alloc (Nat.le_refl _) _
  have hsz := hb1.size
  obtain ⟨w1, hw1⟩ : ∃ w1, w.alloc (.cells #[.bool b, .slice none 0 0] 79) = w1 := ⟨_, rfl⟩
  rw [hw1] at hr1 hb1 hsz
  have HL := Lib.hid (fun o => hr1.below ((Below.refl w1.heap.size w1).alloc (Nat.le_refl _) o))
  have HB := Lib.hid hb1
  clear hr1 hb1
  go_enter Try.func11, Try.ntmps11
  go_wp2
  go_ret
  subst hw1
  exact ⟨_, rfl, _, w.heap.size, hsz, Nat.le_refl _, rfl, ⟨fun _ => (0, 0), fg_rzero _ w.heap.size x m c, agr_nil _ _ _ _ _ _, HL.out _⟩, HB.out.alloc hsz _⟩
end Go.Proofs.Ythgcmjiebdnnfaa
