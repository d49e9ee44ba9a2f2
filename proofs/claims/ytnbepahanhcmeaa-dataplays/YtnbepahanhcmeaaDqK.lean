/- What the laws of package dtq use: the contracts with their world held below; rows of numbers that are read; Same; known. -/
import Derived.Test.YtnbepahanhcmeaaDqD
import Derived.ProofKit
import Derived.OpenShut
namespace Go.Proofs.Ytnbepahanhcmeaa
open Go.RowKit
set_option maxRecDepth 100000

/-- a data queue that came behind w; what was there is as it was in w -/
structure At (w : World) (s : Nat) (v : Value) (t : St) (w' : World) : Prop where
  q : Dq w' w.heap.size s v t
  f : Fine t
  b : Below w.heap.size w w'
theorem At.below {w w1 w2 : World} {s : Nat} {v : Value} {t : St} (h : At w s v t w1) (k : Below w1.heap.size w1 w2) : At w s v t w2 := ⟨h.q.below k, h.f, h.b.trans (k.mono h.b.size)⟩
theorem At.alloc {w w1 : World} {s : Nat} {v : Value} {t : St} (h : At w s v t w1) (o : Obj) : At w s v t (w1.alloc o) := h.below ((Below.refl _ _).alloc (Nat.le_refl _) o)
theorem At.drew {w w1 : World} {s : Nat} {v : Value} {t : St} (h : At w s v t w1) : At w s v t w1.drew := h.below ⟨rfl, rfl, rfl, Nat.le_refl _, fun _ _ => rfl⟩
theorem At.drewN {w w1 : World} {s : Nat} {v : Value} {t : St} (h : At w s v t w1) (n : Nat) : At w s v t (w1.drewN n) := h.below ⟨rfl, rfl, rfl, Nat.le_refl _, fun _ _ => rfl⟩
theorem At.go {w w1 w2 : World} {s : Nat} {v v' : Value} {t t' : St} (h : At w s v t w1) (q : Dq w2 w.heap.size s v' t') (f : Fine t') (k : Dt s v v' w1 w2) : At w s v' t' w2 :=
  ⟨q, f, h.b.trans (k.under h.q h.b.size)⟩
theorem At.d {w w1 : World} {s : Nat} {v : Value} {t : St} (h : At w s v t w1) : t.D.length ≤ 64 := by have := h.f.d; have := h.f.m; omega

theorem new_at (w w1 : World) (b : Bool) (m : Nat) (hm : m ≤ 64) (hb : Below w.heap.size w w1) :
    Calls Try.prog 10 #[.bool b, .int .i64 (m : Int)] w1 fun e w' => ∃ (s : Nat) (v : Value), e = .returned (.tuple #[.pointer (some ⟨s, 0, none⟩), .int .i64 0]) ∧ At w s v (st0 b m) w' ∧ Below w1.heap.size w1 w' ∧ w1.heap.size ≤ s ∧ ∀ k, v.ownBlock = some k → w1.heap.size ≤ k := by
  refine (dnew_ok b m hm w1).mono ?_
  rintro e w2 ⟨s, v, rfl, hq, hk⟩
  exact ⟨s, v, rfl, ⟨hq.lower hb.size, st0_fine hm, hb.trans (hk.mono hb.size)⟩, hk, hq.b, hq.base⟩
theorem trySend_at {w w1 : World} {s : Nat} {v : Value} {t t' : St} {x r : Int} {k : Bool} (h : At w s v t w1) (hs : trySend t x = (t', k, r)) :
    Calls Try.prog 14 #[.pointer (some ⟨s, 0, none⟩), .int .i64 x] w1 fun e w' => e = .returned (.tuple #[.bool k, .int .i64 r]) ∧ ∃ v', At w s v' t' w' ∧ Dt s v v' w1 w' := by
  refine (trySend_any _ s v t t' x r k w1 h.q h.f hs).mono ?_
  rintro e w2 ⟨rfl, v', hq, hk⟩
  exact ⟨rfl, v', h.go hq (h.f.trySend hs) hk, hk⟩
theorem send_at {w w1 : World} {s : Nat} {v : Value} {t t' : St} {id pri x r c : Int} {k : Bool} (h : At w s v t w1) (hs : send t id pri x = (t', k, r, c)) :
    Calls Try.prog 12 #[.pointer (some ⟨s, 0, none⟩), .int .i64 id, .int .i64 pri, .int .i64 x] w1 fun e w' => e = .returned (.tuple #[.bool k, .int .i64 r, .int .i64 c]) ∧ ∃ v', At w s v' t' w' ∧ Dt s v v' w1 w' := by
  refine (send_any _ s v t t' id pri x r c k w1 h.q h.f hs).mono ?_
  rintro e w2 ⟨rfl, v', hq, hk⟩
  exact ⟨rfl, v', h.go hq (h.f.send hs) hk, hk⟩
theorem force_at {w w1 : World} {s : Nat} {v : Value} {t t' : St} {x r c : Int} (h : At w s v t w1) (hs : force t x = (t', r, c)) :
    Calls Try.prog 16 #[.pointer (some ⟨s, 0, none⟩), .int .i64 x] w1 fun e w' => e = .returned (.tuple #[.int .i64 r, .int .i64 c]) ∧ ∃ v', At w s v' t' w' ∧ Dt s v v' w1 w' := by
  refine (force_any _ s v t t' x r c w1 h.q h.f hs).mono ?_
  rintro e w2 ⟨rfl, v', hq, hk⟩
  exact ⟨rfl, v', h.go hq (h.f.force hs) hk, hk⟩
theorem tryRecv_at {w w1 : World} {s : Nat} {v : Value} {t t' : St} {d r : Int} {k : Bool} (h : At w s v t w1) (hs : tryRecv t = (t', d, k, r)) :
    Calls Try.prog 21 #[.pointer (some ⟨s, 0, none⟩)] w1 fun e w' => e = .returned (.agg #[.int .i64 d, .bool k, .int .i64 r]) ∧ ∃ v', At w s v' t' w' ∧ Dt s v v' w1 w' := by
  refine (tryRecv_any _ s v t t' d r k w1 h.q h.f hs).mono ?_
  rintro e w2 ⟨rfl, v', hq, hk⟩
  exact ⟨rfl, v', h.go hq (h.f.tryRecv hs) hk, hk⟩
theorem recv_at {w w1 : World} {s : Nat} {v : Value} {t t' : St} {id pri d r c : Int} {k : Bool} (h : At w s v t w1) (hs : recv t id pri = (t', d, k, r, c)) :
    Calls Try.prog 18 #[.pointer (some ⟨s, 0, none⟩), .int .i64 id, .int .i64 pri] w1 fun e w' => e = .returned (.tuple #[.agg #[.int .i64 d, .bool k, .int .i64 r], .int .i64 c]) ∧ ∃ v', At w s v' t' w' ∧ Dt s v v' w1 w' := by
  refine (recv_any _ s v t t' id pri d r c k w1 h.q h.f hs).mono ?_
  rintro e w2 ⟨rfl, v', hq, hk⟩
  exact ⟨rfl, v', h.go hq (h.f.recv hs) hk, hk⟩
theorem drop_at {w w1 : World} {s : Nat} {v : Value} {t t' : St} {id : Int} {k : Bool} (h : At w s v t w1) (hs : drop t id = (t', k)) :
    Calls Try.prog 23 #[.pointer (some ⟨s, 0, none⟩), .int .i64 id] w1 fun e w' => e = .returned (.bool k) ∧ At w s v t' w' ∧ Dt s v v w1 w' := by
  refine (drop_any _ s v t t' id k w1 h.q h.f hs).mono ?_
  rintro e w2 ⟨rfl, hq, hk⟩
  exact ⟨rfl, h.go hq (by have := h.f.drop id; rw [hs] at this; exact this) hk, hk⟩
theorem change_at {w w1 : World} {s : Nat} {v : Value} {t t' : St} {id pri : Int} {k : Bool} (h : At w s v t w1) (hs : change t id pri = (t', k)) :
    Calls Try.prog 25 #[.pointer (some ⟨s, 0, none⟩), .int .i64 id, .int .i64 pri] w1 fun e w' => e = .returned (.bool k) ∧ At w s v t' w' ∧ Dt s v v w1 w' := by
  refine (change_any' _ s v t t' id pri k w1 h.q h.f hs).mono ?_
  rintro e w2 ⟨rfl, hq, hk⟩
  exact ⟨rfl, h.go hq (by have := h.f.change id pri; rw [hs] at this; exact this) hk, hk⟩
theorem data_at {w w1 : World} {s : Nat} {v : Value} {t : St} (h : At w s v t w1) :
    Calls Try.prog 31 #[.pointer (some ⟨s, 0, none⟩)] w1 fun e w' => ∃ u, e = .returned u ∧ Ow w' w1.heap.size u t.D ∧ Below w1.heap.size w1 w' := data_any _ s v t w1 h.q (by have := h.d; omega)
theorem senders_at {w w1 : World} {s : Nat} {v : Value} {t : St} (h : At w s v t w1) :
    Calls Try.prog 32 #[.pointer (some ⟨s, 0, none⟩)] w1 fun e w' => ∃ u, e = .returned u ∧ Ow w' w1.heap.size u (t.S.map Prod.fst) ∧ Below w1.heap.size w1 w' := senders_any _ s v t w1 h.q h.f
theorem receivers_at {w w1 : World} {s : Nat} {v : Value} {t : St} (h : At w s v t w1) :
    Calls Try.prog 33 #[.pointer (some ⟨s, 0, none⟩)] w1 fun e w' => ∃ u, e = .returned u ∧ Ow w' w1.heap.size u (t.R.map Prod.fst) ∧ Below w1.heap.size w1 w' := receivers_any _ s v t w1 h.q h.f

/-- a call's own variable stays -/
theorem Box3.dt {w w' : World} {B s g : Nat} {v v' a b c : Value} {t : St} (bx : Box3 w g 44 a b c) (q : Dq w B s v t) (k : Dt s v v' w w') : Box3 w' g 44 a b c :=
  bx.keep (k.block g bx.lt (by rintro rfl; exact q.c.type (e := 44) (by decide) _ _ bx) (own_ne q.o (fun cs fr e => by unfold Box3 at bx; rw [bx] at e; injection e with e; injection e with _ e; cases e)))

/-- numbers that are read -/
def Nr (w : World) (v : Value) (L : List Int) : Prop :=
  ∃ (X : Option Addr) (k : Nat), v = .slice X L.length k ∧ L.length ≤ 9223372036854775807 ∧ (0 < L.length → ∃ g o : Nat, X = some ⟨g, o, none⟩ ∧ g < w.heap.size ∧ ∀ (j : Nat) (x : Int), L[j]? = some x → w.cell? ⟨g, o + j, none⟩ = some (.int .i64 x))
theorem Nr.below {w w' : World} {v : Value} {L : List Int} (h : Nr w v L) (k : Below w.heap.size w w') : Nr w' v L := by
  obtain ⟨X, c, h1, h2, h3⟩ := h
  exact ⟨X, c, h1, h2, fun h0 => by
    obtain ⟨g, o, h4, h5, h6⟩ := h3 h0
    exact ⟨g, o, h4, Nat.lt_of_lt_of_le h5 k.size, fun j x hx => (k.cell (p := ⟨g, o + j, none⟩) h5).trans (h6 j x hx)⟩⟩
theorem Nr.of_own {w : World} {B : Nat} {v : Value} {L : List Int} (h : Ow w B v L) : Nr w v L := by
  obtain ⟨X, k, rfl, h1, h2⟩ := K.own_form h
  refine ⟨X, k, rfl, by omega, fun h0 => ?_⟩
  rcases K.own_src rfl h with ⟨_, e, _⟩ | ⟨b, o, e, hb, hc⟩
  · rw [e] at h0; simp at h0
  · exact ⟨b, o, e, hb, fun j x hx => hc j _ (by rw [vals_ci, List.getElem?_map, hx]; rfl)⟩

theorem below_dn {a w : World} (h : Below a.heap.size a w) (n : Nat) : Below a.heap.size a (w.drewN n) := below_trans h (below_drewN w n)
set_option maxHeartbeats 1600000 in
theorem same_any (va vb : Value) (L M : List Int) (r : Bool) (w : World) (ha : Nr w va L) (hb : Nr w vb M) (hr : decide (L = M) = r) :
    Calls Try.prog 30 #[va, vb] w fun e w' => e = .returned (.bool r) ∧ Below w.heap.size w w' := by
  obtain ⟨XA, ka, rfl, la, fa⟩ := ha
  obtain ⟨XB, kb, rfl, lb, fb⟩ := hb
  obtain ⟨n, hn⟩ : ∃ n, L.length = n := ⟨_, rfl⟩
  obtain ⟨m, hm⟩ : ∃ m, M.length = m := ⟨_, rfl⟩
  rw [hn] at la fa ⊢
  rw [hm] at lb fb ⊢
  have HN := Lib.hid hn
  have HM := Lib.hid hm
  have HR := Lib.hid hr
  have FA := Lib.hid fa
  have FB := Lib.hid fb
  by_cases c : n = m
  · subst c
    have t1 : ((n : Int) != (n : Int)) = false := by simp
    clear hn hm hr fa fb
    go_enter Try.func30, Try.ntmps30
    go_wp2
    go_loopw [5] (fun i wr => ∃ t : Nat, t ≤ n ∧ i = .int .i64 (t : Int) ∧ L.take t = M.take t ∧ Below w.heap.size w wr) (fun i _ => n - (intOf i).toNat)
    case atStart => exact ⟨0, Nat.zero_le _, rfl, by simp, Below.refl _ _⟩
    case round =>
      obtain ⟨t, ht, rfl, he, hb⟩ := hrel
      have HE := Lib.hid he
      have HB := Lib.hid hb
      by_cases hlt : t < n
      · have hlt' : (t : Int) < (n : Int) := by omega
        obtain ⟨x, hx⟩ : ∃ x, L[t]? = some x := ⟨_, List.getElem?_eq_getElem (by rw [HN.out]; exact hlt)⟩
        obtain ⟨y, hy⟩ : ∃ y, M[t]? = some y := ⟨_, List.getElem?_eq_getElem (by rw [HM.out]; exact hlt)⟩
        obtain ⟨g1, o1, rfl, hg1, hc1⟩ := FA.out (by omega)
        obtain ⟨g2, o2, rfl, hg2, hc2⟩ := FB.out (by omega)
        have d1 := (hb.cell (p := ⟨g1, o1 + t, none⟩) hg1).trans (hc1 t x hx)
        have d2 := (hb.cell (p := ⟨g2, o2 + t, none⟩) hg2).trans (hc2 t y hy)
        have HX := Lib.hid hx
        have HY := Lib.hid hy
        clear he hb hx hy hc1 hc2
        by_cases hxy : x = y
        · subst hxy
          have t2 : (x != x) = false := by simp
          go_wp2
          go_quiet (fail)
          go_wp2
          refine ⟨⟨t + 1, by omega, by go_num, ?_, below_dn HB.out _⟩, by simp [intOf]; omega⟩
          rw [List.take_add_one, List.take_add_one, HE.out, HX.out, HY.out]
        · have t2 : (x != y) = true := by simpa using hxy
          have HXY := Lib.hid hxy
          clear hxy
          go_wp2
          go_quiet (fail)
          go_wp2
          go_ret
          refine ⟨?_, below_dn HB.out _⟩
          rw [← HR.out, decide_eq_false (fun e => by
            have h1 := HX.out
            rw [e, HY.out] at h1
            injection h1 with h1
            exact HXY.out h1.symm)]
          rfl
      · obtain rfl : t = n := by omega
        clear he hb
        go_wp2
        go_ret
        refine ⟨?_, HB.out⟩
        have e := HE.out
        rw [List.take_of_length_le (by rw [HN.out]; exact Nat.le_refl _), List.take_of_length_le (by rw [HM.out]; exact Nat.le_refl _)] at e
        rw [← HR.out, decide_eq_true e]
        rfl
  · have t1 : ((n : Int) != (m : Int)) = true := by simp; omega
    have HC := Lib.hid c
    clear hn hm hr fa fb c
    go_enter Try.func30, Try.ntmps30
    go_wp2
    go_ret
    refine ⟨?_, Below.refl _ _⟩
    rw [← HR.out, decide_eq_false (fun e => by subst e; exact HC.out (HN.out.symm.trans HM.out))]
    rfl

theorem known_tale : ∃ t1 t2 t3 t4 t5 t6, send (st0 false 1) 1 5 10 = (t1, true, 0, 0) ∧ send t1 2 5 20 = (t2, false, 0, 0) ∧ recv t2 3 5 = (t3, 10, true, 2, 0) ∧ tryRecv t3 = (t4, 20, true, 0) ∧ recv t4 4 5 = (t5, 0, false, 0, 0) ∧ trySend t5 30 = (t6, true, 4) :=
  ⟨_, _, _, _, _, _, rfl, rfl, rfl, rfl, rfl, rfl⟩

set_option maxHeartbeats 4000000 in
theorem known_ok (w : World) : Calls Try.prog 9 #[] w fun e w' => e = .returned (.bool true) ∧ Below w.heap.size w w' := by
  obtain ⟨t1, t2, t3, t4, t5, t6, h1, h2, h3, h4, h5, h6⟩ := known_tale
  have H1 := Lib.hid h1
  have H2 := Lib.hid h2
  have H3 := Lib.hid h3
  have H4 := Lib.hid h4
  have H5 := Lib.hid h5
  have H6 := Lib.hid h6
  clear h1 h2 h3 h4 h5 h6
  have HN := Lib.hid (new_at w w false 1 (by omega) (Below.refl _ _))
  go_enter Try.func9, Try.ntmps9
  go_wp2_with fail
  refine HN.out.mono ?_
  rintro e w1 ⟨s, v0, rfl, ha, _, _, _⟩
  have HC := Lib.hid (send_at ha H1.out)
  clear ha HN H1
  go_wp2_with fail
  refine HC.out.mono ?_
  rintro e w2 ⟨rfl, v1, ha, _⟩
  have HC2 := Lib.hid (send_at ha H2.out)
  clear ha HC H2
  go_wp2_with fail
  refine HC2.out.mono ?_
  rintro e w3 ⟨rfl, v2, ha, _⟩
  have HC3 := Lib.hid (recv_at ha H3.out)
  clear ha HC2 H3
  go_wp2_with fail
  refine HC3.out.mono ?_
  rintro e w4 ⟨rfl, v3, ha, _⟩
  have bx := box3_new w4 44 (.int .i64 10) (.bool true) (.int .i64 2)
  have BX := Lib.hid bx
  have HA := Lib.hid (ha.alloc (.cells #[.int .i64 10, .bool true, .int .i64 2] 44))
  clear ha HC3 bx
  go_wp2_with fail
  generalize w4.alloc _ = wa at *
  have HC4 := Lib.hid (tryRecv_at HA.out H4.out)
  refine HC4.out.mono ?_
  rintro e w5 ⟨rfl, v4, ha, hk⟩
  have bx := BX.out.dt HA.out.q hk
  have hbb : Below w5.heap.size w5 (w5.alloc (.cells #[.int .i64 20, .bool true, .int .i64 0] 44)) := (Below.refl _ _).alloc (Nat.le_refl _) _
  have BX1 := Lib.hid (bx.below hbb)
  have BY1 := Lib.hid (box3_new w5 44 (.int .i64 20) (.bool true) (.int .i64 0))
  have HA1 := Lib.hid (ha.below hbb)
  clear ha hk bx hbb HC4 BX HA H4
  go_wp2_with fail
  generalize w5.alloc _ = wb at *
  have HC5 := Lib.hid (recv_at HA1.out H5.out)
  refine HC5.out.mono ?_
  rintro e w6 ⟨rfl, v5, ha, hk⟩
  have bx := BX1.out.dt HA1.out.q hk
  have byy := BY1.out.dt HA1.out.q hk
  have hbb : Below w6.heap.size w6 (w6.alloc (.cells #[.int .i64 0, .bool false, .int .i64 0] 44)) := (Below.refl _ _).alloc (Nat.le_refl _) _
  have BX2 := Lib.hid (bx.below hbb)
  have BY2 := Lib.hid (byy.below hbb)
  have BZ2 := Lib.hid (box3_new w6 44 (.int .i64 0) (.bool false) (.int .i64 0))
  have HA2 := Lib.hid (ha.below hbb)
  clear ha hk bx byy hbb HC5 BX1 BY1 HA1 H5
  go_wp2_with fail
  generalize w6.alloc _ = wc at *
  have HC6 := Lib.hid (trySend_at HA2.out H6.out)
  refine HC6.out.mono ?_
  rintro e w7 ⟨rfl, v6, ha, hk⟩
  have bx := BX2.out.dt HA2.out.q hk
  have byy := BY2.out.dt HA2.out.q hk
  have bz := BZ2.out.dt HA2.out.q hk
  have HB := Lib.hid ha.b
  have x0 := bx.c0
  have x1 := bx.c1
  have x2 := bx.c2
  have y0 := byy.c0
  have y1 := byy.c1
  have z1 := bz.c1
  clear ha hk bx byy bz HC6 BX2 BY2 BZ2 HA2 H6
  go_wp2
  go_ret
  exact ⟨rfl, HB.out⟩
end Go.Proofs.Ytnbepahanhcmeaa
