/- Contracts of package mbf: TrySend, Send, Drop, Change, Senders, Receivers. -/
import Derived.Test.YtneimdjgbblaoaaBfI
namespace Go.Proofs.Ytneimdjgbblaoaa
open Go.RowKit
set_option maxRecDepth 100000

theorem Below.drewN' {B : Nat} {a w : World} (h : Below B a w) (n : Nat) : Below B a (w.drewN n) := ⟨h.os, h.tape, h.output, h.size, h.block⟩

set_option maxHeartbeats 1600000 in
theorem trySend_any (B s p m : Nat) (C : Int) (t t' : St) (A : Option Addr) (n cap : Nat) (q : Nat → Int) (k : Bool) (r c : Int) (w : World) (h : Bf w B s p m C t) (hf : Fine t) (hsb : Sb w s p m A n q) (hcap : n ≤ cap) (hC : C ≤ 1000000000) (hs : trySend t (R.mkm n q) = (t', k, r, c)) :
    Calls Try.prog 13 #[.pointer (some ⟨s, 0, none⟩), .slice A n cap] w fun e w' => e = .returned (.tuple #[.bool k, .int .i64 r, .int .i64 c]) ∧ Bf w' B s p m (C + 2000) t' ∧ Dt s p m w w' := by
  have H := Lib.hid h
  have c1 := h.c.most
  obtain ⟨mm, hm⟩ : ∃ mm, t.m = mm := ⟨_, rfl⟩
  rw [hm] at c1
  rcases trySend_ways t (R.mkm n q) with ⟨hb, e1⟩ | ⟨hb, ⟨y, R0, hr, e1⟩ | ⟨hr, hS, hfit, e1⟩ | ⟨hr, hno, e1⟩⟩
  · rw [e1] at hs
    injection hs with h1 h2
    injection h2 with h2 h3
    injection h3 with h3 h4
    subst h1 h2 h3 h4
    rw [R.mkm_len, hm] at hb
    by_cases c0 : n = 0
    · subst c0
      clear h hb e1 hf hsb
      go_enter Try.func13, Try.ntmps13
      go_wp2
      go_ret3
      exact ⟨rfl, H.out.le (by omega), Dt.refl _ _ _ _⟩
    · have t1 : ((n : Int) == 0) = false := by simp; omega
      have t2 : decide ((mm : Int) < (n : Int)) = true := by simp; omega
      have t3 : decide (mm < n) = true := by simp; omega
      clear h hb e1 hf hsb
      go_enter Try.func13, Try.ntmps13
      go_wp2
      go_ret3
      exact ⟨rfl, H.out.le (by omega), Dt.refl _ _ _ _⟩
  all_goals
    rw [R.mkm_len, hm] at hb
    have t1 : ((n : Int) == 0) = false := by simp; omega
    have t2 : decide ((mm : Int) < (n : Int)) = false := by simp; omega
    have t3 : decide (mm < n) = false := by simp; omega
    rw [e1] at hs
    injection hs with h1 h2
    injection h2 with h2 h3
    injection h3 with h3 h4
    subst h2 h3 h4
    have H1 := Lib.hid h1
    obtain ⟨X, hl, hX⟩ := h.c.rq
    rw [hr] at hl
  · have hlen := hf.r.len
    rw [hr] at hlen
    have HT := Lib.hid (take_some s 70 false y R0 w hl hlen)
    have HX := Lib.hid hX
    obtain ⟨y1, y2⟩ := y
    simp only at HT ⊢
    clear h hl hX hlen hr hf h1 hb e1 hsb
    go_enter Try.func13, Try.ntmps13
    go_wp2_with fail
    refine HT.out.mono ?_
    rintro e w1 ⟨rfl, hl1, ho⟩
    have HQ := Lib.hid (H.out.turn ho (HX.out w1 R0 hl1) rfl rfl)
    have HO := Lib.hid ho
    have bx := box_new w1 60 (.int .i64 y1) (.int .i64 y2)
    have HB := Lib.hid (show Below w1.heap.size w1 (w1.alloc (.cells #[.int .i64 y1, .int .i64 y2] 60)) from (Below.refl _ _).alloc (Nat.le_refl _) _)
    have q0 := bx.c0
    clear hl1 ho bx HX HT H
    go_wp2
    go_quiet (fail)
    go_wp2
    go_ret3
    rw [← H1.out]
    exact ⟨rfl, ((HQ.out.below HB.out).drewN _).le (by omega), ((Dt.of_only HO.out).trans (.of_below HB.out)).drewN _⟩
  · have HT := Lib.hid (take_none s 70 false w hl)
    have HF := Lib.hid hf
    have HSB := Lib.hid hsb
    rw [R.mkm_len] at hfit
    clear h hl hX hr hf h1 hb e1 hsb
    go_enter Try.func13, Try.ntmps13
    go_wp2_with fail
    refine HT.out.mono ?_
    rintro e w1 ⟨rfl, hb1⟩
    have HB := Lib.hid (below_trans hb1 (show Below w1.heap.size w1 (w1.alloc (.cells #[.int .i64 0, .int .i64 0] 60)) from (Below.refl _ _).alloc (Nat.le_refl _) _))
    have hq := H.out.below HB.out
    have HQ := Lib.hid hq
    have c0 := hq.c.ring
    obtain ⟨XS, hlS, _⟩ := hq.c.sq
    have HL := Lib.hid (len_any 2 XS s 70 t.b t.S _ hlS)
    rw [hS] at HL
    have hsb1 := HSB.out.dt (.of_below HB.out)
    have HP := Lib.hid (put_bf (cap := cap) hq HF.out.n hsb1.src hcap (by omega) true hfit)
    clear hb1 hq hlS HT hsb1
    go_wp2_with fail
    refine HL.out.mono ?_
    rintro e w2 ⟨rfl, rfl⟩
    go_wp2_with fail
    refine HP.out.mono ?_
    rintro e w2 ⟨rfl, hq2, hk2⟩
    have HQ2 := Lib.hid hq2
    have HK2 := Lib.hid hk2
    clear hq2 hk2 HP c0 c1
    go_wp2
    go_ret3
    rw [← H1.out]
    refine ⟨rfl, HQ2.out.congr (by simp), (Dt.of_below HB.out).trans HK2.out⟩
  · have HT := Lib.hid (take_none s 70 false w hl)
    have HF := Lib.hid hf
    have HSB := Lib.hid hsb
    have hx : ∃ nS, t.S.length = nS := ⟨_, rfl⟩
    obtain ⟨nS, hnS⟩ := hx
    rw [R.mkm_len] at hno
    have HNO := Lib.hid hno
    clear h hl hX hr hf h1 hb e1 hsb hno
    go_enter Try.func13, Try.ntmps13
    go_wp2_with fail
    refine HT.out.mono ?_
    rintro e w1 ⟨rfl, hb1⟩
    have HB := Lib.hid (below_trans hb1 (show Below w1.heap.size w1 (w1.alloc (.cells #[.int .i64 0, .int .i64 0] 60)) from (Below.refl _ _).alloc (Nat.le_refl _) _))
    have hq := H.out.below HB.out
    have HQ := Lib.hid hq
    have c0 := hq.c.ring
    obtain ⟨XS, hlS, _⟩ := hq.c.sq
    have HL := Lib.hid (len_any 2 XS s 70 t.b t.S _ hlS)
    rw [hnS] at HL
    have HNS := Lib.hid hnS
    by_cases cS : nS = 0
    · subst cS
      have hS : t.S = [] := List.length_eq_zero_iff.1 HNS.out
      have hfit : R.fits t.N (R.tot t.G) (n : Int) = false := by have := HNO.out; rw [hS] at this; simpa using this
      have hsb1 := HSB.out.dt (.of_below HB.out)
      have HP := Lib.hid (put_bf (cap := cap) hq HF.out.n hsb1.src hcap (by omega) false hfit)
      clear hb1 hq hlS HT hsb1 hnS hS
      go_wp2_with fail
      refine HL.out.mono ?_
      rintro e w2 ⟨rfl, rfl⟩
      go_wp2_with fail
      refine HP.out.mono ?_
      rintro e w2 ⟨rfl, hq2, hk2⟩
      have HQ2 := Lib.hid hq2
      have HK2 := Lib.hid hk2
      clear hq2 hk2 HP c0 c1
      go_wp2
      go_ret3
      rw [← H1.out]
      exact ⟨rfl, HQ2.out.congr (by simp), (Dt.of_below HB.out).trans HK2.out⟩
    · have t4 : ((nS : Int) == 0) = false := by simp; omega
      clear hb1 hq hlS HT hnS
      go_wp2_with fail
      refine HL.out.mono ?_
      rintro e w2 ⟨rfl, rfl⟩
      go_wp2
      go_ret3
      rw [← H1.out]
      exact ⟨rfl, HQ.out.le (by omega), Dt.of_below HB.out⟩

set_option maxHeartbeats 1600000 in
theorem send_any (B s p m : Nat) (C : Int) (t t' : St) (id pri : Int) (A : Option Addr) (n cap : Nat) (q : Nat → Int) (k : Bool) (r c : Int) (w : World) (h : Bf w B s p m C t) (hf : Fine t) (hsb : Sb w s p m A n q) (hcap : n ≤ cap) (hC : C ≤ 1000000000) (hs : send t id pri (R.mkm n q) = (t', k, r, c)) :
    Calls Try.prog 11 #[.pointer (some ⟨s, 0, none⟩), .int .i64 id, .int .i64 pri, .slice A n cap] w fun e w' => e = .returned (.tuple #[.bool k, .int .i64 r, .int .i64 c]) ∧ Bf w' B s p m (C + 2000) t' ∧ Dt s p m w w' := by
  rcases send_ways t id pri (R.mkm n q) with ⟨t1, r1, c1, k1, h1, hk, h2⟩ | ⟨h1, hb, hr, h2⟩
  · have HT := Lib.hid (trySend_any B s p m C t t1 A n cap q k1 r1 c1 w h hf hsb hcap hC h1)
    rw [h2] at hs
    injection hs with g1 g2
    injection g2 with g2 g3
    injection g3 with g3 g4
    subst g1 g2 g3 g4
    cases k1 with
    | true =>
      clear h hf hsb h1 h2 hk
      go_enter Try.func11, Try.ntmps11
      go_wp2_with fail
      refine HT.out.mono ?_
      rintro e w1 ⟨rfl, hq, hd⟩
      have HQ := Lib.hid hq
      have HD := Lib.hid hd
      clear hq hd HT
      go_wp2
      go_ret3
      exact ⟨rfl, HQ.out, HD.out⟩
    | false =>
      have t1 : (c1 != 0) = true := by rcases hk with hk | hk; cases hk; simpa using hk
      clear h hf hsb h1 h2 hk
      go_enter Try.func11, Try.ntmps11
      go_wp2_with fail
      refine HT.out.mono ?_
      rintro e w1 ⟨rfl, hq, hd⟩
      have HQ := Lib.hid hq
      have HD := Lib.hid hd
      clear hq hd HT
      go_wp2
      go_ret3
      exact ⟨rfl, HQ.out, HD.out⟩
  · have HT := Lib.hid (trySend_any B s p m C t t A n cap q false 0 0 w h hf hsb hcap hC h1)
    rw [h2] at hs
    injection hs with g1 g2
    injection g2 with g2 g3
    injection g3 with g3 g4
    subst g2 g3
    have HW : Hid (waitS t id pri (R.mkm n q) = (t', c)) := Lib.hid (by rw [← g1, ← g4])
    have HSB := Lib.hid hsb
    have HF := Lib.hid hf
    clear h hf hsb h1 h2 hb hr g1 g4
    go_enter Try.func11, Try.ntmps11
    go_wp2_with fail
    refine HT.out.mono ?_
    rintro e w1 ⟨rfl, hq, hd⟩
    have HA := Lib.hid (wait_any B s p m (C + 2000) t t' id pri c A n cap q w1 hq HF.out (HSB.out.dt hd) HW.out)
    have HD := Lib.hid hd
    clear hq hd HT
    go_wp2_with fail
    refine HA.out.mono ?_
    rintro e w2 ⟨rfl, hq, hd⟩
    have HQ := Lib.hid hq
    have HD2 := Lib.hid hd
    clear hq hd HA
    go_wp2
    go_ret3
    exact ⟨rfl, HQ.out, HD.out.trans HD2.out⟩

set_option maxHeartbeats 1600000 in
theorem drop_any (B s p m : Nat) (C : Int) (t : St) (id : Int) (w : World) (h : Bf w B s p m C t) (hf : Fine t) (hC : C ≤ 1000000000) :
    Calls Try.prog 21 #[.pointer (some ⟨s, 0, none⟩), .int .i64 id] w fun e w' => ∃ v, e = .returned v ∧ Ow w' w.heap.size v (drop t id).2 ∧ Bf w' B s p m (C + 80000) (drop t id).1 ∧ Dt s p m w w' := by
  by_cases c : pos t.S id < t.S.length
  · have HL := Lib.hid (leave_any B s p m C t id w h hf true (decide_eq_true c))
    have HF := Lib.hid (hf.lose (List.eraseIdx_sublist t.S (pos t.S id)))
    have HE : Hid (drop t id = fill { t with S := t.S.eraseIdx (pos t.S id) }) := Lib.hid (by unfold drop; rw [if_pos c])
    clear h hf c
    go_enter Try.func21, Try.ntmps21
    go_wp2_with fail
    refine HL.out.mono ?_
    rintro e w1 ⟨rfl, hq, hd⟩
    have HA := Lib.hid (admit_any B s p m C _ w1 hq HF.out hC)
    have HD := Lib.hid hd
    clear hq hd HL
    go_wp2_with fail
    refine HA.out.mono ?_
    rintro e w2 ⟨v, rfl, ho, hq, hd⟩
    have HO := Lib.hid ho
    have HQ := Lib.hid hq
    have HD2 := Lib.hid hd
    clear ho hq hd HA
    go_wp2
    go_ret
    rw [HE.out]
    exact ⟨_, rfl, K.own_base HO.out HD.out.size, HQ.out, HD.out.trans HD2.out⟩
  · have HL := Lib.hid (leave_any B s p m C t id w h hf false (decide_eq_false c))
    have HF := Lib.hid (hf.lose (List.eraseIdx_sublist t.S (pos t.S id)))
    have HE : Hid (drop t id = ({ t with S := t.S.eraseIdx (pos t.S id), R := t.R.eraseIdx (pos t.R id) }, [])) := Lib.hid (by unfold drop; rw [if_neg c, List.eraseIdx_of_length_le (l := t.S) (by omega)])
    clear h hf c
    go_enter Try.func21, Try.ntmps21
    go_wp2_with fail
    refine HL.out.mono ?_
    rintro e w1 ⟨rfl, hq, hd⟩
    obtain ⟨X, hl, hX⟩ := hq.c.rq
    have HR := Lib.hid (remove_any s 70 false t.R w1 hl HF.out.r.len id)
    have HX := Lib.hid hX
    have HQ := Lib.hid hq
    have HD := Lib.hid hd
    clear hq hd HL hl hX
    go_wp2_with fail
    refine HR.out.mono ?_
    rintro e w2 ⟨rfl, hl, ho⟩
    have HQ2 := Lib.hid (HQ.out.turn ho (HX.out _ _ hl) rfl rfl)
    have HO := Lib.hid ho
    clear hl ho HR HX
    go_wp2
    go_ret
    rw [HE.out]
    exact ⟨_, rfl, ⟨rfl, .inl ⟨rfl, rfl⟩⟩, HQ2.out.le (by omega), HD.out.trans (.of_only HO.out)⟩

set_option maxHeartbeats 1600000 in
theorem change_any' (B s p m : Nat) (C : Int) (t : St) (id pri : Int) (w : World) (h : Bf w B s p m C t) (hf : Fine t) (hC : C ≤ 1000000000) :
    Calls Try.prog 23 #[.pointer (some ⟨s, 0, none⟩), .int .i64 id, .int .i64 pri] w fun e w' => ∃ v, e = .returned (.tuple #[v, .bool (change t id pri).2.2]) ∧ Ow w' w.heap.size v (change t id pri).2.1 ∧ Bf w' B s p m (C + 80000) (change t id pri).1 ∧ Dt s p m w w' := by
  obtain ⟨X, hl, hX⟩ := h.c.sq
  have HL := Lib.hid (change_any s 70 t.b t.S w hl hf.s id pri)
  have HX := Lib.hid (fun w' hw => hX w' (chgL t.b t.S id pri) (fun y hy => mem_chgL hy) hw)
  have H := Lib.hid h
  cases hc : chgOk t.S id pri with
  | true =>
    rw [hc] at HL
    have HF := Lib.hid (hf.chgS (id := id) (pri := pri))
    have HE : Hid (change t id pri = ((fill { t with S := chgL t.b t.S id pri }).1, (fill { t with S := chgL t.b t.S id pri }).2, true)) := Lib.hid (by unfold change; rw [if_pos hc])
    clear h hf hc hl hX
    rw [HE.out]
    go_enter Try.func23, Try.ntmps23
    go_wp2_with fail
    refine HL.out.mono ?_
    rintro e w1 ⟨rfl, hl, ho⟩
    have hq := H.out.turn ho (HX.out _ hl) rfl rfl
    have HA := Lib.hid (admit_any B s p m C _ w1 hq HF.out hC)
    have HD := Lib.hid ho
    clear hq hl ho HL HX
    go_wp2_with fail
    refine HA.out.mono ?_
    rintro e w2 ⟨v, rfl, ho, hq, hd⟩
    have HO := Lib.hid ho
    have HQ := Lib.hid hq
    have HD2 := Lib.hid hd
    clear ho hq hd HA
    go_wp2
    go_ret2
    exact ⟨_, rfl, K.own_base HO.out HD.out.size, HQ.out, (Dt.of_only HD.out).trans HD2.out⟩
  | false =>
    rw [hc] at HL
    have hS : chgL t.b t.S id pri = t.S := by
      unfold chgOk at hc; unfold chgL
      rw [if_neg (by simpa using hc)]
    have HE : Hid (change t id pri = ({ t with S := chgL t.b t.S id pri, R := chgL false t.R id pri }, [], chgOk t.R id pri)) := Lib.hid (by unfold change; rw [if_neg (by simp [hc]), hS])
    have HF := Lib.hid hf
    clear h hf hc hl hX hS
    rw [HE.out]
    go_enter Try.func23, Try.ntmps23
    go_wp2_with fail
    refine HL.out.mono ?_
    rintro e w1 ⟨rfl, hl, ho⟩
    have hq := H.out.turn ho (HX.out _ hl) rfl rfl
    obtain ⟨X2, hl2, hX2⟩ := hq.c.rq
    have HR := Lib.hid (change_any s 70 false t.R w1 hl2 HF.out.r id pri)
    have HX2 := Lib.hid hX2
    have HQ := Lib.hid hq
    have HD := Lib.hid ho
    clear hq hl ho HL HX hl2 hX2
    go_wp2_with fail
    refine HR.out.mono ?_
    rintro e w2 ⟨rfl, hl, ho⟩
    have HQ2 := Lib.hid (HQ.out.turn ho (HX2.out _ _ hl) rfl rfl)
    have HO := Lib.hid ho
    clear hl ho HR HX2
    go_wp2
    go_ret2
    exact ⟨_, rfl, ⟨rfl, .inl ⟨rfl, rfl⟩⟩, HQ2.out.le (by omega), (Dt.of_only HD.out).trans (.of_only HO.out)⟩

set_option maxHeartbeats 800000 in
theorem senders_any {w : World} {B s p m : Nat} {C : Int} {t : St} (h : Bf w B s p m C t) (hf : Fine t) :
    Calls Try.prog 29 #[.pointer (some ⟨s, 0, none⟩)] w fun e w' => ∃ v', e = .returned v' ∧ Ow w' w.heap.size v' (t.S.map Prod.fst) ∧ Below w.heap.size w w' := by
  obtain ⟨X, hl, _⟩ := h.c.sq
  have HR := Lib.hid (row_ok s 70 t.b t.S w hl hf.s.len)
  have HN := Lib.hid hf.s.len
  clear h hf hl
  go_enter Try.func29, Try.ntmps29
  go_wp2_with fail
  refine HR.out.mono ?_
  rintro e w1 ⟨u, rfl, hs, hb⟩
  have HT := Lib.hid (tasks_ok u t.S w1 hs HN.out)
  have HB := Lib.hid hb
  clear hs hb HR
  go_wp2_with fail
  refine HT.out.mono ?_
  rintro e w2 ⟨u2, rfl, ho, hb⟩
  have HO := Lib.hid (K.own_base ho HB.out.size)
  have HB2 := Lib.hid (below_trans HB.out hb)
  clear ho hb HT
  go_wp2
  go_ret
  exact ⟨_, rfl, HO.out, HB2.out⟩
set_option maxHeartbeats 800000 in
theorem receivers_any {w : World} {B s p m : Nat} {C : Int} {t : St} (h : Bf w B s p m C t) (hf : Fine t) :
    Calls Try.prog 31 #[.pointer (some ⟨s, 0, none⟩)] w fun e w' => ∃ v', e = .returned v' ∧ Ow w' w.heap.size v' (t.R.map Prod.fst) ∧ Below w.heap.size w w' := by
  obtain ⟨X, hl, _⟩ := h.c.rq
  have HR := Lib.hid (row_ok s 70 false t.R w hl hf.r.len)
  have HN := Lib.hid hf.r.len
  clear h hf hl
  go_enter Try.func31, Try.ntmps31
  go_wp2_with fail
  refine HR.out.mono ?_
  rintro e w1 ⟨u, rfl, hs, hb⟩
  have HT := Lib.hid (tasks_ok u t.R w1 hs HN.out)
  have HB := Lib.hid hb
  clear hs hb HR
  go_wp2_with fail
  refine HT.out.mono ?_
  rintro e w2 ⟨u2, rfl, ho, hb⟩
  have HO := Lib.hid (K.own_base ho HB.out.size)
  have HB2 := Lib.hid (below_trans HB.out hb)
  clear ho hb HT
  go_wp2
  go_ret
  exact ⟨_, rfl, HO.out, HB2.out⟩
end Go.Proofs.Ytneimdjgbblaoaa
