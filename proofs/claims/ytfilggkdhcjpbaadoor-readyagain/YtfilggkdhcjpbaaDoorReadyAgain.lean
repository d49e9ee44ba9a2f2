/-
  PROVED: the Go function detentlaw9.ReadyAgain returns true for every input, and its argument reads behind the call as it read before (Rows.ReadyAgainCardSaid). Condition: the library's table math/bits.deBruijn64tab stands as its initialiser lays it (the card ties it to the program's text; the repository is the pruned copy of the seat).
-/
import Derived.Test.YtfilggkdhcjpbaaDoorRdL
namespace Go.Proofs.YtfilggkdhcjpbaaDoor.readyAgain
open Go.ChangeShapes Go.WideShapes Go.ChangeAt Go.RowKit

/-- two Queues -/
structure At2 (w : World) (p r : Nat) (S T : St) (wr : World) : Prop where
  a : Qu wr p S
  b : Qu wr r T
  ne : p ≠ r
  lp : w.heap.size ≤ p
  lr : w.heap.size ≤ r
  tab : Tab wr
  bel : Below w.heap.size w wr
theorem At2.onA {w wr wr' : World} {p r : Nat} {S T S' : St} (h : At2 w p r S T wr) (hq : Qu wr' p S') (ho : Only p wr wr') : At2 w p r S' T wr' :=
  ⟨hq, h.b.only ho (Ne.symm h.ne), h.ne, h.lp, h.lr, h.tab.only ho h.a.pos, h.bel.trans (ho.below h.bel.size h.lp)⟩
theorem At2.onB {w wr wr' : World} {p r : Nat} {S T T' : St} (h : At2 w p r S T wr) (hq : Qu wr' r T') (ho : Only r wr wr') : At2 w p r S T' wr' :=
  ⟨h.a.only ho h.ne, hq, h.ne, h.lp, h.lr, h.tab.only ho h.b.pos, h.bel.trans (ho.below h.bel.size h.lr)⟩
theorem At2.below {w wr wr' : World} {p r : Nat} {S T : St} (h : At2 w p r S T wr) (hb : Below wr.heap.size wr wr') : At2 w p r S T wr' :=
  ⟨h.a.below hb, h.b.below hb, h.ne, h.lp, h.lr, h.tab.below hb, h.bel.trans (hb.mono h.bel.size)⟩

/-- nothing is asked -/
theorem idle (a : Option Addr) (n cap : Nat) (who : Int) (w : World) (hT : Tab w) (h : n = 0 ∨ (0 < n ∧ 16 < n) ∨ (0 < n ∧ n ≤ 16 ∧ who < 1) ∨ (0 < n ∧ n ≤ 16 ∧ 1 ≤ who ∧ (n : Int) < who)) :
    Calls Tryd.prog 6 #[.slice a n cap, .int .i64 who] w fun e w' => e = .returned (.bool true) ∧ Below w.heap.size w w' := by
  have HKn := Lib.hid (known_any w hT)
  clear hT
  rcases h with rfl | ⟨h1, h2⟩ | ⟨h1, h2, h3⟩ | ⟨h1, h2, h3, h4⟩
  · go_enter Tryd.func6, Tryd.ntmps6
    go_wp2_with fail
    refine HKn.out.mono ?_
    rintro e w0 ⟨rfl, hb⟩
    go_wp2
    go_ret
    exact ⟨rfl, hb⟩
  · have t1 : ((n : Int) == 0) = false := by simp; omega
    have t2 : decide ((16 : Int) < (n : Int)) = true := by simp; omega
    clear h1 h2
    go_enter Tryd.func6, Tryd.ntmps6
    go_wp2_with fail
    refine HKn.out.mono ?_
    rintro e w0 ⟨rfl, hb⟩
    go_wp2
    go_ret
    exact ⟨rfl, hb⟩
  · have t1 : ((n : Int) == 0) = false := by simp; omega
    have t2 : decide ((16 : Int) < (n : Int)) = false := by simp; omega
    have t3 : decide (who < 1) = true := by simp; omega
    clear h1 h2
    go_enter Tryd.func6, Tryd.ntmps6
    go_wp2_with fail
    refine HKn.out.mono ?_
    rintro e w0 ⟨rfl, hb⟩
    go_wp2
    go_ret
    exact ⟨rfl, hb⟩
  · have t1 : ((n : Int) == 0) = false := by simp; omega
    have t2 : decide ((16 : Int) < (n : Int)) = false := by simp; omega
    have t3 : decide (who < 1) = false := by simp; omega
    have t4 : decide ((n : Int) < who) = true := by simp; omega
    clear h1 h2 h3
    go_enter Tryd.func6, Tryd.ntmps6
    go_wp2_with fail
    refine HKn.out.mono ?_
    rintro e w0 ⟨rfl, hb⟩
    go_wp2
    go_ret
    exact ⟨rfl, hb⟩

set_option maxRecDepth 100000 in
set_option maxHeartbeats 2000000 in
theorem main (a : Option Addr) (n cap : Nat) (who : Nat) (q : Nat → Nat) (w : World) (hT : Tab w) (hs : Byt w a n q) (h0 : 0 < n) (h1 : n ≤ 16) (h2 : 1 ≤ who) (h3 : who ≤ n) :
    Calls Tryd.prog 6 #[.slice a n cap, .int .i64 (who : Int)] w fun e w' => e = .returned (.bool true) ∧ Below w.heap.size w w' := by
  have HKn := Lib.hid (known_any w hT)
  have HT := Lib.hid hT
  obtain ⟨b, o, rfl, hbl, hcl⟩ := hs h0
  have HC := Lib.hid hcl
  have t1 : ((n : Int) == 0) = false := by simp; omega
  have t2 : decide ((16 : Int) < (n : Int)) = false := by simp; omega
  have t3 : decide ((who : Int) < 1) = false := by simp; omega
  have t4 : decide ((n : Int) < (who : Int)) = false := by simp; omega
  clear hT hs hcl
  go_enter Tryd.func6, Tryd.ntmps6
  go_wp2_with fail
  refine HKn.out.mono ?_
  rintro e w0 ⟨rfl, hb⟩
  have HB := Lib.hid hb
  clear hb
  go_wp2_with fail
  refine (new_any w0 (HT.out.below HB.out).pos).mono ?_
  rintro e w1 ⟨p, hp, rfl, hq, hb⟩
  have HP := Lib.hid hp
  have HQ1 := Lib.hid hq
  have HB1 := Lib.hid hb
  clear hp hq hb
  go_wp2_with fail
  refine (new_any w1 ((HT.out.below HB.out).below HB1.out).pos).mono ?_
  rintro e w2 ⟨r, hr, rfl, hq2, hb2⟩
  have h2' : Hid (At2 w p r (fil q 4 0) (fil q 4 0) w2) := Lib.hid (by
    have z1 := HB.out.size
    have z2 := HB1.out.size
    have z3 := HQ1.out.lt
    have z4 := HP.out
    have hbel := HB.out.trans (HB1.out.mono z1)
    exact ⟨HQ1.out.below hb2, hq2, by omega, by omega, by omega, ((HT.out.below HB.out).below HB1.out).below hb2, hbel.trans (hb2.mono hbel.size)⟩)
  clear HP HQ1 HB1 HB hq2 hb2 hr HKn
  go_wp2
  go_loopw [7] (fun i wr => ∃ t : Nat, t ≤ n ∧ i = .int .i64 (t : Int) ∧ At2 w p r (fil q 4 t) (fil q 4 t) wr) (fun i _ => n - (intOf i).toNat)
  case atStart => exact ⟨0, Nat.zero_le _, rfl, h2'.out⟩
  case round =>
    obtain ⟨t, ht, rfl, hst⟩ := hrel
    have hs := Lib.hid hst
    clear hst h2'
    by_cases hlt : t < n
    · obtain ⟨hc, hq⟩ := HC.out t hlt
      have hct : wr.cell? ⟨b, o + t, none⟩ = some (.int .u8 (q t : Int)) := (hs.out.bel.cell (p := ⟨b, o + t, none⟩) hbl).trans hc
      have HF := Lib.hid (fil_add q 4 (by decide) (by decide) t (by omega) (1 + (q t : Int) % 4) (by omega))
      have hti : (t : Int) < (n : Int) := by omega
      have ht16 : t < 16 := by omega
      clear hc
      go_wp2_with fail
      refine (add_any p _ _ _ wr hs.out.a 0 HF.out.2).mono ?_
      rintro e w3 ⟨rfl, hq3, ho3⟩
      rw [HF.out.1] at hq3
      have hs3 := Lib.hid (hs.out.onA hq3 ho3)
      clear hs hq3 ho3 hct
      have hct : w3.cell? ⟨b, o + t, none⟩ = some (.int .u8 (q t : Int)) := (hs3.out.bel.cell (p := ⟨b, o + t, none⟩) hbl).trans (HC.out t hlt).1
      go_wp2_with fail
      refine (add_any r _ _ _ w3 hs3.out.b 0 HF.out.2).mono ?_
      rintro e w4 ⟨rfl, hq4, ho4⟩
      rw [HF.out.1] at hq4
      have hs4 := Lib.hid (hs3.out.onB hq4 ho4)
      clear hs3 hq4 ho4 hct
      go_wp2
      go_roundw
      case rel => exact ⟨t + 1, by omega, by go_num, hs4.out⟩
      case measure => simp [intOf]; omega
    · obtain rfl : t = n := by omega
      obtain ⟨v, hv⟩ : ∃ v, who = v + 1 := ⟨who - 1, by omega⟩
      subst hv
      obtain ⟨hc, hq⟩ := HC.out v (by omega)
      have hct : wr.cell? ⟨b, o + v, none⟩ = some (.int .u8 (q v : Int)) := (hs.out.bel.cell (p := ⟨b, o + v, none⟩) hbl).trans hc
      have hvn : (v : Int) < (t : Int) := by omega
      have hPw : (fil q 4 t).P ((v : Int) + 1) ≠ 0 := by rw [fil_P, if_pos (by omega)]; omega
      have hg := fil_good q 4 (by decide) (by decide) t (by omega)
      have hpr : inR (1 + (q v : Int) % 4) := ⟨by omega, by omega⟩
      have hwr : inR ((v : Int) + 1) := ⟨by omega, by omega⟩
      have e1 : ((fil q 4 t).del ((v : Int) + 1)).add ((v : Int) + 1) (1 + (q v : Int) % 4) = (fil q 4 t).chg ((v : Int) + 1) (1 + (q v : Int) % 4) := by
        unfold St.add St.chg
        rw [if_pos ⟨hwr, hpr, del_P _ _⟩, if_pos ⟨hpr, hPw⟩]
      have e2 : ((fil q 4 t).del ((v : Int) + 1)).addC ((v : Int) + 1) (1 + (q v : Int) % 4) = 0 := by
        unfold St.addC
        rw [if_pos ⟨hwr, hpr⟩, if_pos (del_P _ _)]
      have e3 : ((fil q 4 t).chg ((v : Int) + 1) (1 + (q v : Int) % 4)).R (1 + (q v : Int) % 4).toNat = ((fil q 4 t).del ((v : Int) + 1)).R (1 + (q v : Int) % 4).toNat ++ [(v : Int) + 1] := by
        unfold St.chg
        rw [if_pos ⟨hpr, hPw⟩]
        show (if _ = _ then _ else _) = _
        rw [if_pos rfl]
      have E1 := Lib.hid e1
      have E2 := Lib.hid e2
      have E3 := Lib.hid e3
      have ER : Hid (decide ((fil q 4 t).P ((v : Int) + 1) ≠ 0) = true) := Lib.hid (by simpa using hPw)
      have EC : Hid (decide (inR (1 + (q v : Int) % 4) ∧ (fil q 4 t).P ((v : Int) + 1) ≠ 0) = true) := Lib.hid (by simp only [decide_eq_true_eq]; exact ⟨hpr, hPw⟩)
      have HGC := Lib.hid (hg.chg ((v : Int) + 1) (1 + (q v : Int) % 4))
      clear e1 e2 e3 hPw hg hpr hwr hc
      generalize fil q 4 t = F at *
      have ew : ((v + 1 : Nat) : Int) = (v : Int) + 1 := by omega
      go_wp2_with fail
      refine (remove_any p F _ wr hs.out.a true ER.out).mono ?_
      rintro e w3 ⟨rfl, hq3, ho3⟩
      have hs3 := Lib.hid (hs.out.onA hq3 ho3)
      clear hs hq3 ho3 hct
      go_wp2_with fail
      refine (add_any p _ _ _ w3 hs3.out.a 0 E2.out).mono ?_
      rintro e w4 ⟨rfl, hq4, ho4⟩
      rw [E1.out] at hq4
      have hs4 := Lib.hid (hs3.out.onA hq4 ho4)
      clear hs3 hq4 ho4
      go_wp2_with fail
      refine (change_any r F _ _ w4 hs4.out.b true EC.out).mono ?_
      rintro e w5 ⟨rfl, hq5, ho5⟩
      have hs5 := Lib.hid (hs4.out.onB hq5 ho5)
      clear hs4 hq5 ho5
      have HAL := Lib.hid HGC.out.all_len
      have HRL := Lib.hid (HGC.out.len (1 + (q v : Int) % 4).toNat)
      generalize F.chg ((v : Int) + 1) (1 + (q v : Int) % 4) = G at *
      generalize (F.del ((v : Int) + 1)).R (1 + (q v : Int) % 4).toNat = L0 at *
      obtain ⟨m, hm⟩ : ∃ m, L0.length = m := ⟨_, rfl⟩
      have HM := Lib.hid hm
      clear hm
      have hm16 : m + 1 ≤ 16 := by have := HRL.out; rw [E3.out] at this; simp [HM.out] at this; omega
      obtain ⟨l, hl⟩ : ∃ l, G.all.length = l := ⟨_, rfl⟩
      have HL := Lib.hid hl
      have hl16 : l ≤ 16 := by rw [← hl]; exact HAL.out
      clear hl HAL HRL
      go_wp2_with fail
      refine (row_any p G _ w5 hs5.out.a _ E3.out (m + 1) (by rw [List.length_append, HM.out]; rfl)).mono ?_
      rintro e w6 ⟨Y, k, rfl, hsl, hb⟩
      have hs6 := Lib.hid (hs5.out.below hb)
      have HY := Lib.hid hsl
      clear hs5 hsl hb
      go_wp2_with fail
      refine (all_any p G w6 hs6.out.a hs6.out.tab l HL.out).mono ?_
      rintro e w7 ⟨Z1, k1, rfl, hsl, hb⟩
      have hs7 := Lib.hid (hs6.out.below hb)
      have HY7 := Lib.hid (HY.out.below hb)
      have HZ1 := Lib.hid hsl
      clear hs6 hsl hb HY
      go_wp2_with fail
      refine (all_any r G w7 hs7.out.b hs7.out.tab l HL.out).mono ?_
      rintro e w8 ⟨Z2, k2, rfl, hsl, hb⟩
      have hs8 := Lib.hid (hs7.out.below hb)
      have HY8 := Lib.hid (HY7.out.below hb)
      have HZ8 := Lib.hid (HZ1.out.below hb)
      have HZ2 := Lib.hid hsl
      clear hs7 hsl hb HY7 HZ1
      go_wp2_with fail
      refine (same_true Z1 Z2 k1 k2 l G.all w8 HL.out HZ8.out HZ2.out (by omega)).mono ?_
      rintro e w9 ⟨rfl, hb⟩
      have hs9 := Lib.hid (hs8.out.below hb)
      obtain ⟨g, o2, rfl, _, hg⟩ := (HY8.out.below hb).at_ (by simp)
      have c1 := hg m ((v : Int) + 1) (by rw [List.getElem?_append_right (by rw [HM.out]; exact Nat.le_refl _), HM.out]; simp)
      clear hs8 hb HY8 HZ8 HZ2 hg
      go_wp2
      go_ret
      exact ⟨rfl, hs9.out.bel⟩

theorem walk (a0 : Option Addr) (len0 cap0 : Nat) (z0 : List Int) (x1 : Int) (w : World) (w0 : IsRow .u8 w a0 len0 cap0 z0) (hT : Tab w) :
    Calls Tryd.prog 6 #[.slice a0 len0 cap0, .int .i64 x1] w fun e w' => e = .returned (.bool true) ∧ Below w.heap.size w w' := by
  obtain ⟨_, q, hs⟩ := byt_of w0
  by_cases c1 : len0 = 0
  · exact idle a0 len0 cap0 x1 w hT (.inl c1)
  · by_cases c2 : 16 < len0
    · exact idle a0 len0 cap0 x1 w hT (.inr (.inl ⟨by omega, c2⟩))
    · by_cases c3 : x1 < 1
      · exact idle a0 len0 cap0 x1 w hT (.inr (.inr (.inl ⟨by omega, by omega, c3⟩)))
      · by_cases c4 : (len0 : Int) < x1
        · exact idle a0 len0 cap0 x1 w hT (.inr (.inr (.inr ⟨by omega, by omega, by omega, c4⟩)))
        · obtain ⟨v, rfl⟩ : ∃ v : Nat, x1 = (v : Int) := ⟨x1.toNat, by omega⟩
          exact main a0 len0 cap0 v q w hT hs (by omega) (by omega) (by omega) (by omega)

theorem contract (H : Type) (enc : TypeId × Value → H) (W : World) (base : Nat) (args : Array Value) (ds gs : List (DataW H)) (before : List MemPlace)
    (hval : ∀ (j : Nat) t v, Tryd.f6.params[j]? = some t → args[j]? = some v → Value.okWide Tryd.prog W .any base t v)
    (hW : DataW.Whole enc Tryd.prog Tryd.f6.params.toList Rows.readyAgainSpec.vars false W args.toList ds gs before) (hL : laidMetH Tryd.prog Rows.readyAgainRow.laid W) :
    Calls Tryd.prog 6 args W fun e W' => ∃ v, e = .returned v ∧ Rows.readyAgainSpec.post enc Tryd.prog Tryd.f6 false true false false W args v W' := by
  have hW' := hW
  obtain ⟨p, q, hA0, hV, rfl, hfz, hnd⟩ := hW
  have hA : DataW.TrodAll enc Tryd.prog W 0 (fun _ => true) true Tryd.f6.params.toList args.toList ds p := hA0
  rw [Tryd.params6] at hA hval
  obtain ⟨v0, vs0, d0, ds0, p0, q0, hargs, rfl, rfl, h0, r0⟩ := trodAll_cons hA
  obtain ⟨v1, vs1, d1, ds1, p1, q1, hargs1, rfl, rfl, h1, r1⟩ := trodAll_cons r0
  subst hargs1
  obtain ⟨rfl, rfl, rfl⟩ := trodAll_nil r1
  obtain rfl : args = #[v0, v1] := by cases args; simp_all
  obtain ⟨rfl, rfl⟩ := trodVars_none hV
  obtain ⟨a0, len0, cap0, rfl⟩ := okWide_slice Tryd.underlying42 (hval 0 42 v0 rfl rfl)
  have k0 := h0
  have lt0 : ∀ x ∈ p0, x.block < W.heap.size := by obtain ⟨m, hm⟩ := k0; exact DataW.trod_lt m _ _ _ hm
  obtain ⟨z0, w0⟩ : ∃ zs, IsRow .u8 W a0 len0 cap0 zs := by
    obtain ⟨fuel, hf⟩ := h0
    rcases open_ints Tryd.underlying42 Tryd.underlying5 (by kernel_rfl) hf with ⟨hcs, _⟩ | ⟨x, l, c, zs, hcs, _, hl, hm, hz, _, hcell, hwz⟩
    · simp [Value.cells] at hcs
      obtain ⟨rfl, rfl, rfl⟩ := hcs
      exact ⟨[], .inl ⟨rfl, rfl, rfl, rfl⟩⟩
    · simp [Value.cells] at hcs
      obtain ⟨rfl, rfl, rfl⟩ := hcs
      exact ⟨zs, .inr ⟨_, rfl, hl, hm, by simpa using hz, hcell, hwz⟩⟩
  obtain ⟨x1, rfl, rfl, rfl, hwn1⟩ := open_int Tryd.underlying3 (hval 1 3 v1 rfl rfl) h1
  clear hA0
  refine (walk a0 len0 cap0 z0 x1 W w0 (tab_of hL)).mono fun e W' ⟨he, bel⟩ => ?_
  subst he
  exact ⟨_, rfl, _, _, _, [], _, [], hW', trodAll_mk1 (shut_bool Tryd.underlying4 _), (trodAll_cons_mk (Below.trod laidOut (by kernel_rfl) (of_decide_eq_true (by kernel_rfl)) k0 bel lt0) (trodAll_cons_mk (shut_int Tryd.underlying3 hwn1) trodAll_mk0)), rfl, bel.frame _, fun h => by cases h⟩

theorem laid_met (os : Os) : laidMet Tryd.prog Rows.readyAgainRow.laid ((laidWorld os).forCall (fun _ _ => 0) ⟨#[], #[.slice none 0 0, .int .i64 0], []⟩).memory :=
  laidMet_of_run' 8 (by kernel_rfl) (by kernel_rfl)
theorem reads (os : Os) {H : Type} (enc : TypeId × Value → H) : ∃ places, DataW.whole enc Tryd.prog ((laidWorld os).forCall (fun _ _ => 0) ⟨#[], #[.slice none 0 0, .int .i64 0], []⟩).memory Tryd.f6.params.toList Rows.readyAgainSpec.vars false #[Value.slice none 0 0, Value.int .i64 0].toList 8 = some ([.nil, .lit (.int .i64 0)], [], places) :=
  ⟨[], by kernel_rfl⟩

set_option maxRecDepth 100000 in
theorem lifted (os : Os) (started : os.Started) (H : Type) (enc : TypeId × Value → H) (F : Stop.Interp) :
    ReturnsInHanded {} Tryd.checked os 6 .any ((OpenSpec.ofChange Rows.readyAgainSpec).preRow enc Tryd.prog Tryd.f6 Rows.readyAgainRow.domain false Rows.readyAgainRow.laid) (((OpenSpec.ofChange Rows.readyAgainSpec).at F).post enc Tryd.prog Tryd.f6 false true false false) := by
  obtain ⟨places, hx⟩ := reads os enc
  refine returnsInHanded_of_row (C := Tryd.checked) (s := OpenSpec.ofChange Rows.readyAgainSpec) own started (by kernel_rfl) Tryd.func6
    (witness_row_at (enc := enc) (C := Tryd.checked) false (laidWorld os) #[.slice none 0 0, .int .i64 0] rfl (by kernel_rfl) (by kernel_rfl) (by kernel_rfl)
      (OpenSpec.preRow_of_cond 8 hx (by kernel_rfl) (fun k hk => by cases hk) (by kernel_rfl) (laid_met os))) ?_
  intro W base args ds gs before hval hW _ _ _ hL _ _
  exact contract H enc W base args ds gs before hval hW hL

theorem said : Rows.ReadyAgainSaid :=
  OpenClaim.holds_of_cond 6 Tryd.f6 rfl rfl rfl rfl rfl rfl rfl ⟨rfl, rfl, rfl, rfl, rfl⟩ rfl rfl rfl rfl rfl (by kernel_rfl) Tryd.func6 (by kernel_rfl)
    (of_decide_eq_true (by kernel_rfl)) (by unfold Func.isWrapper; first | (rw [if_pos (by decide +kernel)]; kernel_rfl) | (rw [if_neg (by decide +kernel)]; exact ⟨rfl, rfl⟩))
    (fun os started H enc _ F => by rw [OpenClaim.pre_eq_preRow]; exact lifted os started H enc F)

theorem plain (f : FuncId) (fn : Func) (hf : Tryd.pinned.checked.prog.funcNamed "detent/detentlaw9.ReadyAgain" = some f) (hfn : Tryd.pinned.checked.prog.funcs[f]? = some fn) :
    false = Tryd.pinned.checked.prog.looks [] ∧ ∀ (j : Nat) t, fn.params[j]? = some t → Tryd.pinned.checked.prog.wantsStandIn t = false := by
  obtain rfl : f = 6 := Option.some.inj ((show Tryd.prog.funcNamed "detent/detentlaw9.ReadyAgain" = some 6 by kernel_rfl).symm.trans hf) |>.symm
  obtain rfl : fn = Tryd.f6 := (Option.some.inj (Tryd.func6.symm.trans hfn)).symm
  refine ⟨by kernel_rfl, fun j t ht => ?_⟩
  rw [Tryd.params6] at ht
  have hm : t = 42 ∨ t = 3 := by have := Array.mem_of_getElem? ht; simpa using this
  rcases hm with rfl | rfl
  · exact (show Tryd.prog.wantsStandIn 42 = false by kernel_rfl)
  · exact (show Tryd.prog.wantsStandIn 3 = false by kernel_rfl)

/-- the statement -/
theorem proved : Rows.ReadyAgainCardSaid :=
  Claim7.holds_tied_plain_at .later [] _ _ _ _ said (fun _ h => by cases h) (by kernel_rfl) (fun _ h => by cases h) readyAgain_row_tie rfl ⟨rfl, rfl⟩ (by kernel_rfl) rfl plain (by kernel_rfl)
#print axioms proved
end Go.Proofs.YtfilggkdhcjpbaaDoor.readyAgain
namespace Go.Proofs.YtfilggkdhcjpbaaDoor
theorem readyAgain_holds : Rows.ReadyAgainCardSaid := readyAgain.proved
end Go.Proofs.YtfilggkdhcjpbaaDoor
