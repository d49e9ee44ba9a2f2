/-
  PROVED: the Go function detentlaw9.ReadyTurns returns true for every input, and its argument reads behind the call as it read before (Rows.ReadyTurnsCardSaid). Condition: the library's table math/bits.deBruijn64tab stands as its initialiser lays it (the card ties it to the program's text; the repository is the pruned copy of the seat).
-/
import Derived.Test.YtfilggkdhcjpbaaDoorRdL
namespace Go.Proofs.YtfilggkdhcjpbaaDoor.readyTurns
open Go.ChangeShapes Go.WideShapes Go.ChangeAt Go.RowKit

/-- nothing is asked -/
theorem idle (a : Option Addr) (n cap : Nat) (p : Int) (w : World) (hT : Tab w) (h : 16 < n ∨ (n ≤ 16 ∧ p < 1) ∨ (n ≤ 16 ∧ 1 ≤ p ∧ 16 < p)) :
    Calls Tryd.prog 4 #[.slice a n cap, .int .i64 p] w fun e w' => e = .returned (.bool true) ∧ Below w.heap.size w w' := by
  have HKn := Lib.hid (known_any w hT)
  clear hT
  rcases h with h1 | ⟨h1, h2⟩ | ⟨h1, h2, h3⟩
  · have t2 : decide ((16 : Int) < (n : Int)) = true := by simp; omega
    clear h1
    go_enter Tryd.func4, Tryd.ntmps4
    go_wp2_with fail
    refine HKn.out.mono ?_
    rintro e w0 ⟨rfl, hb⟩
    go_wp2
    go_ret
    exact ⟨rfl, hb⟩
  · have t2 : decide ((16 : Int) < (n : Int)) = false := by simp; omega
    have t3 : decide (p < 1) = true := by simp; omega
    clear h1
    go_enter Tryd.func4, Tryd.ntmps4
    go_wp2_with fail
    refine HKn.out.mono ?_
    rintro e w0 ⟨rfl, hb⟩
    go_wp2
    go_ret
    exact ⟨rfl, hb⟩
  · have t2 : decide ((16 : Int) < (n : Int)) = false := by simp; omega
    have t3 : decide (p < 1) = false := by simp; omega
    have t4 : decide (16 < p) = true := by simp; omega
    clear h1 h2
    go_enter Tryd.func4, Tryd.ntmps4
    go_wp2_with fail
    refine HKn.out.mono ?_
    rintro e w0 ⟨rfl, hb⟩
    go_wp2
    go_ret
    exact ⟨rfl, hb⟩

/-- a row turned once: its ends -/
theorem ends {L : List Int} {k m : Nat} (hm : L.length = m) (hk : k < m) : ∃ x y, (L.drop k ++ L.take k)[0]? = some x ∧ (L.drop (k + 1) ++ L.take (k + 1))[m - 1]? = some x ∧ (1 < m → (L.drop k ++ L.take k)[1]? = some y ∧ (L.drop (k + 1) ++ L.take (k + 1))[0]? = some y) ∧ (1 < m ∨ y = 0) := by
  have hd : L.drop k = L[k] :: L.drop (k + 1) := List.drop_eq_getElem_cons (by omega)
  have e1 : L.drop k ++ L.take k = L[k] :: (L.drop (k + 1) ++ L.take k) := by rw [hd]; rfl
  have e2 : L.drop (k + 1) ++ L.take (k + 1) = (L.drop (k + 1) ++ L.take k) ++ [L[k]] := by
    rw [List.take_add_one, List.getElem?_eq_getElem (by omega)]; simp
  have hl : (L.drop (k + 1) ++ L.take k).length = m - 1 := by simp; omega
  rw [e1, e2]
  generalize L.drop (k + 1) ++ L.take k = M at *
  by_cases c : 1 < m
  · obtain ⟨y, hy⟩ : ∃ y, M[0]? = some y := ⟨_, List.getElem?_eq_getElem (by omega)⟩
    exact ⟨L[k], y, rfl, by rw [List.getElem?_append_right (by omega), hl]; simp, fun _ => ⟨hy, by rw [List.getElem?_append_left (by omega)]; exact hy⟩, .inl c⟩
  · exact ⟨L[k], 0, rfl, by rw [List.getElem?_append_right (by omega), hl]; simp, fun h => absurd h c, .inr rfl⟩

set_option maxRecDepth 100000 in
set_option maxHeartbeats 2000000 in
theorem main (a : Option Addr) (n cap : Nat) (pr : Nat) (q : Nat → Nat) (w : World) (hT : Tab w) (hs : Byt w a n q) (h1 : n ≤ 16) (h2 : 1 ≤ pr) (h3 : pr ≤ 16) :
    Calls Tryd.prog 4 #[.slice a n cap, .int .i64 (pr : Int)] w fun e w' => e = .returned (.bool true) ∧ Below w.heap.size w w' := by
  have HKn := Lib.hid (known_any w hT)
  have HT := Lib.hid hT
  have HS := Lib.hid hs
  have t2 : decide ((16 : Int) < (n : Int)) = false := by simp; omega
  have t3 : decide ((pr : Int) < 1) = false := by simp; omega
  have t4 : decide (16 < (pr : Int)) = false := by simp; omega
  clear hT hs
  go_enter Tryd.func4, Tryd.ntmps4
  go_wp2_with fail
  refine HKn.out.mono ?_
  rintro e w0 ⟨rfl, hb⟩
  have HB := Lib.hid hb
  clear hb
  go_wp2_with fail
  refine (new_any w0 (HT.out.below HB.out).pos).mono ?_
  rintro e w1 ⟨p, hp, rfl, hq, hb⟩
  have hst : Hid (At w p (fil q 16 0) w1) := Lib.hid ⟨hq, Nat.le_trans HB.out.size hp, (HT.out.below HB.out).below hb, HB.out.trans (hb.mono HB.out.size)⟩
  clear hp hq hb HB HKn
  go_wp2
  go_loopw [6] (fun i wr => ∃ t : Nat, t ≤ n ∧ i = .int .i64 (t : Int) ∧ At w p (fil q 16 t) wr) (fun i _ => n - (intOf i).toNat)
  case atStart => exact ⟨0, Nat.zero_le _, rfl, hst.out⟩
  case round =>
    obtain ⟨t, ht, rfl, hst2⟩ := hrel
    have hs := Lib.hid hst2
    clear hst2 hst
    by_cases hlt : t < n
    · obtain ⟨b, o, rfl, hbl, hcl⟩ := HS.out (by omega)
      obtain ⟨hc, hq⟩ := hcl t hlt
      have hct : wr.cell? ⟨b, o + t, none⟩ = some (.int .u8 (q t : Int)) := (hs.out.bel.cell (p := ⟨b, o + t, none⟩) hbl).trans hc
      have HF := Lib.hid (fil_add q 16 (by decide) (by decide) t (by omega) (1 + (q t : Int) % 16) (by omega))
      have hti : (t : Int) < (n : Int) := by omega
      have ht16 : t < 16 := by omega
      clear hc hcl
      go_wp2_with fail
      refine (add_any p _ _ _ wr hs.out.q _ HF.out.2).mono ?_
      rintro e w3 ⟨rfl, hq3, ho3⟩
      rw [HF.out.1] at hq3
      have hs3 := Lib.hid (hs.out.turn hq3 ho3)
      clear hs hq3 ho3 hct
      go_wp2
      go_roundw
      case rel => exact ⟨t + 1, by omega, by go_num, hs3.out⟩
      case measure => simp [intOf]; omega
    · obtain rfl : t = n := by omega
      have HG := Lib.hid (fil_good q 16 (by decide) (by decide) t (by omega))
      generalize fil q 16 t = F at *
      obtain ⟨l, hl⟩ : ∃ l, F.all.length = l := ⟨_, rfl⟩
      have HL := Lib.hid hl
      have hl16 : l ≤ 16 := by rw [← hl]; exact HG.out.all_len
      obtain ⟨m, hm⟩ : ∃ m, (F.R pr).length = m := ⟨_, rfl⟩
      have HM := Lib.hid hm
      have hm16 : m ≤ 16 := by rw [← hm]; exact HG.out.len pr
      clear hl hm
      go_wp2_with fail
      refine (all_any p F wr hs.out.q hs.out.tab l HL.out).mono ?_
      rintro e w2 ⟨Y, ky, rfl, hsl, hb⟩
      have hs2 := Lib.hid (hs.out.below hb)
      have HY := Lib.hid hsl
      clear hs hsl hb
      go_wp2_with fail
      refine (row_any p F _ w2 hs2.out.q (F.R pr) (by rw [Int.toNat_natCast]) m HM.out).mono ?_
      rintro e w3 ⟨Z, kz, rfl, hsl, hb⟩
      have hs3 := Lib.hid (hs2.out.below hb)
      have HY3 := Lib.hid (HY.out.below hb)
      clear hs2 hsl hb HY
      have hst : Hid (At w p (F.turn pr 0) w3) := by rw [turn_0]; exact hs3
      go_wp2
      go_loopw [9, 10, 11] (fun i _ _ wr => ∃ k : Nat, k ≤ m ∧ i = .int .i64 (k : Int) ∧ At w p (F.turn pr k) wr ∧ Sl wr Y ky F.all) (fun i _ _ _ => m - (intOf i).toNat)
      case atStart => exact ⟨0, Nat.zero_le _, rfl, hst.out, HY3.out⟩
      case round =>
        obtain ⟨k, hk, rfl, hst4, hy4⟩ := hrel
        have hs4 := Lib.hid hst4
        have HY4 := Lib.hid hy4
        clear hst4 hy4 hs3 HY3 hst
        by_cases hlk : k < m
        · have hki : (k : Int) < (m : Int) := by omega
          have HR1 := Lib.hid (turn_row F pr k)
          have HR2 := Lib.hid (turn_row F pr (k + 1))
          have HNX := Lib.hid (turn_next HG.out h2 h3 (k := k) (by rw [HM.out]; exact hlk))
          obtain ⟨x, y, g1, g2, g3, g4⟩ := ends HM.out hlk
          have HG1 := Lib.hid g1
          have HG2 := Lib.hid g2
          have HG3 := Lib.hid g3
          have hlen1 : ((F.R pr).drop k ++ (F.R pr).take k).length = m := by rw [List.length_append, List.length_drop, List.length_take, HM.out]; omega
          have hlen2 : ((F.R pr).drop (k + 1) ++ (F.R pr).take (k + 1)).length = m := by rw [List.length_append, List.length_drop, List.length_take, HM.out]; omega
          have HL1 := Lib.hid hlen1
          have HL2 := Lib.hid hlen2
          clear g1 g2 g3 hlen1 hlen2
          generalize (F.R pr).drop k ++ (F.R pr).take k = L1 at *
          generalize (F.R pr).drop (k + 1) ++ (F.R pr).take (k + 1) = L2 at *
          have HIN : Hid ((if inR (pr : Int) then 0 else -17) = 0) := Lib.hid (if_pos ⟨by omega, by omega⟩)
          go_wp2_with fail
          refine (row_any p _ _ wr hs4.out.q L1 (by rw [Int.toNat_natCast]; exact HR1.out) m HL1.out).mono ?_
          rintro e w5 ⟨A, ka, rfl, hsl, hb⟩
          have hs5 := Lib.hid (hs4.out.below hb)
          have HY5 := Lib.hid (HY4.out.below hb)
          have HA5 := Lib.hid hsl
          clear hs4 hsl hb HY4
          go_wp2_with fail
          refine (rotate_any p _ _ w5 hs5.out.q 0 HIN.out).mono ?_
          rintro e w6 ⟨rfl, hq6, ho6⟩
          rw [HNX.out] at hq6
          have hs6 := Lib.hid (hs5.out.turn hq6 ho6)
          have HY6 := Lib.hid (HY5.out.only ho6 hs5.out.q.type)
          have HA6 := Lib.hid (HA5.out.only ho6 hs5.out.q.type)
          clear hs5 hq6 ho6 HY5 HA5
          go_wp2_with fail
          refine (row_any p _ _ w6 hs6.out.q L2 (by rw [Int.toNat_natCast]; exact HR2.out) m HL2.out).mono ?_
          rintro e w7 ⟨C, kc, rfl, hsl, hb⟩
          have hs7 := Lib.hid (hs6.out.below hb)
          have HY7 := Lib.hid (HY6.out.below hb)
          have HA7 := Lib.hid (HA6.out.below hb)
          have HC7 := Lib.hid hsl
          clear hs6 hsl hb HY6 HA6
          obtain ⟨b1, o1, rfl, _, hc1⟩ := HA7.out.at_ (by rw [HL1.out]; omega)
          obtain ⟨b2, o2, rfl, _, hc2⟩ := HC7.out.at_ (by rw [HL2.out]; omega)
          have c1 := hc1 0 x HG1.out
          rw [Nat.add_zero] at c1
          obtain ⟨v, hv⟩ : ∃ v, m - 1 = v := ⟨m - 1, rfl⟩
          rw [hv] at HG2
          have c2 := hc2 v x HG2.out
          have hv1 : (m : Int) - 1 = (v : Int) := by omega
          have hv0 : (v : Int) < (m : Int) := by omega
          have HV := Lib.hid hv
          clear hv
          by_cases cc : 1 < m
          · have c3 := hc1 1 y (HG3.out cc).1
            have c4 := hc2 0 y (HG3.out cc).2
            rw [Nat.add_zero] at c4
            have t5 : decide ((1 : Int) < (m : Int)) = true := by simp; omega
            have hi1 : (1 : Int) < (m : Int) := by omega
            clear hc1 hc2 cc g4
            go_wp2
            go_big_quiet (fail)
            go_wp2
            go_roundw
            case rel => exact ⟨k + 1, by omega, by go_num, hs7.out.drewN nq, HY7.out.drewN nq⟩
            case measure => simp [intOf]; omega
          · have t5 : decide ((1 : Int) < (m : Int)) = false := by simp; omega
            have hi0 : (0 : Int) < (m : Int) := by omega
            clear hc1 hc2 cc g4
            go_wp2
            go_big_quiet (fail)
            go_wp2
            go_roundw
            case rel => exact ⟨k + 1, by omega, by go_num, hs7.out.drewN nq, HY7.out.drewN nq⟩
            case measure => simp [intOf]; omega
        · obtain rfl : k = m := by omega
          have hs5 : Hid (At w p F wr) := by
            have := hs4.out
            rw [← HM.out, turn_all] at this
            exact Lib.hid this
          clear hs4
          go_wp2_with fail
          refine (all_any p F wr hs5.out.q hs5.out.tab l HL.out).mono ?_
          rintro e w6 ⟨A, ka, rfl, hsl, hb⟩
          have hs6 := Lib.hid (hs5.out.below hb)
          have HY6 := Lib.hid (HY4.out.below hb)
          have HA6 := Lib.hid hsl
          clear hs5 hsl hb HY4
          go_wp2_with fail
          refine (same_true A Y ka ky l F.all w6 HL.out HA6.out HY6.out (by omega)).mono ?_
          rintro e w7 ⟨rfl, hb⟩
          go_wp2
          go_ret
          exact ⟨rfl, (hs6.out.below hb).bel⟩

theorem walk (a0 : Option Addr) (len0 cap0 : Nat) (z0 : List Int) (x1 : Int) (w : World) (w0 : IsRow .u8 w a0 len0 cap0 z0) (hT : Tab w) :
    Calls Tryd.prog 4 #[.slice a0 len0 cap0, .int .i64 x1] w fun e w' => e = .returned (.bool true) ∧ Below w.heap.size w w' := by
  obtain ⟨_, q, hs⟩ := byt_of w0
  by_cases c2 : 16 < len0
  · exact idle a0 len0 cap0 x1 w hT (.inl c2)
  · by_cases c3 : x1 < 1
    · exact idle a0 len0 cap0 x1 w hT (.inr (.inl ⟨by omega, c3⟩))
    · by_cases c4 : 16 < x1
      · exact idle a0 len0 cap0 x1 w hT (.inr (.inr ⟨by omega, by omega, c4⟩))
      · obtain ⟨v, rfl⟩ : ∃ v : Nat, x1 = (v : Int) := ⟨x1.toNat, by omega⟩
        exact main a0 len0 cap0 v q w hT hs (by omega) (by omega) (by omega)

theorem contract (H : Type) (enc : TypeId × Value → H) (W : World) (base : Nat) (args : Array Value) (ds gs : List (DataW H)) (before : List MemPlace)
    (hval : ∀ (j : Nat) t v, Tryd.f4.params[j]? = some t → args[j]? = some v → Value.okWide Tryd.prog W .any base t v)
    (hW : DataW.Whole enc Tryd.prog Tryd.f4.params.toList Rows.readyTurnsSpec.vars false W args.toList ds gs before) (hL : laidMetH Tryd.prog Rows.readyTurnsRow.laid W) :
    Calls Tryd.prog 4 args W fun e W' => ∃ v, e = .returned v ∧ Rows.readyTurnsSpec.post enc Tryd.prog Tryd.f4 false true false false W args v W' := by
  have hW' := hW
  obtain ⟨p, q, hA0, hV, rfl, hfz, hnd⟩ := hW
  have hA : DataW.TrodAll enc Tryd.prog W 0 (fun _ => true) true Tryd.f4.params.toList args.toList ds p := hA0
  rw [Tryd.params4] at hA hval
  obtain ⟨v0, vs0, d0, ds0, p0, q0, hargs, rfl, rfl, h0, r0⟩ := trodAll_cons hA
  obtain ⟨v1, vs1, d1, ds1, p1, q1, hargs1, rfl, rfl, h1, r1⟩ := trodAll_cons r0
  subst hargs1
  obtain ⟨rfl, rfl, rfl⟩ := trodAll_nil r1
  obtain rfl : args = #[v0, v1] := by cases args; simp_all
  obtain ⟨rfl, rfl⟩ := trodVars_none hV
  obtain ⟨a0, len0, cap0, rfl⟩ := okWide_slice Tryd.underlying42 (hval 0 42 v0 rfl rfl)
  have k0 := h0
  have lt0 : ∀ x ∈ p0, x.block < W.heap.size := by obtain ⟨m, hm⟩ := k0; exact DataW.trod_lt m _ _ _ hm
  obtain ⟨z0, w0⟩ : ∃ zs, IsRow .u8 W a0 len0 cap0 zs := by
    obtain ⟨fuel, hf⟩ := h0
    rcases open_ints Tryd.underlying42 Tryd.underlying5 (by kernel_rfl) hf with ⟨hcs, _⟩ | ⟨x, l, c, zs, hcs, _, hl, hm, hz, _, hcell, hwz⟩
    · simp [Value.cells] at hcs
      obtain ⟨rfl, rfl, rfl⟩ := hcs
      exact ⟨[], .inl ⟨rfl, rfl, rfl, rfl⟩⟩
    · simp [Value.cells] at hcs
      obtain ⟨rfl, rfl, rfl⟩ := hcs
      exact ⟨zs, .inr ⟨_, rfl, hl, hm, by simpa using hz, hcell, hwz⟩⟩
  obtain ⟨x1, rfl, rfl, rfl, hwn1⟩ := open_int Tryd.underlying3 (hval 1 3 v1 rfl rfl) h1
  clear hA0
  refine (walk a0 len0 cap0 z0 x1 W w0 (tab_of hL)).mono fun e W' ⟨he, bel⟩ => ?_
  subst he
  exact ⟨_, rfl, _, _, _, [], _, [], hW', trodAll_mk1 (shut_bool Tryd.underlying4 _), (trodAll_cons_mk (Below.trod laidOut (by kernel_rfl) (of_decide_eq_true (by kernel_rfl)) k0 bel lt0) (trodAll_cons_mk (shut_int Tryd.underlying3 hwn1) trodAll_mk0)), rfl, bel.frame _, fun h => by cases h⟩

theorem laid_met (os : Os) : laidMet Tryd.prog Rows.readyTurnsRow.laid ((laidWorld os).forCall (fun _ _ => 0) ⟨#[], #[.slice none 0 0, .int .i64 0], []⟩).memory :=
  laidMet_of_run' 8 (by kernel_rfl) (by kernel_rfl)
theorem reads (os : Os) {H : Type} (enc : TypeId × Value → H) : ∃ places, DataW.whole enc Tryd.prog ((laidWorld os).forCall (fun _ _ => 0) ⟨#[], #[.slice none 0 0, .int .i64 0], []⟩).memory Tryd.f4.params.toList Rows.readyTurnsSpec.vars false #[Value.slice none 0 0, Value.int .i64 0].toList 8 = some ([.nil, .lit (.int .i64 0)], [], places) :=
  ⟨[], by kernel_rfl⟩

set_option maxRecDepth 100000 in
theorem lifted (os : Os) (started : os.Started) (H : Type) (enc : TypeId × Value → H) (F : Stop.Interp) :
    ReturnsInHanded {} Tryd.checked os 4 .any ((OpenSpec.ofChange Rows.readyTurnsSpec).preRow enc Tryd.prog Tryd.f4 Rows.readyTurnsRow.domain false Rows.readyTurnsRow.laid) (((OpenSpec.ofChange Rows.readyTurnsSpec).at F).post enc Tryd.prog Tryd.f4 false true false false) := by
  obtain ⟨places, hx⟩ := reads os enc
  refine returnsInHanded_of_row (C := Tryd.checked) (s := OpenSpec.ofChange Rows.readyTurnsSpec) own started (by kernel_rfl) Tryd.func4
    (witness_row_at (enc := enc) (C := Tryd.checked) false (laidWorld os) #[.slice none 0 0, .int .i64 0] rfl (by kernel_rfl) (by kernel_rfl) (by kernel_rfl)
      (OpenSpec.preRow_of_cond 8 hx (by kernel_rfl) (fun k hk => by cases hk) (by kernel_rfl) (laid_met os))) ?_
  intro W base args ds gs before hval hW _ _ _ hL _ _
  exact contract H enc W base args ds gs before hval hW hL

theorem said : Rows.ReadyTurnsSaid :=
  OpenClaim.holds_of_cond 4 Tryd.f4 rfl rfl rfl rfl rfl rfl rfl ⟨rfl, rfl, rfl, rfl, rfl⟩ rfl rfl rfl rfl rfl (by kernel_rfl) Tryd.func4 (by kernel_rfl)
    (of_decide_eq_true (by kernel_rfl)) (by unfold Func.isWrapper; first | (rw [if_pos (by decide +kernel)]; kernel_rfl) | (rw [if_neg (by decide +kernel)]; exact ⟨rfl, rfl⟩))
    (fun os started H enc _ F => by rw [OpenClaim.pre_eq_preRow]; exact lifted os started H enc F)

theorem plain (f : FuncId) (fn : Func) (hf : Tryd.pinned.checked.prog.funcNamed "detent/detentlaw9.ReadyTurns" = some f) (hfn : Tryd.pinned.checked.prog.funcs[f]? = some fn) :
    false = Tryd.pinned.checked.prog.looks [] ∧ ∀ (j : Nat) t, fn.params[j]? = some t → Tryd.pinned.checked.prog.wantsStandIn t = false := by
  obtain rfl : f = 4 := Option.some.inj ((show Tryd.prog.funcNamed "detent/detentlaw9.ReadyTurns" = some 4 by kernel_rfl).symm.trans hf) |>.symm
  obtain rfl : fn = Tryd.f4 := (Option.some.inj (Tryd.func4.symm.trans hfn)).symm
  refine ⟨by kernel_rfl, fun j t ht => ?_⟩
  rw [Tryd.params4] at ht
  have hm : t = 42 ∨ t = 3 := by have := Array.mem_of_getElem? ht; simpa using this
  rcases hm with rfl | rfl
  · exact (show Tryd.prog.wantsStandIn 42 = false by kernel_rfl)
  · exact (show Tryd.prog.wantsStandIn 3 = false by kernel_rfl)

/-- the statement -/
theorem proved : Rows.ReadyTurnsCardSaid :=
  Claim7.holds_tied_plain_at .later [] _ _ _ _ said (fun _ h => by cases h) (by kernel_rfl) (fun _ h => by cases h) readyTurns_row_tie rfl ⟨rfl, rfl⟩ (by kernel_rfl) rfl plain (by kernel_rfl)
#print axioms proved
end Go.Proofs.YtfilggkdhcjpbaaDoor.readyTurns
namespace Go.Proofs.YtfilggkdhcjpbaaDoor
theorem readyTurns_holds : Rows.ReadyTurnsCardSaid := readyTurns.proved
end Go.Proofs.YtfilggkdhcjpbaaDoor
