/-
  PROVED: the Go function detentlaw9.ReadyFirst returns true for every input, and its argument reads behind the call as it read before (Rows.ReadyFirstCardSaid). Condition: the library's table math/bits.deBruijn64tab stands as its initialiser lays it (the card ties it to the program's text; the repository is the pruned copy of the seat).
-/
import Derived.Test.YtfilggkdhcjpbaaDoorRdL
namespace Go.Proofs.YtfilggkdhcjpbaaDoor.readyFirst
open Go.ChangeShapes Go.WideShapes Go.ChangeAt Go.RowKit

theorem idle (a : Option Addr) (n cap : Nat) (w : World) (hT : Tab w) (h : 16 < n) :
    Calls Tryd.prog 5 #[.slice a n cap] w fun e w' => e = .returned (.bool true) ∧ Below w.heap.size w w' := by
  have HKn := Lib.hid (known_any w hT)
  have t2 : decide ((16 : Int) < (n : Int)) = true := by simp; omega
  clear hT h
  go_enter Tryd.func5, Tryd.ntmps5
  go_wp2_with fail
  refine HKn.out.mono ?_
  rintro e w0 ⟨rfl, hb⟩
  go_wp2
  go_ret
  exact ⟨rfl, hb⟩

/-- i of them are taken: the rest in its order -/
structure Rest (w : World) (p : Nat) (L : List Int) (i : Nat) (Y : Option Addr) (ky : Nat) (wr : World) : Prop where
  st : ∃ S, At w p S wr ∧ S.all = L.drop i
  sl : Sl wr Y ky L

/-- what is known of the whole order -/
structure Ordered (q : Nat → Nat) (n : Nat) (L : List Int) : Prop where
  len : L.length = n
  mem : ∀ (j : Nat) (x : Int), L[j]? = some x → ∃ s : Nat, s < n ∧ x = (s : Int) + 1
  ord : ∀ (j : Nat) (s t : Nat), L[j]? = some ((s : Int) + 1) → L[j + 1]? = some ((t : Int) + 1) → q s % 16 < q t % 16 ∨ (q s % 16 = q t % 16 ∧ s < t)
theorem ordered (q : Nat → Nat) (n : Nat) (hn : n ≤ 16) : Ordered q n (fil q 16 n).all := by
  have hg := fil_good q 16 (by decide) (by decide) n hn
  have hm : ∀ (j : Nat) (x : Int), (fil q 16 n).all[j]? = some x → ∃ s : Nat, s < n ∧ x = (s : Int) + 1 := fun j x hx => by
    have h1 := hg.mem_all.1 (List.mem_of_getElem? hx)
    rw [fil_P] at h1
    by_cases c : 1 ≤ x ∧ x ≤ (n : Int)
    · exact ⟨x.toNat - 1, by omega, by omega⟩
    · rw [if_neg c] at h1; exact absurd rfl h1
  refine ⟨fil_len q 16 (by decide) (by decide) n hn, hm, fun j s t h1 h2 => ?_⟩
  have hp : (fil q 16 n).all.Pairwise _ := rise_all hg (fil_rise q 16 (by decide) (by decide) n hn) 256 1
  obtain ⟨l1, e1⟩ := List.getElem?_eq_some_iff.1 h1
  obtain ⟨l2, e2⟩ := List.getElem?_eq_some_iff.1 h2
  have := (List.pairwise_iff_getElem.1 hp) j (j + 1) l1 l2 (by omega)
  obtain ⟨s', hs1, hs2⟩ := hm _ _ h1
  obtain ⟨t', ht1, ht2⟩ := hm _ _ h2
  have p1 : (fil q 16 n).P ((s : Int) + 1) = 1 + q s % 16 := by rw [fil_P, if_pos (by omega), show ((s : Int) + 1).toNat - 1 = s by omega]
  have p2 : (fil q 16 n).P ((t : Int) + 1) = 1 + q t % 16 := by rw [fil_P, if_pos (by omega), show ((t : Int) + 1).toNat - 1 = t by omega]
  rw [e1, e2, p1, p2] at this
  omega

set_option maxRecDepth 100000 in
set_option maxHeartbeats 2000000 in
theorem main (a : Option Addr) (n cap : Nat) (q : Nat → Nat) (w : World) (hT : Tab w) (hs : Byt w a n q) (h1 : n ≤ 16) :
    Calls Tryd.prog 5 #[.slice a n cap] w fun e w' => e = .returned (.bool true) ∧ Below w.heap.size w w' := by
  have HKn := Lib.hid (known_any w hT)
  have HT := Lib.hid hT
  have HS := Lib.hid hs
  have t2 : decide ((16 : Int) < (n : Int)) = false := by simp; omega
  clear hT hs
  go_enter Tryd.func5, Tryd.ntmps5
  go_wp2_with fail
  refine HKn.out.mono ?_
  rintro e w0 ⟨rfl, hb⟩
  have HB := Lib.hid hb
  clear hb
  go_wp2_with fail
  refine (new_any w0 (HT.out.below HB.out).pos).mono ?_
  rintro e w1 ⟨p, hp, rfl, hq, hb⟩
  have hst : Hid (At w p (fil q 16 0) w1) := Lib.hid ⟨hq, Nat.le_trans HB.out.size hp, (HT.out.below HB.out).below hb, HB.out.trans (hb.mono HB.out.size)⟩
  clear hp hq hb HB HKn
  go_wp2
  go_loopw [4] (fun i wr => ∃ t : Nat, t ≤ n ∧ i = .int .i64 (t : Int) ∧ At w p (fil q 16 t) wr) (fun i _ => n - (intOf i).toNat)
  case atStart => exact ⟨0, Nat.zero_le _, rfl, hst.out⟩
  case round =>
    obtain ⟨t, ht, rfl, hst2⟩ := hrel
    have hs := Lib.hid hst2
    clear hst2 hst
    by_cases hlt : t < n
    · obtain ⟨b, o, rfl, hbl, hcl⟩ := HS.out (by omega)
      obtain ⟨hc, hq⟩ := hcl t hlt
      have hct : wr.cell? ⟨b, o + t, none⟩ = some (.int .u8 (q t : Int)) := (hs.out.bel.cell (p := ⟨b, o + t, none⟩) hbl).trans hc
      have HF := Lib.hid (fil_add q 16 (by decide) (by decide) t (by omega) (1 + (q t : Int) % 16) (by omega))
      have hti : (t : Int) < (n : Int) := by omega
      have ht16 : t < 16 := by omega
      clear hc hcl
      go_wp2_with fail
      refine (add_any p _ _ _ wr hs.out.q 0 HF.out.2).mono ?_
      rintro e w3 ⟨rfl, hq3, ho3⟩
      rw [HF.out.1] at hq3
      have hs3 := Lib.hid (hs.out.turn hq3 ho3)
      clear hs hq3 ho3 hct
      go_wp2
      go_roundw
      case rel => exact ⟨t + 1, by omega, by go_num, hs3.out⟩
      case measure => simp [intOf]; omega
    · obtain rfl : t = n := by omega
      have HO := Lib.hid (ordered q t (by omega))
      generalize fil q 16 t = F at *
      generalize hL : F.all = L at *
      have HL := Lib.hid hL
      clear hL
      go_wp2_with fail
      refine (all_any p F wr hs.out.q hs.out.tab t (by rw [HL.out]; exact HO.out.len)).mono ?_
      rintro e w2 ⟨Y, ky, rfl, hsl, hb⟩
      rw [HL.out] at hsl
      have hr : Hid (Rest w p L 0 Y ky w2) := Lib.hid ⟨⟨F, hs.out.below hb, HL.out⟩, hsl⟩
      clear hs hsl hb HL
      go_wp2
      go_loopw [6, 7, 8, 9, 10] (fun i _ _ _ _ wr => ∃ k : Nat, k ≤ t ∧ i = .int .i64 (k : Int) ∧ Rest w p L k Y ky wr) (fun i _ _ _ _ _ => t - (intOf i).toNat)
      case atStart => exact ⟨0, Nat.zero_le _, rfl, hr.out⟩
      case round =>
        obtain ⟨k, hk, rfl, hr3⟩ := hrel
        have hR := Lib.hid hr3
        clear hr3 hr
        obtain ⟨S, hA, hall⟩ := hR.out.st
        have HA := Lib.hid hA
        have HALL := Lib.hid hall
        have HY := Lib.hid hR.out.sl
        clear hA hall hR
        by_cases hlk : k < t
        · have hki : (k : Int) < (t : Int) := by omega
          obtain ⟨x, hx⟩ : ∃ x, L[k]? = some x := ⟨_, List.getElem?_eq_getElem (by rw [HO.out.len]; exact hlk)⟩
          have hdr : L.drop k = x :: L.drop (k + 1) := by
            rw [List.drop_eq_getElem_cons (List.getElem?_eq_some_iff.1 hx).1, (List.getElem?_eq_some_iff.1 hx).2]
          have hal : S.all = x :: L.drop (k + 1) := HALL.out.trans hdr
          have HNX := Lib.hid (HA.out.good.all_tail hal)
          have HFI : Hid (S.first = x) := Lib.hid (by unfold St.first; rw [hal]; rfl)
          have HOK : Hid ((!S.all.isEmpty) = true) := Lib.hid (by rw [hal]; rfl)
          have HPX : Hid (decide (S.P x ≠ 0) = true) := Lib.hid (by simpa using HA.out.good.mem_all.1 (by rw [hal]; simp))
          obtain ⟨v, hv1, hv2⟩ := HO.out.mem k x hx
          have HX := Lib.hid hx
          subst hv2
          obtain ⟨g, og, rfl, _, hcg⟩ := HY.out.at_ (by rw [HO.out.len]; omega)
          have cx := hcg k _ hx
          have HCG := Lib.hid hcg
          clear hx hdr hal hcg
          go_wp2_with fail
          refine (qfirst_any p S wr HA.out.q HA.out.tab _ true HFI.out HOK.out).mono ?_
          rintro e w' ⟨rfl, rfl⟩
          go_wp2_with fail
          refine (remove_any p S _ wr HA.out.q true HPX.out).mono ?_
          rintro e w3 ⟨rfl, hq3, ho3⟩
          have HA3 := Lib.hid (HA.out.turn hq3 ho3)
          have HY3 := Lib.hid (HY.out.only ho3 HA.out.q.type)
          clear hq3 ho3 HA HY HCG cx
          by_cases hk0 : k = 0
          · have t5 : decide ((0 : Int) < (k : Int)) = false := by simp; omega
            have t6 : decide (0 < k) = false := by simp; omega
            have HK0 := Lib.hid hk0
            clear hk0
            go_wp2
            go_roundw
            case rel => exact ⟨k + 1, by omega, by go_num, ⟨⟨_, HA3.out, HNX.out⟩, HY3.out⟩⟩
            case measure => simp [intOf]; omega
          · obtain ⟨u, hu⟩ : ∃ u, k = u + 1 := ⟨k - 1, by omega⟩
            subst hu
            clear hk0
            obtain ⟨y, hy⟩ : ∃ y, L[u]? = some y := ⟨_, List.getElem?_eq_getElem (by rw [HO.out.len]; omega)⟩
            obtain ⟨s, hs1, hs2⟩ := HO.out.mem u y hy
            subst hs2
            have hord := HO.out.ord u s v hy HX.out
            obtain ⟨b, o, rfl, hbl, hcl⟩ := HS.out (by omega)
            obtain ⟨_, _, eg, _, hcg⟩ := HY3.out.at_ (by rw [HO.out.len]; omega)
            injection eg with eg
            injection eg with eg1 eg2
            subst eg1 eg2
            have cx := hcg (u + 1) _ HX.out
            have cy := hcg u _ hy
            have ds : w3.cell? ⟨b, o + s, none⟩ = some (.int .u8 (q s : Int)) := (HA3.out.bel.cell (p := ⟨b, o + s, none⟩) hbl).trans (hcl s hs1).1
            have dv : w3.cell? ⟨b, o + v, none⟩ = some (.int .u8 (q v : Int)) := (HA3.out.bel.cell (p := ⟨b, o + v, none⟩) hbl).trans (hcl v hv1).1
            have hq1 := (hcl s hs1).2
            have hq2 := (hcl v hv1).2
            have hsi : (s : Int) < (t : Int) := by omega
            have hvi : (v : Int) < (t : Int) := by omega
            have hui : (u : Int) < (t : Int) := by omega
            have t7 : decide ((q v : Int) % 16 < (q s : Int) % 16) = false := by simp; omega
            clear hcl hcg hy
            by_cases he : q s % 16 = q v % 16
            · have t8 : ((q s : Int) % 16 == (q v : Int) % 16) = true := by simp; omega
              have t9 : decide ((v : Int) + 1 < (s : Int) + 1) = false := by simp; omega
              have t9' : decide ((v : Int) < (s : Int)) = false := by simp; omega
              have t9'' : decide (v < s) = false := by simp; omega
              clear he hord
              go_wp2
              go_big_quiet (fail)
              go_wp2
              go_roundw
              case rel => exact ⟨u + 1 + 1, by omega, by go_num, ⟨⟨_, HA3.out.drewN nq, HNX.out⟩, HY3.out.drewN nq⟩⟩
              case measure => simp [intOf]; omega
            · have t8 : ((q s : Int) % 16 == (q v : Int) % 16) = false := by simp; omega
              clear he hord
              go_wp2
              go_big_quiet (fail)
              go_wp2
              go_roundw
              case rel => exact ⟨u + 1 + 1, by omega, by go_num, ⟨⟨_, HA3.out.drewN nq, HNX.out⟩, HY3.out.drewN nq⟩⟩
              case measure => simp [intOf]; omega
        · obtain rfl : k = t := by omega
          have hnil : S.all = [] := by rw [HALL.out]; exact List.drop_eq_nil_of_le (by rw [HO.out.len]; exact Nat.le_refl _)
          have HFI : Hid (S.first = 0) := Lib.hid (by unfold St.first; rw [hnil]; rfl)
          have HOK : Hid ((!S.all.isEmpty) = false) := Lib.hid (by rw [hnil]; rfl)
          have HLN : Hid (S.all.length = 0) := Lib.hid (by rw [hnil]; rfl)
          clear hnil
          go_wp2_with fail
          refine (qfirst_any p S wr HA.out.q HA.out.tab _ false HFI.out HOK.out).mono ?_
          rintro e w' ⟨rfl, rfl⟩
          go_wp2_with fail
          refine (all_any p S wr HA.out.q HA.out.tab 0 HLN.out).mono ?_
          rintro e w3 ⟨Z, kz, rfl, hsl, hb⟩
          have HB := Lib.hid (HA.out.below hb).bel
          clear hsl hb HA
          go_wp2
          go_ret
          exact ⟨rfl, HB.out⟩

theorem walk (a0 : Option Addr) (len0 cap0 : Nat) (z0 : List Int) (w : World) (w0 : IsRow .u8 w a0 len0 cap0 z0) (hT : Tab w) :
    Calls Tryd.prog 5 #[.slice a0 len0 cap0] w fun e w' => e = .returned (.bool true) ∧ Below w.heap.size w w' := by
  obtain ⟨_, q, hs⟩ := byt_of w0
  by_cases c2 : 16 < len0
  · exact idle a0 len0 cap0 w hT c2
  · exact main a0 len0 cap0 q w hT hs (by omega)

theorem contract (H : Type) (enc : TypeId × Value → H) (W : World) (base : Nat) (args : Array Value) (ds gs : List (DataW H)) (before : List MemPlace)
    (hval : ∀ (j : Nat) t v, Tryd.f5.params[j]? = some t → args[j]? = some v → Value.okWide Tryd.prog W .any base t v)
    (hW : DataW.Whole enc Tryd.prog Tryd.f5.params.toList Rows.readyFirstSpec.vars false W args.toList ds gs before) (hL : laidMetH Tryd.prog Rows.readyFirstRow.laid W) :
    Calls Tryd.prog 5 args W fun e W' => ∃ v, e = .returned v ∧ Rows.readyFirstSpec.post enc Tryd.prog Tryd.f5 false true false false W args v W' := by
  have hW' := hW
  obtain ⟨p, q, hA0, hV, rfl, hfz, hnd⟩ := hW
  have hA : DataW.TrodAll enc Tryd.prog W 0 (fun _ => true) true Tryd.f5.params.toList args.toList ds p := hA0
  rw [Tryd.params5] at hA hval
  obtain ⟨v0, vs0, d0, ds0, p0, q0, hargs, rfl, rfl, h0, r0⟩ := trodAll_cons hA
  obtain ⟨rfl, rfl, rfl⟩ := trodAll_nil r0
  obtain rfl : args = #[v0] := by cases args; simp_all
  obtain ⟨rfl, rfl⟩ := trodVars_none hV
  obtain ⟨a0, len0, cap0, rfl⟩ := okWide_slice Tryd.underlying42 (hval 0 42 v0 rfl rfl)
  have k0 := h0
  have lt0 : ∀ x ∈ p0, x.block < W.heap.size := by obtain ⟨m, hm⟩ := k0; exact DataW.trod_lt m _ _ _ hm
  obtain ⟨z0, w0⟩ : ∃ zs, IsRow .u8 W a0 len0 cap0 zs := by
    obtain ⟨fuel, hf⟩ := h0
    rcases open_ints Tryd.underlying42 Tryd.underlying5 (by kernel_rfl) hf with ⟨hcs, _⟩ | ⟨x, l, c, zs, hcs, _, hl, hm, hz, _, hcell, hwz⟩
    · simp [Value.cells] at hcs
      obtain ⟨rfl, rfl, rfl⟩ := hcs
      exact ⟨[], .inl ⟨rfl, rfl, rfl, rfl⟩⟩
    · simp [Value.cells] at hcs
      obtain ⟨rfl, rfl, rfl⟩ := hcs
      exact ⟨zs, .inr ⟨_, rfl, hl, hm, by simpa using hz, hcell, hwz⟩⟩
  clear hA0
  refine (walk a0 len0 cap0 z0 W w0 (tab_of hL)).mono fun e W' ⟨he, bel⟩ => ?_
  subst he
  exact ⟨_, rfl, _, _, _, [], _, [], hW', trodAll_mk1 (shut_bool Tryd.underlying4 _), (trodAll_cons_mk (Below.trod laidOut (by kernel_rfl) (of_decide_eq_true (by kernel_rfl)) k0 bel lt0) trodAll_mk0), rfl, bel.frame _, fun h => by cases h⟩

theorem laid_met (os : Os) : laidMet Tryd.prog Rows.readyFirstRow.laid ((laidWorld os).forCall (fun _ _ => 0) ⟨#[], #[.slice none 0 0], []⟩).memory :=
  laidMet_of_run' 8 (by kernel_rfl) (by kernel_rfl)
theorem reads (os : Os) {H : Type} (enc : TypeId × Value → H) : ∃ places, DataW.whole enc Tryd.prog ((laidWorld os).forCall (fun _ _ => 0) ⟨#[], #[.slice none 0 0], []⟩).memory Tryd.f5.params.toList Rows.readyFirstSpec.vars false #[Value.slice none 0 0].toList 8 = some ([.nil], [], places) :=
  ⟨[], by kernel_rfl⟩

set_option maxRecDepth 100000 in
theorem lifted (os : Os) (started : os.Started) (H : Type) (enc : TypeId × Value → H) (F : Stop.Interp) :
    ReturnsInHanded {} Tryd.checked os 5 .any ((OpenSpec.ofChange Rows.readyFirstSpec).preRow enc Tryd.prog Tryd.f5 Rows.readyFirstRow.domain false Rows.readyFirstRow.laid) (((OpenSpec.ofChange Rows.readyFirstSpec).at F).post enc Tryd.prog Tryd.f5 false true false false) := by
  obtain ⟨places, hx⟩ := reads os enc
  refine returnsInHanded_of_row (C := Tryd.checked) (s := OpenSpec.ofChange Rows.readyFirstSpec) own started (by kernel_rfl) Tryd.func5
    (witness_row_at (enc := enc) (C := Tryd.checked) false (laidWorld os) #[.slice none 0 0] rfl (by kernel_rfl) (by kernel_rfl) (by kernel_rfl)
      (OpenSpec.preRow_of_cond 8 hx (by kernel_rfl) (fun k hk => by cases hk) (by kernel_rfl) (laid_met os))) ?_
  intro W base args ds gs before hval hW _ _ _ hL _ _
  exact contract H enc W base args ds gs before hval hW hL

theorem said : Rows.ReadyFirstSaid :=
  OpenClaim.holds_of_cond 5 Tryd.f5 rfl rfl rfl rfl rfl rfl rfl ⟨rfl, rfl, rfl, rfl, rfl⟩ rfl rfl rfl rfl rfl (by kernel_rfl) Tryd.func5 (by kernel_rfl)
    (of_decide_eq_true (by kernel_rfl)) (by unfold Func.isWrapper; first | (rw [if_pos (by decide +kernel)]; kernel_rfl) | (rw [if_neg (by decide +kernel)]; exact ⟨rfl, rfl⟩))
    (fun os started H enc _ F => by rw [OpenClaim.pre_eq_preRow]; exact lifted os started H enc F)

theorem plain (f : FuncId) (fn : Func) (hf : Tryd.pinned.checked.prog.funcNamed "detent/detentlaw9.ReadyFirst" = some f) (hfn : Tryd.pinned.checked.prog.funcs[f]? = some fn) :
    false = Tryd.pinned.checked.prog.looks [] ∧ ∀ (j : Nat) t, fn.params[j]? = some t → Tryd.pinned.checked.prog.wantsStandIn t = false := by
  obtain rfl : f = 5 := Option.some.inj ((show Tryd.prog.funcNamed "detent/detentlaw9.ReadyFirst" = some 5 by kernel_rfl).symm.trans hf) |>.symm
  obtain rfl : fn = Tryd.f5 := (Option.some.inj (Tryd.func5.symm.trans hfn)).symm
  refine ⟨by kernel_rfl, fun j t ht => ?_⟩
  rw [Tryd.params5] at ht
  have hm : t = 42 := by have := Array.mem_of_getElem? ht; simpa using this
  rcases hm with rfl
  exact (show Tryd.prog.wantsStandIn 42 = false by kernel_rfl)

/-- the statement -/
theorem proved : Rows.ReadyFirstCardSaid :=
  Claim7.holds_tied_plain_at .later [] _ _ _ _ said (fun _ h => by cases h) (by kernel_rfl) (fun _ h => by cases h) readyFirst_row_tie rfl ⟨rfl, rfl⟩ (by kernel_rfl) rfl plain (by kernel_rfl)
#print axioms proved
end Go.Proofs.YtfilggkdhcjpbaaDoor.readyFirst
namespace Go.Proofs.YtfilggkdhcjpbaaDoor
theorem readyFirst_holds : Rows.ReadyFirstCardSaid := readyFirst.proved
end Go.Proofs.YtfilggkdhcjpbaaDoor
