/-
  PROVED: the Go function detentlaw5.BitsEnds returns true for every input, and its argument reads behind the call as it read before (Rows.BitsEndsCardSaid). Condition: the library's table math/bits.deBruijn64tab stands as its initialiser lays it (the card ties it to the program's text; the repository is the pruned copy of the seat).
-/
import Derived.Test.YtdhemejipkaopaaDoorLaid
namespace Go.Proofs.YtdhemejipkaopaaDoor.bitsEnds
open Go.ChangeShapes Go.WideShapes Go.ChangeAt Go.RowKit

theorem upd_in (q : Nat) (h1 : 1 ≤ q) (h2 : q ≤ 256) : nxt (upd none' [(q : Int)] true) 0 = q ∧ has (upd none' [(q : Int)] true) (q : Int) = true := by
  have hu : upd none' [(q : Int)] true q = true := by simp [upd]
  refine ⟨?_, by rw [has_in (by omega) (by omega), Int.toNat_natCast, hu]⟩
  unfold nxt
  rw [show 256 - 0 = (q - 1) + ((256 - q) + 1) by omega, nx_skip]
  · rw [show 0 + 1 + (q - 1) = q by omega]; simp only [nx, hu, if_true]
  · intro i hi
    simp only [upd, List.mem_singleton, none']
    rw [if_neg (by omega)]
theorem upd_out (x : Int) (h : ¬ (1 ≤ x ∧ x ≤ 256)) : nxt (upd none' [x] true) 0 = 0 ∧ has (upd none' [x] true) x = false := by
  refine ⟨nx_false _ _ _ fun i hi => ?_, has_out h⟩
  simp only [upd, List.mem_singleton, none']
  rw [if_neg (by omega)]
theorem upd_back (x : Int) : (row (upd (upd none' [x] true) [x] false) 0).length = 0 ∧ has (upd (upd none' [x] true) [x] false) x = false := by
  refine ⟨?_, has_upd (by simp)⟩
  rw [upd_upd]
  have : nxt (upd none' [x] false) 0 = 0 := nx_false _ _ _ fun i hi => by simp [upd, none']
  rw [row_nil _ _ this]; rfl

set_option maxRecDepth 100000 in
set_option maxHeartbeats 1000000 in
theorem walk_mid (q : Nat) (h1 : 1 ≤ q) (h2 : q ≤ 256) (w : World) (hT : Tab w) : Calls Tryd.prog 6 #[.int .i64 (q : Int)] w fun e w' => e = .returned (.bool true) ∧ Below w.heap.size w w' := by
  have HKn := Lib.hid (known_any w hT)
  have HT := Lib.hid hT
  have HU := Lib.hid (upd_in q h1 h2)
  have c1 : (1 : Int) ≤ (q : Int) := by omega
  have c2 : (q : Int) ≤ 256 := by omega
  have c3 : 0 < q := by omega
  clear hT
  go_enter Tryd.func6, Tryd.ntmps6
  go_wp2_with fail
  refine HKn.out.mono ?_
  rintro e w0 ⟨rfl, hb⟩
  have hT0 := HT.out.below hb
  have hmn := Lib.hid (Mp.new w0 hT0.pos)
  have hbn := Lib.hid (hb.alloc hb.size (.cells #[.int .u64 0, .int .u64 0, .int .u64 0, .int .u64 0] 27))
  have hTn := Lib.hid (hT0.alloc (.cells #[.int .u64 0, .int .u64 0, .int .u64 0, .int .u64 0] 27))
  have hsz := hb.size
  clear hb hT0 HT HKn
  generalize hW : w0.alloc (.cells #[.int .u64 0, .int .u64 0, .int .u64 0, .int .u64 0] 27) = w1 at hmn hbn hTn
  go_wp2_with fail
  generalize w0.heap.size = p at *
  have hlt := hmn.out.lt
  refine (set_lit p none' [(q : Int)] 1 rfl (by decide) w1 hmn.out _ rfl).mono ?_
  rintro e w2 ⟨rfl, h1, h2⟩
  have hm2 := Lib.hid h1
  have hT2 := Lib.hid (hTn.out.only h2 hmn.out.1)
  have hb2 := Lib.hid (hbn.out.trans (h2.below (B := w.heap.size) (by omega) (by omega)))
  clear h1 h2 hmn hTn hbn hW hlt
  go_wp2_with fail
  refine (first_any p _ w2 hm2.out hT2.out q HU.out.1).mono ?_
  rintro e w' ⟨rfl, rfl⟩
  simp only [tell]
  go_wp2_with fail
  refine (has_any p _ (q : Int) w2 hm2.out true HU.out.2).mono ?_
  rintro e w' ⟨rfl, n, rfl⟩
  have hm3 := Lib.hid (hm2.out.drewN n)
  have hb3 := Lib.hid (hb2.out.trans (below_drewN w.heap.size w2 n))
  clear hm2 hT2 hb2
  generalize w2.drewN n = w3 at *
  go_wp2_with fail
  have hlt := hm3.out.lt
  refine (clear_lit p _ [(q : Int)] 1 rfl (by decide) w3 hm3.out _ rfl).mono ?_
  rintro e w4 ⟨rfl, h1, h2⟩
  have hm4 := Lib.hid h1
  have hb4 := Lib.hid (hb3.out.trans (h2.below (B := w.heap.size) (by omega) (by omega)))
  clear h1 h2 hm3 hb3 hlt
  go_wp2_with fail
  refine (len_any p _ w4 hm4.out 0 (upd_back (q : Int)).1).mono ?_
  rintro e w' ⟨rfl, rfl⟩
  go_wp2_with fail
  refine (has_any p _ (q : Int) w4 hm4.out false (upd_back (q : Int)).2).mono ?_
  rintro e w' ⟨rfl, n2, rfl⟩
  go_wp2
  go_ret
  exact ⟨rfl, hb4.out.trans (below_drewN w.heap.size w4 n2)⟩

set_option maxRecDepth 100000 in
set_option maxHeartbeats 1000000 in
theorem walk_low (x : Int) (h : x < 1) (w : World) (hT : Tab w) : Calls Tryd.prog 6 #[.int .i64 x] w fun e w' => e = .returned (.bool true) ∧ Below w.heap.size w w' := by
  have HKn := Lib.hid (known_any w hT)
  have HT := Lib.hid hT
  have HU := Lib.hid (upd_out x (by omega))
  have c1 : decide (1 ≤ x) = false := by simp; omega
  clear hT
  go_enter Tryd.func6, Tryd.ntmps6
  go_wp2_with fail
  refine HKn.out.mono ?_
  rintro e w0 ⟨rfl, hb⟩
  have hT0 := HT.out.below hb
  have hmn := Lib.hid (Mp.new w0 hT0.pos)
  have hbn := Lib.hid (hb.alloc hb.size (.cells #[.int .u64 0, .int .u64 0, .int .u64 0, .int .u64 0] 27))
  have hTn := Lib.hid (hT0.alloc (.cells #[.int .u64 0, .int .u64 0, .int .u64 0, .int .u64 0] 27))
  have hsz := hb.size
  clear hb hT0 HT HKn
  generalize hW : w0.alloc (.cells #[.int .u64 0, .int .u64 0, .int .u64 0, .int .u64 0] 27) = w1 at hmn hbn hTn
  go_wp2_with fail
  generalize w0.heap.size = p at *
  have hlt := hmn.out.lt
  refine (set_lit p none' [x] 1 rfl (by decide) w1 hmn.out _ rfl).mono ?_
  rintro e w2 ⟨rfl, h1, h2⟩
  have hm2 := Lib.hid h1
  have hT2 := Lib.hid (hTn.out.only h2 hmn.out.1)
  have hb2 := Lib.hid (hbn.out.trans (h2.below (B := w.heap.size) (by omega) (by omega)))
  clear h1 h2 hmn hTn hbn hW hlt
  go_wp2_with fail
  refine (first_any p _ w2 hm2.out hT2.out 0 HU.out.1).mono ?_
  rintro e w' ⟨rfl, rfl⟩
  simp only [tell]
  go_wp2_with fail
  refine (has_any p _ x w2 hm2.out false HU.out.2).mono ?_
  rintro e w' ⟨rfl, n, rfl⟩
  have hm3 := Lib.hid (hm2.out.drewN n)
  have hb3 := Lib.hid (hb2.out.trans (below_drewN w.heap.size w2 n))
  clear hm2 hT2 hb2
  generalize w2.drewN n = w3 at *
  go_wp2_with fail
  have hlt := hm3.out.lt
  refine (clear_lit p _ [x] 1 rfl (by decide) w3 hm3.out _ rfl).mono ?_
  rintro e w4 ⟨rfl, h1, h2⟩
  have hm4 := Lib.hid h1
  have hb4 := Lib.hid (hb3.out.trans (h2.below (B := w.heap.size) (by omega) (by omega)))
  clear h1 h2 hm3 hb3 hlt
  go_wp2_with fail
  refine (len_any p _ w4 hm4.out 0 (upd_back x).1).mono ?_
  rintro e w' ⟨rfl, rfl⟩
  go_wp2_with fail
  refine (has_any p _ x w4 hm4.out false (upd_back x).2).mono ?_
  rintro e w' ⟨rfl, n2, rfl⟩
  go_wp2
  go_ret
  exact ⟨rfl, hb4.out.trans (below_drewN w.heap.size w4 n2)⟩

set_option maxRecDepth 100000 in
set_option maxHeartbeats 1000000 in
theorem walk_high (x : Int) (h : 256 < x) (w : World) (hT : Tab w) : Calls Tryd.prog 6 #[.int .i64 x] w fun e w' => e = .returned (.bool true) ∧ Below w.heap.size w w' := by
  have HKn := Lib.hid (known_any w hT)
  have HT := Lib.hid hT
  have HU := Lib.hid (upd_out x (by omega))
  have c1 : decide (1 ≤ x) = true := by simp; omega
  have c2 : decide (x ≤ 256) = false := by simp; omega
  clear hT
  go_enter Tryd.func6, Tryd.ntmps6
  go_wp2_with fail
  refine HKn.out.mono ?_
  rintro e w0 ⟨rfl, hb⟩
  have hT0 := HT.out.below hb
  have hmn := Lib.hid (Mp.new w0 hT0.pos)
  have hbn := Lib.hid (hb.alloc hb.size (.cells #[.int .u64 0, .int .u64 0, .int .u64 0, .int .u64 0] 27))
  have hTn := Lib.hid (hT0.alloc (.cells #[.int .u64 0, .int .u64 0, .int .u64 0, .int .u64 0] 27))
  have hsz := hb.size
  clear hb hT0 HT HKn
  generalize hW : w0.alloc (.cells #[.int .u64 0, .int .u64 0, .int .u64 0, .int .u64 0] 27) = w1 at hmn hbn hTn
  go_wp2_with fail
  generalize w0.heap.size = p at *
  have hlt := hmn.out.lt
  refine (set_lit p none' [x] 1 rfl (by decide) w1 hmn.out _ rfl).mono ?_
  rintro e w2 ⟨rfl, h1, h2⟩
  have hm2 := Lib.hid h1
  have hT2 := Lib.hid (hTn.out.only h2 hmn.out.1)
  have hb2 := Lib.hid (hbn.out.trans (h2.below (B := w.heap.size) (by omega) (by omega)))
  clear h1 h2 hmn hTn hbn hW hlt
  go_wp2_with fail
  refine (first_any p _ w2 hm2.out hT2.out 0 HU.out.1).mono ?_
  rintro e w' ⟨rfl, rfl⟩
  simp only [tell]
  go_wp2_with fail
  refine (has_any p _ x w2 hm2.out false HU.out.2).mono ?_
  rintro e w' ⟨rfl, n, rfl⟩
  have hm3 := Lib.hid (hm2.out.drewN n)
  have hb3 := Lib.hid (hb2.out.trans (below_drewN w.heap.size w2 n))
  clear hm2 hT2 hb2
  generalize w2.drewN n = w3 at *
  go_wp2_with fail
  have hlt := hm3.out.lt
  refine (clear_lit p _ [x] 1 rfl (by decide) w3 hm3.out _ rfl).mono ?_
  rintro e w4 ⟨rfl, h1, h2⟩
  have hm4 := Lib.hid h1
  have hb4 := Lib.hid (hb3.out.trans (h2.below (B := w.heap.size) (by omega) (by omega)))
  clear h1 h2 hm3 hb3 hlt
  go_wp2_with fail
  refine (len_any p _ w4 hm4.out 0 (upd_back x).1).mono ?_
  rintro e w' ⟨rfl, rfl⟩
  go_wp2_with fail
  refine (has_any p _ x w4 hm4.out false (upd_back x).2).mono ?_
  rintro e w' ⟨rfl, n2, rfl⟩
  go_wp2
  go_ret
  exact ⟨rfl, hb4.out.trans (below_drewN w.heap.size w4 n2)⟩

theorem walk (x : Int) (w : World) (hT : Tab w) : Calls Tryd.prog 6 #[.int .i64 x] w fun e w' => e = .returned (.bool true) ∧ Below w.heap.size w w' := by
  by_cases c1 : x < 1
  · exact walk_low x c1 w hT
  · by_cases c2 : 256 < x
    · exact walk_high x c2 w hT
    · have := walk_mid x.toNat (by omega) (by omega) w hT
      rwa [Int.toNat_of_nonneg (by omega)] at this

theorem contract (H : Type) (enc : TypeId × Value → H) (W : World) (base : Nat) (args : Array Value) (ds gs : List (DataW H)) (before : List MemPlace)
    (hval : ∀ (j : Nat) t v, Tryd.f6.params[j]? = some t → args[j]? = some v → Value.okWide Tryd.prog W .any base t v)
    (hW : DataW.Whole enc Tryd.prog Tryd.f6.params.toList Rows.bitsEndsSpec.vars false W args.toList ds gs before) (hL : laidMetH Tryd.prog Rows.bitsEndsRow.laid W) :
    Calls Tryd.prog 6 args W fun e W' => ∃ v, e = .returned v ∧ Rows.bitsEndsSpec.post enc Tryd.prog Tryd.f6 false true false false W args v W' := by
  have hW' := hW
  obtain ⟨p, q, hA0, hV, rfl, hfz, hnd⟩ := hW
  have hA : DataW.TrodAll enc Tryd.prog W 0 (fun _ => true) true Tryd.f6.params.toList args.toList ds p := hA0
  rw [Tryd.params6] at hA hval
  obtain ⟨v0, vs0, d0, ds0, p0, q0, hargs, rfl, rfl, h0, r0⟩ := trodAll_cons hA
  obtain ⟨rfl, rfl, rfl⟩ := trodAll_nil r0
  obtain rfl : args = #[v0] := by cases args; simp_all
  obtain ⟨rfl, rfl⟩ := trodVars_none hV
  obtain ⟨x, rfl, rfl, rfl, hwn⟩ := open_int Tryd.underlying3 (hval 0 3 v0 rfl rfl) h0
  clear hA0
  simp only [List.append_nil] at hW'
  refine (walk x W (tab_of hL)).mono fun e W' ⟨he, bel⟩ => ?_
  subst he
  exact ⟨_, rfl, _, _, _, [], _, [], hW', trodAll_mk1 (shut_bool Tryd.underlying4 _), (trodAll_cons_mk (shut_int Tryd.underlying3 hwn) trodAll_mk0), rfl, bel.frame _, fun h => by cases h⟩

theorem laid_met (os : Os) : laidMet Tryd.prog Rows.bitsEndsRow.laid ((laidWorld os).forCall (fun _ _ => 0) ⟨#[], #[.int .i64 0], []⟩).memory :=
  laidMet_of_run' 8 (by kernel_rfl) (by kernel_rfl)
theorem reads (os : Os) {H : Type} (enc : TypeId × Value → H) : ∃ places, DataW.whole enc Tryd.prog ((laidWorld os).forCall (fun _ _ => 0) ⟨#[], #[.int .i64 0], []⟩).memory Tryd.f6.params.toList Rows.bitsEndsSpec.vars false #[Value.int .i64 0].toList 8 = some ([.lit (.int .i64 0)], [], places) :=
  ⟨[], by kernel_rfl⟩

set_option maxRecDepth 100000 in
theorem lifted (os : Os) (started : os.Started) (H : Type) (enc : TypeId × Value → H) (F : Stop.Interp) :
    ReturnsInHanded {} Tryd.checked os 6 .any ((OpenSpec.ofChange Rows.bitsEndsSpec).preRow enc Tryd.prog Tryd.f6 Rows.bitsEndsRow.domain false Rows.bitsEndsRow.laid) (((OpenSpec.ofChange Rows.bitsEndsSpec).at F).post enc Tryd.prog Tryd.f6 false true false false) := by
  obtain ⟨places, hx⟩ := reads os enc
  refine returnsInHanded_of_row (C := Tryd.checked) (s := OpenSpec.ofChange Rows.bitsEndsSpec) own started (by kernel_rfl) Tryd.func6
    (witness_row_at (enc := enc) (C := Tryd.checked) false (laidWorld os) #[.int .i64 0] rfl (by kernel_rfl) (by kernel_rfl) (by kernel_rfl)
      (OpenSpec.preRow_of_cond 8 hx (by kernel_rfl) (fun k hk => by cases hk) (by kernel_rfl) (laid_met os))) ?_
  intro W base args ds gs before hval hW _ _ _ hL _ _
  exact contract H enc W base args ds gs before hval hW hL

theorem said : Rows.BitsEndsSaid :=
  OpenClaim.holds_of_cond 6 Tryd.f6 rfl rfl rfl rfl rfl rfl rfl ⟨rfl, rfl, rfl, rfl, rfl⟩ rfl rfl rfl rfl rfl (by kernel_rfl) Tryd.func6 (by kernel_rfl)
    (of_decide_eq_true (by kernel_rfl)) (by unfold Func.isWrapper; first | (rw [if_pos (by decide +kernel)]; kernel_rfl) | (rw [if_neg (by decide +kernel)]; exact ⟨rfl, rfl⟩))
    (fun os started H enc _ F => by rw [OpenClaim.pre_eq_preRow]; exact lifted os started H enc F)

theorem plain (f : FuncId) (fn : Func) (hf : Tryd.pinned.checked.prog.funcNamed "detent/detentlaw5.BitsEnds" = some f) (hfn : Tryd.pinned.checked.prog.funcs[f]? = some fn) :
    false = Tryd.pinned.checked.prog.looks [] ∧ ∀ (j : Nat) t, fn.params[j]? = some t → Tryd.pinned.checked.prog.wantsStandIn t = false := by
  obtain rfl : f = 6 := Option.some.inj ((show Tryd.prog.funcNamed "detent/detentlaw5.BitsEnds" = some 6 by kernel_rfl).symm.trans hf) |>.symm
  obtain rfl : fn = Tryd.f6 := (Option.some.inj (Tryd.func6.symm.trans hfn)).symm
  refine ⟨by kernel_rfl, fun j t ht => ?_⟩
  rw [Tryd.params6] at ht
  obtain rfl : t = 3 := by simpa using Array.mem_of_getElem? ht
  exact (show Tryd.prog.wantsStandIn 3 = false by kernel_rfl)

/-- the statement -/
theorem proved : Rows.BitsEndsCardSaid :=
  Claim7.holds_tied_plain_at .later [] _ _ _ _ said (fun _ h => by cases h) (by kernel_rfl) (fun _ h => by cases h) bitsEnds_row_tie rfl ⟨rfl, rfl⟩ (by kernel_rfl) rfl plain (by kernel_rfl)
#print axioms proved
end Go.Proofs.YtdhemejipkaopaaDoor.bitsEnds
namespace Go.Proofs.YtdhemejipkaopaaDoor
theorem bitsEnds_holds : Rows.BitsEndsCardSaid := bitsEnds.proved
end Go.Proofs.YtdhemejipkaopaaDoor
