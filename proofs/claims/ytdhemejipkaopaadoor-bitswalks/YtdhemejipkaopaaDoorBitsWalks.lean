/-
  PROVED: the Go function detentlaw5.BitsWalks returns true for every input, and its argument reads behind the call as it read before (Rows.BitsWalksCardSaid). Condition: the library's table math/bits.deBruijn64tab stands as its initialiser lays it (the card ties it to the program's text; the repository is the pruned copy of the seat).
-/
import Derived.Test.YtdhemejipkaopaaDoorConL
namespace Go.Proofs.YtdhemejipkaopaaDoor.bitsWalks
open Go.ChangeShapes Go.WideShapes Go.ChangeAt Go.RowKit

set_option maxRecDepth 100000 in
theorem big (a : Option Addr) (len cap : Nat) (h : 300 < len) (w : World) (hT : Tab w) :
    Calls Tryd.prog 4 #[.slice a len cap] w fun e w' => e = .returned (.bool true) ∧ Below w.heap.size w w' := by
  have h' : decide ((300 : Int) < (len : Int)) = true := by simp; omega
  have HKn := Lib.hid (known_any w hT)
  clear h hT
  go_enter Tryd.func4, Tryd.ntmps4
  go_wp2_with fail
  refine HKn.out.mono ?_
  rintro e w0 ⟨rfl, hb⟩
  go_wp2
  go_ret
  exact ⟨rfl, hb⟩

/-- the loop: n came, p last -/
def Rel (B : Nat → Bool) (q : Nat) (w : World) (n p k : Value) (wr : World) : Prop :=
  ∃ m a : Nat, n = .int .i64 (m : Int) ∧ p = .int .i64 (a : Int) ∧ k = .int .i64 (m : Int) ∧ m ≤ a ∧ a ≤ 256 ∧ m + (row B a).length = (row B 0).length ∧ Mp wr q B ∧ Tab wr ∧ Below w.heap.size w wr

set_option maxRecDepth 100000 in
set_option maxHeartbeats 1000000 in
theorem small (a : Option Addr) (len cap : Nat) (h : len ≤ 300) (w : World) (L : List Int) (hL : L.length = len) (hs : ∀ p, w.heap.size ≤ p → Src p w a L) (hT : Tab w) :
    Calls Tryd.prog 4 #[.slice a len cap] w fun e w' => e = .returned (.bool true) ∧ Below w.heap.size w w' := by
  have h' : decide ((300 : Int) < (len : Int)) = false := by simp; omega
  have HLE := Lib.hid h
  have HKn := Lib.hid (known_any w hT)
  have HT := Lib.hid hT
  have HL := Lib.hid hL
  have HS := Lib.hid hs
  clear hT hL hs h
  go_enter Tryd.func4, Tryd.ntmps4
  go_wp2_with fail
  refine HKn.out.mono ?_
  rintro e w0 ⟨rfl, hb⟩
  have hT0 := HT.out.below hb
  have hmn := Lib.hid (Mp.new w0 hT0.pos)
  have hbn := Lib.hid (hb.alloc hb.size (.cells #[.int .u64 0, .int .u64 0, .int .u64 0, .int .u64 0] 27))
  have hTn := Lib.hid (hT0.alloc (.cells #[.int .u64 0, .int .u64 0, .int .u64 0, .int .u64 0] 27))
  have hsn := Lib.hid (((HS.out w0.heap.size hb.size).below hb).alloc (.cells #[.int .u64 0, .int .u64 0, .int .u64 0, .int .u64 0] 27))
  have hsz := hb.size
  clear hb hT0 HT HKn HS
  generalize hW : w0.alloc (.cells #[.int .u64 0, .int .u64 0, .int .u64 0, .int .u64 0] 27) = w1 at hmn hbn hTn hsn
  go_wp2_with fail
  generalize w0.heap.size = p at *
  have hlt := hmn.out.lt
  refine (set_any p none' a L cap len w1 hmn.out hsn.out HL.out (by have := HLE.out; omega)).mono ?_
  rintro e w2 ⟨rfl, h1, h2⟩
  have hm2 := Lib.hid h1
  have hT2 := Lib.hid (hTn.out.only h2 hmn.out.1)
  have hb2 := Lib.hid (hbn.out.trans (h2.below (B := w.heap.size) (by omega) (by omega)))
  clear h1 h2 hmn hTn hbn hW hlt hsn
  generalize upd none' L true = B at *
  go_wp2
  go_loopw [4, 5, 6] (fun n v k wr => Rel B p w n v k wr) (fun _ _ k _ => 257 - (intOf k).toNat)
  case atStart => exact ⟨0, 0, rfl, rfl, rfl, by omega, by omega, Nat.zero_add _, hm2.out, hT2.out, hb2.out⟩
  case round =>
    obtain ⟨m, c, rfl, rfl, rfl, hmc, hc, hlen, hm, hT, hb⟩ := hrel
    have ht : decide ((m : Int) < 257) = true := by simp; omega
    have HN := Lib.hid hlen
    have HM := Lib.hid hm
    have HT := Lib.hid hT
    have HB := Lib.hid hb
    clear hlen hm hT hb hm2 hT2 hb2
    by_cases hz : nxt B c = 0
    · have HA := Lib.hid (after_any p B (c : Int) wr HM.out HT.out 0 (by rw [Int.toNat_natCast]; exact hz))
      have e : (row B 0).length = m := by rw [← HN.out, row_nil B c hz]; rfl
      have HL2 := Lib.hid (len_any p B wr HM.out m e)
      clear hz e
      unfold tell at HA
      go_wp2_with fail
      refine HA.out.mono ?_
      rintro e w' ⟨rfl, rfl⟩
      go_wp2_with fail
      refine HL2.out.mono ?_
      rintro e w' ⟨rfl, rfl⟩
      go_wp2
      go_ret
      exact ⟨rfl, HB.out⟩
    · have hn := nxt_some B c
      have hcs := row_cons B c hz
      obtain ⟨x, hx⟩ : ∃ x, nxt B c = x := ⟨_, rfl⟩
      rw [hx] at hn hz hcs
      have hx1 : c < x := by omega
      have hx2 : x ≤ 256 := by omega
      have hxb : B x = true := by rcases hn with h | h; (exact absurd h hz); (exact h.2.2)
      have HA := Lib.hid (after_any p B (c : Int) wr HM.out HT.out x (by rw [Int.toNat_natCast]; exact hx))
      have HH := Lib.hid (has_any p B (x : Int) wr HM.out true (by rw [has_in (by omega) (by omega), Int.toNat_natCast]; exact hxb))
      have HN2 := Lib.hid (show (m + 1) + (row B x).length = (row B 0).length by rw [← HN.out, hcs]; simp; omega)
      have t1 : decide (0 < x) = true := by simp; omega
      have t2 : decide ((x : Int) ≤ (c : Int)) = false := by simp; omega
      have t3 : decide (x ≤ c) = false := by simp; omega
      clear hn hz hcs hx hxb
      unfold tell at HA
      rw [t1] at HA
      go_wp2_with fail
      refine HA.out.mono ?_
      rintro e w' ⟨rfl, rfl⟩
      go_wp2_with fail
      refine HH.out.mono ?_
      rintro e w' ⟨rfl, d, rfl⟩
      go_wp2
      go_roundw
      case rel => exact ⟨m + 1, x, by go_num, rfl, by go_num, by omega, by omega, HN2.out, HM.out.drewN d, HT.out.drewN d, HB.out.trans (below_drewN w.heap.size wr d)⟩
      case measure => simp [intOf]; omega

theorem walk (a0 : Option Addr) (len0 cap0 : Nat) (z0 : List Int) (w : World) (w0 : IsRow w a0 len0 cap0 z0) (hT : Tab w) :
    Calls Tryd.prog 4 #[.slice a0 len0 cap0] w fun e w' => e = .returned (.bool true) ∧ Below w.heap.size w w' := by
  obtain ⟨_, L, hL, hs⟩ := src_of w0
  by_cases c : 300 < len0
  · exact big a0 len0 cap0 c w hT
  · exact small a0 len0 cap0 (by omega) w L hL hs hT

theorem contract (H : Type) (enc : TypeId × Value → H) (W : World) (base : Nat) (args : Array Value) (ds gs : List (DataW H)) (before : List MemPlace)
    (hval : ∀ (j : Nat) t v, Tryd.f4.params[j]? = some t → args[j]? = some v → Value.okWide Tryd.prog W .any base t v)
    (hW : DataW.Whole enc Tryd.prog Tryd.f4.params.toList Rows.bitsWalksSpec.vars false W args.toList ds gs before) (hL : laidMetH Tryd.prog Rows.bitsWalksRow.laid W) :
    Calls Tryd.prog 4 args W fun e W' => ∃ v, e = .returned v ∧ Rows.bitsWalksSpec.post enc Tryd.prog Tryd.f4 false true false false W args v W' := by
  have hW' := hW
  obtain ⟨p, q, hA0, hV, rfl, hfz, hnd⟩ := hW
  have hA : DataW.TrodAll enc Tryd.prog W 0 (fun _ => true) true Tryd.f4.params.toList args.toList ds p := hA0
  rw [Tryd.params4] at hA hval
  obtain ⟨v0, vs0, d0, ds0, p0, q0, hargs, rfl, rfl, h0, r0⟩ := trodAll_cons hA
  obtain ⟨rfl, rfl, rfl⟩ := trodAll_nil r0
  obtain rfl : args = #[v0] := by cases args; simp_all
  obtain ⟨rfl, rfl⟩ := trodVars_none hV
  obtain ⟨a0, len0, cap0, rfl⟩ := okWide_slice Tryd.underlying29 (hval 0 29 v0 rfl rfl)
  have k0 := h0
  have lt0 : ∀ x ∈ p0, x.block < W.heap.size := by obtain ⟨m, hm⟩ := k0; exact DataW.trod_lt m _ _ _ hm
  obtain ⟨z0, w0⟩ : ∃ zs, IsRow W a0 len0 cap0 zs := by
    obtain ⟨fuel, hf⟩ := h0
    rcases open_ints Tryd.underlying29 Tryd.underlying3 (by kernel_rfl) hf with ⟨hcs, _⟩ | ⟨x, l, c, zs, hcs, _, hl, hm, hz, _, hcell, hwz⟩
    · simp [Value.cells] at hcs
      obtain ⟨rfl, rfl, rfl⟩ := hcs
      exact ⟨[], .inl ⟨rfl, rfl, rfl, rfl⟩⟩
    · simp [Value.cells] at hcs
      obtain ⟨rfl, rfl, rfl⟩ := hcs
      exact ⟨zs, .inr ⟨_, rfl, hl, hm, by simpa using hz, hcell, hwz⟩⟩
  clear hA0
  refine (walk a0 len0 cap0 z0 W w0 (tab_of hL)).mono fun e W' ⟨he, bel⟩ => ?_
  subst he
  exact ⟨_, rfl, _, _, _, [], _, [], hW', trodAll_mk1 (shut_bool Tryd.underlying4 _), (trodAll_cons_mk (Below.trod laidOut (by kernel_rfl) (of_decide_eq_true (by kernel_rfl)) k0 bel lt0) trodAll_mk0), rfl, bel.frame _, fun h => by cases h⟩

theorem laid_met (os : Os) : laidMet Tryd.prog Rows.bitsWalksRow.laid ((laidWorld os).forCall (fun _ _ => 0) ⟨#[], #[.slice none 0 0], []⟩).memory :=
  laidMet_of_run' 8 (by kernel_rfl) (by kernel_rfl)
theorem reads (os : Os) {H : Type} (enc : TypeId × Value → H) : ∃ places, DataW.whole enc Tryd.prog ((laidWorld os).forCall (fun _ _ => 0) ⟨#[], #[.slice none 0 0], []⟩).memory Tryd.f4.params.toList Rows.bitsWalksSpec.vars false #[Value.slice none 0 0].toList 8 = some ([.nil], [], places) :=
  ⟨[], by kernel_rfl⟩

set_option maxRecDepth 100000 in
theorem lifted (os : Os) (started : os.Started) (H : Type) (enc : TypeId × Value → H) (F : Stop.Interp) :
    ReturnsInHanded {} Tryd.checked os 4 .any ((OpenSpec.ofChange Rows.bitsWalksSpec).preRow enc Tryd.prog Tryd.f4 Rows.bitsWalksRow.domain false Rows.bitsWalksRow.laid) (((OpenSpec.ofChange Rows.bitsWalksSpec).at F).post enc Tryd.prog Tryd.f4 false true false false) := by
  obtain ⟨places, hx⟩ := reads os enc
  refine returnsInHanded_of_row (C := Tryd.checked) (s := OpenSpec.ofChange Rows.bitsWalksSpec) own started (by kernel_rfl) Tryd.func4
    (witness_row_at (enc := enc) (C := Tryd.checked) false (laidWorld os) #[.slice none 0 0] rfl (by kernel_rfl) (by kernel_rfl) (by kernel_rfl)
      (OpenSpec.preRow_of_cond 8 hx (by kernel_rfl) (fun k hk => by cases hk) (by kernel_rfl) (laid_met os))) ?_
  intro W base args ds gs before hval hW _ _ _ hL _ _
  exact contract H enc W base args ds gs before hval hW hL

theorem said : Rows.BitsWalksSaid :=
  OpenClaim.holds_of_cond 4 Tryd.f4 rfl rfl rfl rfl rfl rfl rfl ⟨rfl, rfl, rfl, rfl, rfl⟩ rfl rfl rfl rfl rfl (by kernel_rfl) Tryd.func4 (by kernel_rfl)
    (of_decide_eq_true (by kernel_rfl)) (by unfold Func.isWrapper; first | (rw [if_pos (by decide +kernel)]; kernel_rfl) | (rw [if_neg (by decide +kernel)]; exact ⟨rfl, rfl⟩))
    (fun os started H enc _ F => by rw [OpenClaim.pre_eq_preRow]; exact lifted os started H enc F)

theorem plain (f : FuncId) (fn : Func) (hf : Tryd.pinned.checked.prog.funcNamed "detent/detentlaw5.BitsWalks" = some f) (hfn : Tryd.pinned.checked.prog.funcs[f]? = some fn) :
    false = Tryd.pinned.checked.prog.looks [] ∧ ∀ (j : Nat) t, fn.params[j]? = some t → Tryd.pinned.checked.prog.wantsStandIn t = false := by
  obtain rfl : f = 4 := Option.some.inj ((show Tryd.prog.funcNamed "detent/detentlaw5.BitsWalks" = some 4 by kernel_rfl).symm.trans hf) |>.symm
  obtain rfl : fn = Tryd.f4 := (Option.some.inj (Tryd.func4.symm.trans hfn)).symm
  refine ⟨by kernel_rfl, fun j t ht => ?_⟩
  rw [Tryd.params4] at ht
  have hm : t = 29 := by have := Array.mem_of_getElem? ht; simpa using this
  rcases hm with rfl
  exact (show Tryd.prog.wantsStandIn 29 = false by kernel_rfl)

/-- the statement -/
theorem proved : Rows.BitsWalksCardSaid :=
  Claim7.holds_tied_plain_at .later [] _ _ _ _ said (fun _ h => by cases h) (by kernel_rfl) (fun _ h => by cases h) bitsWalks_row_tie rfl ⟨rfl, rfl⟩ (by kernel_rfl) rfl plain (by kernel_rfl)
#print axioms proved
end Go.Proofs.YtdhemejipkaopaaDoor.bitsWalks
namespace Go.Proofs.YtdhemejipkaopaaDoor
theorem bitsWalks_holds : Rows.BitsWalksCardSaid := bitsWalks.proved
end Go.Proofs.YtdhemejipkaopaaDoor
