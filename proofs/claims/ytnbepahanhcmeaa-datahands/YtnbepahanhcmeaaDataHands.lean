/-
  PROVED: the Go function detentlaw13.DataHands returns true for every input, and each argument reads behind the call as it read before (Rows.DataHandsSaid). No condition.
-/
import Derived.Test.YtnbepahanhcmeaaRows
import Derived.Test.YtnbepahanhcmeaaDqR
import Derived.Test.YtnbepahanhcmeaaDqL
import Derived.WalkKit
import Derived.ProofKit
import Derived.OpenShut
import Derived.ShutString
import Derived.ChangeOld
import Derived.Below
namespace Go.Proofs.Ytnbepahanhcmeaa.dataHands
open Go.ChangeShapes Go.WideShapes Go.ChangeAt Go.RowKit
open Go.ChangeMaps (open_string shut_string)
set_option linter.unusedVariables false

theorem own : ownKnob Try.prog.godebug = none := by kernel_rfl
theorem laidOut : laidOutB Try.prog = true := by kernel_rfl

/-- WHAT THE WALK IS TOLD OF A SLICE OF INTEGERS THAT CAME IN: it is nil; or it leads to a row of 'cap' cells, the numbers 'zs' (the first 'len' are its elements, the rest its spare room), each fitting its kind. -/
def IsRow (k : IntKind) (w : World) (a : Option Addr) (len cap : Nat) (zs : List Int) : Prop :=
  (a = none ∧ len = 0 ∧ cap = 0 ∧ zs = []) ∨
  ∃ x, a = some x ∧ len ≤ cap ∧ cap ≤ maxLen ∧ zs.length = cap ∧ (∀ i, i < zs.length → w.cell? (x.add i) = some (.int k (zs.getD i 0))) ∧ ∀ n ∈ zs, (Lit.int k n).wf = true

/-- those who wait to send have what they send -/
def Has (W : Nat → Int) (L : List Int) (t : Nat) : Prop := ∀ (j : Nat) (x : Int), j < t → L[j]? = some x → W (j + 1) = x
theorem Has.next {W : Nat → Int} {L : List Int} {t : Nat} {x : Int} (h : Has W L t) (hx : L[t]? = some x) : Has (setW W ((t : Int) + 1).toNat x) L (t + 1) := by
  intro j y hj hy
  unfold setW
  rw [show ((t : Int) + 1).toNat = t + 1 by omega]
  by_cases c : j = t
  · subst c; rw [hx] at hy; injection hy with hy; rw [if_pos rfl]; exact hy
  · rw [if_neg (by omega)]; exact h j y (by omega) hy


/-! ### the walk -/
set_option maxRecDepth 100000 in
set_option maxHeartbeats 4000000 in
theorem walk (a0 : Option Addr) (len0 cap0 : Nat) (z0 : List Int) (a1 : Bool) (w : World) (w0 : IsRow .i64 w a0 len0 cap0 z0) :
    Calls Try.prog 6 #[.slice a0 len0 cap0, .bool a1] w fun e w' => e = .returned (.bool true) ∧ Below w.heap.size w w' := by
  obtain ⟨L, hL, hcap, hcap2, hnr⟩ := nr_of w0
  clear w0
  by_cases c8 : 8 < len0
  · have t1 : decide ((8 : Int) < (len0 : Int)) = true := by simp; omega
    have t2 : decide (8 < len0) = true := by simp; omega
    clear hnr c8
    go_enter Try.func6, Try.ntmps6
    go_wp2_with fail
    refine (known_ok w).mono ?_
    rintro e w1 ⟨rfl, hb⟩
    go_wp2
    go_ret
    exact ⟨rfl, hb⟩
  · have t1 : decide ((8 : Int) < (len0 : Int)) = false := by simp; omega
    have t2 : decide (8 < len0) = false := by simp; omega
    have HL := Lib.hid hL
    have HNR := Lib.hid hnr
    have h8 : (len0 : Int) ≤ 8 := by omega
    clear hL hnr c8
    go_enter Try.func6, Try.ntmps6
    go_wp2_with fail
    refine (known_ok w).mono ?_
    rintro e w1 ⟨rfl, hb⟩
    have HN := Lib.hid (new_at w w1 false 0 (by omega) hb)
    clear hb
    go_wp2_with fail
    refine HN.out.mono ?_
    rintro e w2 ⟨s, v, rfl, ha, _, _, _⟩
    have HA := Lib.hid ha
    clear ha HN
    cases a1 with
    | true =>
      go_wp2
      go_loopw [7] (fun i wr => ∃ (t : Nat) (v : Value) (W : Nat → Int), t ≤ len0 ∧ i = .int .i64 (t : Int) ∧ Has W L t ∧ At w s v ⟨false, 0, row t, [], W, []⟩ wr) (fun i _ => len0 - (intOf i).toNat)
      case atStart => exact ⟨0, v, fun _ => 0, Nat.zero_le _, rfl, fun j x hj => absurd hj (by omega), HA.out⟩
      case round =>
        obtain ⟨t, v, W, ht, rfl, hhas, ha⟩ := hrel
        have HH := Lib.hid hhas
        clear hhas
        by_cases hlt : t < len0
        · have hlt' : (t : Int) < (len0 : Int) := by omega
          have ht8 : (t : Int) ≤ 8 := by omega
          obtain ⟨x, hx⟩ : ∃ x, L[t]? = some x := ⟨_, List.getElem?_eq_getElem (by rw [HL.out]; exact hlt)⟩
          obtain ⟨g, o, rfl, hg, hc⟩ := (HNR.out.below ha.b).at_ hx
          have hp := row_put (t := t) (by omega)
          have HT := Lib.hid (send_at ha (send_wait (x := x) rfl (by simp) hp.1 hp.2))
          have HH2 := Lib.hid (HH.out.next hx)
          clear ha hx hp
          go_wp2_with fail
          refine HT.out.mono ?_
          rintro e w3 ⟨rfl, v3, ha, _⟩
          have HA3 := Lib.hid ha
          clear ha HT hc
          go_wp2
          exact ⟨⟨t + 1, v3, _, by omega, by go_num, HH2.out, HA3.out⟩, by simp [intOf]; omega⟩
        · obtain rfl : t = len0 := by omega
          have HA4 := Lib.hid ha
          clear ha
          go_wp2
          go_loopw [13] (fun i wr => ∃ (j : Nat) (v : Value), j ≤ t ∧ i = .int .i64 (j : Int) ∧ At w s v ⟨false, 0, (row t).drop j, [], W, []⟩ wr) (fun i _ => t - (intOf i).toNat)
          case atStart => exact ⟨0, v, Nat.zero_le _, rfl, HA4.out⟩
          case round =>
            obtain ⟨j, v, hj, rfl, ha⟩ := hrel
            by_cases hlt : j < t
            · have hlt' : (j : Int) < (t : Int) := by omega
              have ht8 : (j : Int) ≤ 8 := by omega
              obtain ⟨x, hx⟩ : ∃ x, L[j]? = some x := ⟨_, List.getElem?_eq_getElem (by rw [HL.out]; exact hlt)⟩
              obtain ⟨g, o, rfl, hg, hc⟩ := (HNR.out.below (w' := wr) ha.b).at_ hx
              have hw : W (((j : Int) + 1).toNat) = x := by rw [show ((j : Int) + 1).toNat = j + 1 by omega]; exact HH.out j x hlt hx
              have hr : recv ⟨false, 0, (row t).drop j, [], W, []⟩ ((j : Int) + 9) 1 = (⟨false, 0, (row t).drop (j + 1), [], W, []⟩, x, true, (j : Int) + 1, 0) := by rw [recv_hand (row_drop hlt) rfl]; simp only [hw]
              have HT := Lib.hid (recv_at ha hr)
              have HX := Lib.hid hx
              clear ha hx hr hw
              go_wp2_with fail
              refine HT.out.mono ?_
              rintro e w3 ⟨rfl, v3, ha, _⟩
              have bx := box3_new w3 44 (.int .i64 x) (.bool true) (.int .i64 ((j : Int) + 1))
              have HA3 := Lib.hid (ha.alloc (.cells #[.int .i64 x, .bool true, .int .i64 ((j : Int) + 1)] 44))
              obtain ⟨g', o', e', _, hc'⟩ := (HNR.out.below (w' := w3.alloc (.cells #[.int .i64 x, .bool true, .int .i64 ((j : Int) + 1)] 44)) HA3.out.b).at_ HX.out
              injection e' with e'
              injection e' with e1 e2
              subst e1 e2
              have b0 := bx.c0
              have b1 := bx.c1
              have b2 := bx.c2
              have tx : (x != x) = false := by simp
              clear ha HT bx hc
              go_wp2
              go_quiet (fail)
              go_wp2
              exact ⟨⟨j + 1, v3, by omega, by go_num, HA3.out.drewN _⟩, by simp [intOf]; omega⟩
            · obtain rfl : j = t := by omega
              rw [List.drop_of_length_le (by rw [row_len]; exact Nat.le_refl _)] at ha
              have HS := Lib.hid (senders_to ha 0 rfl)
              have HA5 := Lib.hid ha
              clear ha
              go_wp2_with fail
              refine HS.out.mono ?_
              rintro e w4 ⟨X4, K4, rfl, _, hb⟩
              have HA6 := Lib.hid (HA5.out.below hb)
              have HS2 := Lib.hid (receivers_to HA6.out 0 rfl)
              clear hb
              go_wp2_with fail
              refine HS2.out.mono ?_
              rintro e w5 ⟨X5, K5, rfl, _, hb⟩
              have HA7 := Lib.hid (HA6.out.below hb)
              have HS3 := Lib.hid (data_to HA7.out 0 rfl)
              clear hb
              go_wp2_with fail
              refine HS3.out.mono ?_
              rintro e w6 ⟨X6, K6, rfl, _, hb⟩
              have HB := Lib.hid (HA7.out.below hb).b
              clear hb
              go_wp2
              go_ret
              exact ⟨rfl, HB.out⟩
    | false =>
      go_wp2
      go_loopw [7] (fun i wr => ∃ (t : Nat) (v : Value), t ≤ len0 ∧ i = .int .i64 (t : Int) ∧ At w s v ⟨false, 0, [], row t, fun _ => 0, []⟩ wr) (fun i _ => len0 - (intOf i).toNat)
      case atStart => exact ⟨0, v, Nat.zero_le _, rfl, HA.out⟩
      case round =>
        obtain ⟨t, v, ht, rfl, ha⟩ := hrel
        by_cases hlt : t < len0
        · have hlt' : (t : Int) < (len0 : Int) := by omega
          have ht8 : (t : Int) ≤ 8 := by omega
          have hp := row_put (t := t) (by omega)
          have HT := Lib.hid (recv_at ha (recv_wait rfl rfl hp.1 hp.2))
          clear ha hp
          go_wp2_with fail
          refine HT.out.mono ?_
          rintro e w3 ⟨rfl, v3, ha, _⟩
          have bx := box3_new w3 44 (.int .i64 0) (.bool false) (.int .i64 0)
          have HA3 := Lib.hid (ha.alloc (.cells #[.int .i64 0, .bool false, .int .i64 0] 44))
          have b0 := bx.c0
          have b1 := bx.c1
          have b2 := bx.c2
          clear ha HT bx
          go_wp2
          exact ⟨⟨t + 1, v3, by omega, by go_num, HA3.out⟩, by simp [intOf]; omega⟩
        · obtain rfl : t = len0 := by omega
          have HA4 := Lib.hid ha
          clear ha
          go_wp2
          go_loopw [13] (fun i wr => ∃ (j : Nat) (v : Value), j ≤ t ∧ i = .int .i64 (j : Int) ∧ At w s v ⟨false, 0, [], (row t).drop j, fun _ => 0, []⟩ wr) (fun i _ => t - (intOf i).toNat)
          case atStart => exact ⟨0, v, Nat.zero_le _, rfl, HA4.out⟩
          case round =>
            obtain ⟨j, v, hj, rfl, ha⟩ := hrel
            by_cases hlt : j < t
            · have hlt' : (j : Int) < (t : Int) := by omega
              have ht8 : (j : Int) ≤ 8 := by omega
              obtain ⟨x, hx⟩ : ∃ x, L[j]? = some x := ⟨_, List.getElem?_eq_getElem (by rw [HL.out]; exact hlt)⟩
              obtain ⟨g, o, rfl, hg, hc⟩ := (HNR.out.below (w' := wr) ha.b).at_ hx
              have HT := Lib.hid (send_at ha (send_hand (t := ⟨false, 0, [], (row t).drop j, fun _ => 0, []⟩) (id := (j : Int) + 9) (pri := 1) (x := x) (row_drop hlt)))
              clear ha hx
              go_wp2_with fail
              refine HT.out.mono ?_
              rintro e w3 ⟨rfl, v3, ha, _⟩
              have HA3 := Lib.hid ha
              clear ha HT hc
              go_wp2
              exact ⟨⟨j + 1, v3, by omega, by go_num, HA3.out⟩, by simp [intOf]; omega⟩
            · obtain rfl : j = t := by omega
              rw [List.drop_of_length_le (by rw [row_len]; exact Nat.le_refl _)] at ha
              have HS := Lib.hid (senders_to ha 0 rfl)
              have HA5 := Lib.hid ha
              clear ha
              go_wp2_with fail
              refine HS.out.mono ?_
              rintro e w4 ⟨X4, K4, rfl, _, hb⟩
              have HA6 := Lib.hid (HA5.out.below hb)
              have HS2 := Lib.hid (receivers_to HA6.out 0 rfl)
              clear hb
              go_wp2_with fail
              refine HS2.out.mono ?_
              rintro e w5 ⟨X5, K5, rfl, _, hb⟩
              have HA7 := Lib.hid (HA6.out.below hb)
              have HS3 := Lib.hid (data_to HA7.out 0 rfl)
              clear hb
              go_wp2_with fail
              refine HS3.out.mono ?_
              rintro e w6 ⟨X6, K6, rfl, _, hb⟩
              have HB := Lib.hid (HA7.out.below hb).b
              clear hb
              go_wp2
              go_ret
              exact ⟨rfl, HB.out⟩

/-! ### THE ROW's STEP: WRITTEN OUT: LEAVE IT -/
set_option maxRecDepth 100000 in
theorem lifted (os : Os) (started : os.Started) (H : Type) (enc : TypeId × Value → H) :
    ReturnsInHanded {} Try.checked os 6 .any (Rows.dataHandsSpec.pre6 enc Try.prog Try.f6 Rows.dataHandsRow.domain false) (Rows.dataHandsSpec.post enc Try.prog Try.f6 false true false false) := by
  refine returnsInHanded_of_change (C := Try.checked) own started (by kernel_rfl) Try.func6
    (ChangeSpec.witness6 (enc := enc) (C := Try.checked) false ⟨#[], #[.slice none 0 0, .bool false], []⟩ 8 (by kernel_rfl) (by kernel_rfl) (by kernel_rfl) (by kernel_rfl)) ?_
  intro W base args ds gs before hval0 hW hcnd _
  have hval : ∀ (j : Nat) t v, Try.f6.params[j]? = some t → args[j]? = some v → Value.okWide Try.prog W .any base t v := hval0
  have hW' := hW
  obtain ⟨p, q, hA0, hV, rfl, hfz, hnd⟩ := hW
  have hA : DataW.TrodAll enc Try.prog W 0 (fun _ => true) true Try.f6.params.toList args.toList ds p := hA0
  rw [Try.params6] at hA hval
  obtain ⟨v0, vs0, d0, ds0, p0, q0, hargs, rfl, rfl, h0, r0⟩ := trodAll_cons hA
  obtain ⟨v1, vs1, d1, ds1, p1, q1, rfl, rfl, rfl, h1, r1⟩ := trodAll_cons r0
  obtain ⟨rfl, rfl, rfl⟩ := trodAll_nil r1
  obtain rfl : args = #[v0, v1] := by cases args; simp_all
  obtain ⟨rfl, rfl⟩ := trodVars_none hV
  obtain ⟨a0, len0, cap0, rfl⟩ := okWide_slice Try.underlying58 (hval 0 58 v0 rfl rfl)
  have k0 := h0
  have lt0 : ∀ x ∈ p0, x.block < W.heap.size := by obtain ⟨m, hm⟩ := k0; exact DataW.trod_lt m _ _ _ hm
  obtain ⟨z0, w0⟩ : ∃ zs, IsRow .i64 W a0 len0 cap0 zs := by
    obtain ⟨fuel, hf⟩ := h0
    rcases open_ints Try.underlying58 Try.underlying3 (by kernel_rfl) hf with ⟨hcs, _⟩ | ⟨x, l, c, zs, hcs, _, hl, hm, hz, _, hcell, hwz⟩
    · simp [Value.cells] at hcs
      obtain ⟨rfl, rfl, rfl⟩ := hcs
      exact ⟨[], .inl ⟨rfl, rfl, rfl, rfl⟩⟩
    · simp [Value.cells] at hcs
      obtain ⟨rfl, rfl, rfl⟩ := hcs
      exact ⟨zs, .inr ⟨_, rfl, hl, hm, by simpa using hz, hcell, hwz⟩⟩
  obtain ⟨a1, rfl, rfl, rfl⟩ := open_bool Try.underlying4 (hval 1 4 v1 rfl rfl) h1
  clear hA0 hval0
  refine (walk a0 len0 cap0 z0 a1 W w0).mono fun e W' ⟨he, bel⟩ => ?_
  subst he
  exact ⟨_, rfl, _, _, _, [], _, [], hW', trodAll_mk1 (shut_bool Try.underlying4 _), (trodAll_cons_mk (Below.trod laidOut (by kernel_rfl) (of_decide_eq_true (by kernel_rfl)) k0 bel lt0) (trodAll_cons_mk (shut_bool Try.underlying4 _) trodAll_mk0)), rfl, bel.frame _, fun h => by cases h⟩

theorem over : Rows.dataHandsRow.holds Try.pinned (OpenSpec.ofChange Rows.dataHandsSpec) :=
  OpenClaim.holds_of_wide 6 Try.f6 rfl rfl rfl rfl rfl rfl rfl ⟨rfl, rfl, rfl, rfl, rfl⟩ rfl rfl rfl rfl rfl (by kernel_rfl) Try.func6 (by kernel_rfl)
    (of_decide_eq_true (by kernel_rfl)) (by unfold Func.isWrapper; first | (rw [if_pos (by decide +kernel)]; kernel_rfl) | (rw [if_neg (by decide +kernel)]; exact ⟨rfl, rfl⟩))
    (fun os started H enc _ => lifted os started H enc)

/-- ████ THE STATEMENT ████ -/
theorem proved : Rows.DataHandsSaid := over
#print axioms proved
end Go.Proofs.Ytnbepahanhcmeaa.dataHands
namespace Go.Proofs.Ytnbepahanhcmeaa
theorem dataHands_holds : Rows.DataHandsSaid := dataHands.proved
end Go.Proofs.Ytnbepahanhcmeaa
