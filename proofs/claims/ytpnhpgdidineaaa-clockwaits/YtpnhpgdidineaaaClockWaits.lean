/-
  PROVED: the Go function detentlaw8.ClockWaits returns true for every input, and each argument reads behind the call as it read before (Rows.ClockWaitsSaid). No condition.
-/
import Derived.Test.YtpnhpgdidineaaaRows
import Derived.Test.YtpnhpgdidineaaaCkK
import Derived.WalkKit
import Derived.ProofKit
import Derived.OpenShut
import Derived.ShutString
import Derived.ChangeOld
import Derived.Below
namespace Go.Proofs.Ytpnhpgdidineaaa.clockWaits
open Go.ChangeShapes Go.WideShapes Go.ChangeAt Go.RowKit
open Go.ChangeMaps (open_string shut_string)
set_option linter.unusedVariables false

theorem own : ownKnob Try.prog.godebug = none := by kernel_rfl
theorem laidOut : laidOutB Try.prog = true := by kernel_rfl

/-- WHAT THE WALK IS TOLD OF A SLICE OF INTEGERS THAT CAME IN: it is nil; or it leads to a row of 'cap' cells, the numbers 'zs' (the first 'len' are its elements, the rest its spare room), each fitting its kind. -/
def IsRow (k : IntKind) (w : World) (a : Option Addr) (len cap : Nat) (zs : List Int) : Prop :=
  (a = none ∧ len = 0 ∧ cap = 0 ∧ zs = []) ∨
  ∃ x, a = some x ∧ len ≤ cap ∧ cap ≤ maxLen ∧ zs.length = cap ∧ (∀ i, i < zs.length → w.cell? (x.add i) = some (.int k (zs.getD i 0))) ∧ ∀ n ∈ zs, (Lit.int k n).wf = true

set_option maxHeartbeats 1600000 in
theorem walkOut (tic ah d : Int) (A : Option Addr) (m cap : Nat) (w : World) (hm : m ≤ 9223372036854775807) (h : tic < 1 ∨ 1000 < tic ∨ ah < 0 ∨ 50 < ah ∨ d < 0 ∨ 100 * tic < d ∨ 20 < m) :
    Calls Try.prog 4 #[.int .i64 tic, .int .i64 ah, .int .i64 d, .slice A m cap] w fun e w' => e = .returned (.bool true) ∧ Below w.heap.size w w' := by
  by_cases h0 : tic < 1
  · clear h
    go_enter Try.func4, Try.ntmps4
    go_wp2_with fail
    refine (known_any w).mono ?_
    rintro e w0 ⟨rfl, hb0⟩
    go_wp2
    go_ret
    exact ⟨rfl, hb0⟩
  by_cases h1 : 1000 < tic
  · clear h
    go_enter Try.func4, Try.ntmps4
    go_wp2_with fail
    refine (known_any w).mono ?_
    rintro e w0 ⟨rfl, hb0⟩
    go_wp2
    go_ret
    exact ⟨rfl, hb0⟩
  by_cases h2 : ah < 0
  · clear h
    go_enter Try.func4, Try.ntmps4
    go_wp2_with fail
    refine (known_any w).mono ?_
    rintro e w0 ⟨rfl, hb0⟩
    go_wp2
    go_ret
    exact ⟨rfl, hb0⟩
  by_cases h3 : 50 < ah
  · clear h
    go_enter Try.func4, Try.ntmps4
    go_wp2_with fail
    refine (known_any w).mono ?_
    rintro e w0 ⟨rfl, hb0⟩
    go_wp2
    go_ret
    exact ⟨rfl, hb0⟩
  by_cases h4 : d < 0
  · clear h
    go_enter Try.func4, Try.ntmps4
    go_wp2_with fail
    refine (known_any w).mono ?_
    rintro e w0 ⟨rfl, hb0⟩
    go_wp2
    go_ret
    exact ⟨rfl, hb0⟩
  by_cases h5 : 100 * tic < d
  · clear h
    have t9 : IntKind.i64.wrap (100 * tic) = 100 * tic := IntWalk.i64_in _ (by omega)
    have t8 : decide (100 * tic < d) = true := by simp; omega
    go_enter Try.func4, Try.ntmps4
    go_wp2_with fail
    refine (known_any w).mono ?_
    rintro e w0 ⟨rfl, hb0⟩
    go_wp2
    go_ret
    exact ⟨rfl, hb0⟩
  · have h6 : 20 < m := by omega
    have h7 : decide ((20 : Int) < (m : Int)) = true := by simp; omega
    clear h
    have t9 : IntKind.i64.wrap (100 * tic) = 100 * tic := IntWalk.i64_in _ (by omega)
    have t8 : decide (100 * tic < d) = false := by simp; omega
    go_enter Try.func4, Try.ntmps4
    go_wp2_with fail
    refine (known_any w).mono ?_
    rintro e w0 ⟨rfl, hb0⟩
    go_wp2
    go_ret
    exact ⟨rfl, hb0⟩

set_option maxHeartbeats 6400000 in
set_option maxRecDepth 100000 in
theorem walkIn (tic d : Int) (ah m cap : Nat) (A : Option Addr) (q : Nat → Int) (w : World) (hA : Inp .u64 w A m q) (h1 : 1 ≤ tic) (h2 : tic ≤ 1000) (h3 : ah ≤ 50) (h4 : 0 ≤ d) (h5 : d ≤ 100 * tic) (h6 : m ≤ 20) :
    Calls Try.prog 4 #[.int .i64 tic, .int .i64 (ah : Int), .int .i64 d, .slice A m cap] w fun e w' => e = .returned (.bool true) ∧ Below w.heap.size w w' := by
  have t1 : decide (tic < 1) = false := by simp; omega
  have t2 : decide (1000 < tic) = false := by simp; omega
  have t3 : decide ((ah : Int) < 0) = false := by simp
  have t4 : decide ((50 : Int) < (ah : Int)) = false := by simp; omega
  have t4' : decide (50 < ah) = false := by simp; omega
  have t5 : decide (d < 0) = false := by simp; omega
  have t6 : IntKind.i64.wrap (100 * tic) = 100 * tic := IntWalk.i64_in _ (by omega)
  have t7 : decide (100 * tic < d) = false := by simp; omega
  have t8 : decide ((20 : Int) < (m : Int)) = false := by simp; omega
  have t8' : decide (20 < m) = false := by simp; omega
  have HA := Lib.hid hA
  clear hA
  go_enter Try.func4, Try.ntmps4
  go_wp2_with fail
  refine (known_any w).mono ?_
  rintro e w0 ⟨rfl, hb⟩
  have HN := Lib.hid (new_at w w0 hb tic h1 h2)
  clear hb
  go_wp2_with fail
  refine HN.out.mono ?_
  rintro e w1 ⟨c, p, rfl, hk, hb1⟩
  have HK := Lib.hid hk
  have HB := Lib.hid hb1
  clear hk hb1 HN t1 t2 t3 t4 t4' t5 t6 t7 t8 t8'
  go_wp2
  go_loopw [11] (fun i wr => ∃ t : Nat, t ≤ ah ∧ i = .int .i64 (t : Int) ∧ Hid (∃ u v : Int, 0 ≤ u ∧ u ≤ (t : Int) * 1000 ∧ Ck wr w.heap.size c p p tic u v [] 0) ∧ Below w.heap.size w wr) (fun i _ => ah - (intOf i).toNat)
  case atStart => exact ⟨0, by omega, rfl, ⟨0, 0, by omega, by omega, HK.out⟩, HB.out⟩
  case round =>
    clear HK HB
    obtain ⟨t, ht, rfl, hH, hw⟩ := hrel
    obtain ⟨u, v, hu0, hu, hk⟩ := hH.out
    by_cases hlt : t < ah
    · have i1 : (t : Int) < (ah : Int) := by omega
      have HT := Lib.hid (tick_at wr w.heap.size c p p tic u v [] 0 hk (by omega) (u + tic) _ rfl rfl 0 [] [] rfl rfl rfl)
      have HN : Hid (0 ≤ u + tic ∧ u + tic ≤ ((t : Int) + 1) * 1000) := ⟨by omega, by omega⟩
      clear hk hu hu0 hH
      go_wp2_with fail
      refine HT.out.mono ?_
      rintro e w5 ⟨X5, k5, rfl, _, hk5, hb5⟩
      have HK5 := Lib.hid hk5
      have HB5 := Lib.hid (hw.trans hb5)
      clear hk5 hb5 HT hw
      go_wp2
      go_roundw
      case rel => exact ⟨t + 1, by omega, by go_num, ⟨_, _, HN.out.1, by have := HN.out.2; omega, HK5.out⟩, HB5.out⟩
      case measure => simp [intOf]; omega
    · have i1 : decide ((t : Int) < (ah : Int)) = false := by simp; omega
      obtain ⟨a, ha⟩ : ∃ a, u + d + tic = a := ⟨_, rfl⟩
      have HT := Lib.hid (after_at wr w.heap.size c p p tic u v [] 0 hk d 9 h4 (by omega) (by omega) (by decide) (by decide) a 1 ha (by decide) [(a, 1, 9)] rfl)
      have HU : Hid (0 ≤ u ∧ u ≤ 50000 ∧ u + d + tic = a) := ⟨hu0, by omega, ha⟩
      clear hk hu hu0 hH ha ht
      go_wp2_with fail
      refine HT.out.mono ?_
      rintro e w5 ⟨rfl, ⟨g, hk5⟩, hb5⟩
      have HK5 := Lib.hid hk5
      have HB5 := Lib.hid (hw.trans hb5)
      clear hk5 hb5 HT hw
      go_wp2
      clear i1 hlt
      go_loopw [12, 13] (fun nv i wr => ∃ k : Nat, k ≤ 110 ∧ nv = .int .i64 (k : Int) ∧ i = .int .i64 (k : Int) ∧ Hid (∃ U v : Int, U = u + (k : Int) * tic ∧ (k : Int) * tic < d + tic ∧ Ck wr w.heap.size c p g tic U v [(a, 1, 9)] 1) ∧ Below w.heap.size w wr) (fun nv i _ => 110 - (intOf i).toNat)
      case atStart => exact ⟨0, by omega, rfl, rfl, ⟨u, v, by simp, by simp; omega, HK5.out⟩, HB5.out⟩
      case round =>
        clear HK5 HB5
        obtain ⟨k, hk1, rfl, rfl, hH, hw⟩ := hrel
        obtain ⟨U, v, hU, hP, hk⟩ := hH.out
        obtain ⟨P, hPk⟩ : ∃ P : Int, (k : Int) * tic = P := ⟨_, rfl⟩
        have hP1 : (k : Int) * tic ≤ 110 * 1000 := Int.mul_le_mul (by omega) (by omega) (by omega) (by omega)
        have hP0 : 0 ≤ (k : Int) * tic := Int.mul_nonneg (by omega) (by omega)
        have hk110 : k < 110 := by
          rcases Nat.lt_or_ge k 110 with h | h
          · exact h
          · have : k = 110 := by omega
            subst this
            exfalso; omega
        rw [hPk] at hU hP hP1 hP0
        have i1 : (k : Int) < 110 := by omega
        have hU0 := HU.out
        have hsum : ((k : Int) + 1) * tic = P + tic := by rw [Int.add_mul, Int.one_mul, hPk]
        have HPK := Lib.hid hPk
        have HSU := Lib.hid hsum
        clear hH hPk hsum
        by_cases hkm : k < m
        · obtain ⟨b, o, rfl, hb, hc⟩ := HA.out (by omega)
          have d1 := (hw.cell (p := ⟨b, o + k, none⟩) hb).trans ((hc k hkm).1)
          have hbd := bounds_u64 (hc k hkm).2
          obtain ⟨x, hx⟩ : ∃ x, q k = x := ⟨_, rfl⟩
          rw [hx] at d1 hbd
          have i2 : (k : Int) < (m : Int) := by omega
          have HS := Lib.hid (set_at wr w.heap.size c p g tic U v [(a, 1, 9)] 1 hk x _ hbd.1 rfl)
          clear hx hc hbd hk
          go_wp2_with fail
          refine HS.out.mono ?_
          rintro e w5 ⟨rfl, hk5, hb5⟩
          have HK5 := Lib.hid hk5
          have HB5 := Lib.hid (hw.trans hb5)
          clear hk5 hb5 HS hw d1
          by_cases hdue : d ≤ P
          · have HT := Lib.hid (tick_at w5 w.heap.size c p g tic U _ [(a, 1, 9)] 1 HK5.out (by omega) (U + tic) _ rfl rfl 1 [(a, 1, 9)] [] (due_cons (by show a ≤ U + tic; omega)).1 rfl (due_cons (by show a ≤ U + tic; omega)).2)
            have p1 : decide (P < d) = false := by simp; omega
            have p2 : d ≤ P := hdue
            have p3 : IntKind.i64.wrap ((k : Int) * tic) = P := by rw [HPK.out]; exact IntWalk.i64_in _ (by omega)
            have p5 : ((k : Int) - 1) * tic = P - tic := by rw [Int.sub_mul, Int.one_mul, HPK.out]
            have HP7 : Hid (wrap64 (((k : Int) + 1 - 2) * tic) < d) := by
              have e : ((k : Int) + 1 - 2) * tic = P - tic := by rw [show (k : Int) + 1 - 2 = (k : Int) - 1 by omega]; exact p5
              rw [e]; unfold wrap64; exact Lib.hid (by omega)
            have p8 : decide (d ≤ P) = true := by simp; omega
            clear HK5 hU hP hP1 hP0 hU0 p5
            go_wp2_with fail
            refine HT.out.mono ?_
            rintro e w6 ⟨X6, k6, rfl, _, hk6, hb6⟩
            have HB6 := Lib.hid (HB5.out.trans hb6)
            clear hk6 hb6 HT
            go_wp2
            go_ret
            exact ⟨by first | rfl | (simp; exact HP7.out), HB6.out⟩
          · have HT := Lib.hid (tick_at w5 w.heap.size c p g tic U _ [(a, 1, 9)] 1 HK5.out (by omega) (U + tic) _ rfl rfl 0 [] [(a, 1, 9)] (due_stop (by show ¬ a ≤ U + tic; omega)).1 rfl (due_stop (by show ¬ a ≤ U + tic; omega)).2)
            have HE : Hid (U + tic = u + ((k : Int) + 1) * tic ∧ ((k : Int) + 1) * tic < d + tic) := ⟨by rw [HSU.out]; omega, by rw [HSU.out]; omega⟩
            clear HK5 hU hP hP1 hP0 hU0
            go_wp2_with fail
            refine HT.out.mono ?_
            rintro e w6 ⟨X6, k6, rfl, _, hk6, hb6⟩
            have HK6 := Lib.hid hk6
            have HB6 := Lib.hid (HB5.out.trans hb6)
            clear hk6 hb6 HT
            go_wp2
            go_roundw
            case rel => exact ⟨k + 1, by omega, by go_num, by go_num, ⟨_, _, by rw [HE.out.1]; simp, by have := HE.out.2; simpa using this, HK6.out⟩, HB6.out⟩
            case measure => simp [intOf]; omega
        · have i2 : decide ((k : Int) < (m : Int)) = false := by simp; omega
          have HK5 := Lib.hid hk
          have HB5 := Lib.hid hw
          clear hk hw
          by_cases hdue : d ≤ P
          · have HT := Lib.hid (tick_at wr w.heap.size c p g tic U v [(a, 1, 9)] 1 HK5.out (by omega) (U + tic) _ rfl rfl 1 [(a, 1, 9)] [] (due_cons (by show a ≤ U + tic; omega)).1 rfl (due_cons (by show a ≤ U + tic; omega)).2)
            have p1 : decide (P < d) = false := by simp; omega
            have p2 : d ≤ P := hdue
            have p3 : IntKind.i64.wrap ((k : Int) * tic) = P := by rw [HPK.out]; exact IntWalk.i64_in _ (by omega)
            have p5 : ((k : Int) - 1) * tic = P - tic := by rw [Int.sub_mul, Int.one_mul, HPK.out]
            have HP7 : Hid (wrap64 (((k : Int) + 1 - 2) * tic) < d) := by
              have e : ((k : Int) + 1 - 2) * tic = P - tic := by rw [show (k : Int) + 1 - 2 = (k : Int) - 1 by omega]; exact p5
              rw [e]; unfold wrap64; exact Lib.hid (by omega)
            have p8 : decide (d ≤ P) = true := by simp; omega
            clear HK5 hU hP hP1 hP0 hU0 p5
            go_wp2_with fail
            refine HT.out.mono ?_
            rintro e w6 ⟨X6, k6, rfl, _, hk6, hb6⟩
            have HB6 := Lib.hid (HB5.out.trans hb6)
            clear hk6 hb6 HT
            go_wp2
            go_ret
            exact ⟨by first | rfl | (simp; exact HP7.out), HB6.out⟩
          · have HT := Lib.hid (tick_at wr w.heap.size c p g tic U v [(a, 1, 9)] 1 HK5.out (by omega) (U + tic) _ rfl rfl 0 [] [(a, 1, 9)] (due_stop (by show ¬ a ≤ U + tic; omega)).1 rfl (due_stop (by show ¬ a ≤ U + tic; omega)).2)
            have HE : Hid (U + tic = u + ((k : Int) + 1) * tic ∧ ((k : Int) + 1) * tic < d + tic) := ⟨by rw [HSU.out]; omega, by rw [HSU.out]; omega⟩
            clear HK5 hU hP hP1 hP0 hU0
            go_wp2_with fail
            refine HT.out.mono ?_
            rintro e w6 ⟨X6, k6, rfl, _, hk6, hb6⟩
            have HK6 := Lib.hid hk6
            have HB6 := Lib.hid (HB5.out.trans hb6)
            clear hk6 hb6 HT
            go_wp2
            go_roundw
            case rel => exact ⟨k + 1, by omega, by go_num, by go_num, ⟨_, _, by rw [HE.out.1]; simp, by have := HE.out.2; simpa using this, HK6.out⟩, HB6.out⟩
            case measure => simp [intOf]; omega


/-! ### the walk -/
theorem walk (a0 : Int) (a1 : Int) (a2 : Int) (a3 : Option Addr) (len3 cap3 : Nat) (z3 : List Int) (w : World) (w0 : (Lit.int .i64 a0).wf = true) (w1 : (Lit.int .i64 a1).wf = true) (w2 : (Lit.int .i64 a2).wf = true) (w3 : IsRow .u64 w a3 len3 cap3 z3) :
    Calls Try.prog 4 #[.int .i64 a0, .int .i64 a1, .int .i64 a2, .slice a3 len3 cap3] w fun e w' => e = .returned (.bool true) ∧ Below w.heap.size w w' := by
  obtain ⟨hl, q, hq⟩ := inp_of w3
  by_cases h : a0 < 1 ∨ 1000 < a0 ∨ a1 < 0 ∨ 50 < a1 ∨ a2 < 0 ∨ 100 * a0 < a2 ∨ 20 < len3
  · exact walkOut a0 a1 a2 a3 len3 cap3 w hl h
  · obtain ⟨ah, rfl⟩ : ∃ n : Nat, a1 = (n : Int) := ⟨a1.toNat, by omega⟩
    exact walkIn a0 a2 ah len3 cap3 a3 q w hq (by omega) (by omega) (by omega) (by omega) (by omega) (by omega)

/-! ### THE ROW's STEP: WRITTEN OUT: LEAVE IT -/
set_option maxRecDepth 100000 in
theorem lifted (os : Os) (started : os.Started) (H : Type) (enc : TypeId × Value → H) :
    ReturnsInHanded {} Try.checked os 4 .any (Rows.clockWaitsSpec.pre6 enc Try.prog Try.f4 Rows.clockWaitsRow.domain false) (Rows.clockWaitsSpec.post enc Try.prog Try.f4 false true false false) := by
  refine returnsInHanded_of_change (C := Try.checked) own started (by kernel_rfl) Try.func4
    (ChangeSpec.witness6 (enc := enc) (C := Try.checked) false ⟨#[], #[.int .i64 0, .int .i64 0, .int .i64 0, .slice none 0 0], []⟩ 8 (by kernel_rfl) (by kernel_rfl) (by kernel_rfl) (by kernel_rfl)) ?_
  intro W base args ds gs before hval0 hW hcnd _
  have hval : ∀ (j : Nat) t v, Try.f4.params[j]? = some t → args[j]? = some v → Value.okWide Try.prog W .any base t v := hval0
  have hW' := hW
  obtain ⟨p, q, hA0, hV, rfl, hfz, hnd⟩ := hW
  have hA : DataW.TrodAll enc Try.prog W 0 (fun _ => true) true Try.f4.params.toList args.toList ds p := hA0
  rw [Try.params4] at hA hval
  obtain ⟨v0, vs0, d0, ds0, p0, q0, hargs, rfl, rfl, h0, r0⟩ := trodAll_cons hA
  obtain ⟨v1, vs1, d1, ds1, p1, q1, rfl, rfl, rfl, h1, r1⟩ := trodAll_cons r0
  obtain ⟨v2, vs2, d2, ds2, p2, q2, rfl, rfl, rfl, h2, r2⟩ := trodAll_cons r1
  obtain ⟨v3, vs3, d3, ds3, p3, q3, rfl, rfl, rfl, h3, r3⟩ := trodAll_cons r2
  obtain ⟨rfl, rfl, rfl⟩ := trodAll_nil r3
  obtain rfl : args = #[v0, v1, v2, v3] := by cases args; simp_all
  obtain ⟨rfl, rfl⟩ := trodVars_none hV
  obtain ⟨a0, rfl, rfl, rfl, w0⟩ := open_int Try.underlying3 (hval 0 3 v0 rfl rfl) h0
  obtain ⟨a1, rfl, rfl, rfl, w1⟩ := open_int Try.underlying3 (hval 1 3 v1 rfl rfl) h1
  obtain ⟨a2, rfl, rfl, rfl, w2⟩ := open_int Try.underlying2 (hval 2 2 v2 rfl rfl) h2
  obtain ⟨a3, len3, cap3, rfl⟩ := okWide_slice Try.underlying53 (hval 3 53 v3 rfl rfl)
  have k3 := h3
  have lt3 : ∀ x ∈ p3, x.block < W.heap.size := by obtain ⟨m, hm⟩ := k3; exact DataW.trod_lt m _ _ _ hm
  obtain ⟨z3, w3⟩ : ∃ zs, IsRow .u64 W a3 len3 cap3 zs := by
    obtain ⟨fuel, hf⟩ := h3
    rcases open_ints Try.underlying53 Try.underlying31 (by kernel_rfl) hf with ⟨hcs, _⟩ | ⟨x, l, c, zs, hcs, _, hl, hm, hz, _, hcell, hwz⟩
    · simp [Value.cells] at hcs
      obtain ⟨rfl, rfl, rfl⟩ := hcs
      exact ⟨[], .inl ⟨rfl, rfl, rfl, rfl⟩⟩
    · simp [Value.cells] at hcs
      obtain ⟨rfl, rfl, rfl⟩ := hcs
      exact ⟨zs, .inr ⟨_, rfl, hl, hm, by simpa using hz, hcell, hwz⟩⟩
  clear hA0 hval0
  refine (walk a0 a1 a2 a3 len3 cap3 z3 W w0 w1 w2 w3).mono fun e W' ⟨he, bel⟩ => ?_
  subst he
  exact ⟨_, rfl, _, _, _, [], _, [], hW', trodAll_mk1 (shut_bool Try.underlying4 _), (trodAll_cons_mk (shut_int Try.underlying3 w0) (trodAll_cons_mk (shut_int Try.underlying3 w1) (trodAll_cons_mk (shut_int Try.underlying2 w2) (trodAll_cons_mk (Below.trod laidOut (by kernel_rfl) (of_decide_eq_true (by kernel_rfl)) k3 bel lt3) trodAll_mk0)))), rfl, bel.frame _, fun h => by cases h⟩

theorem over : Rows.clockWaitsRow.holds Try.pinned (OpenSpec.ofChange Rows.clockWaitsSpec) :=
  OpenClaim.holds_of_wide 4 Try.f4 rfl rfl rfl rfl rfl rfl rfl ⟨rfl, rfl, rfl, rfl, rfl⟩ rfl rfl rfl rfl rfl (by kernel_rfl) Try.func4 (by kernel_rfl)
    (of_decide_eq_true (by kernel_rfl)) (by unfold Func.isWrapper; first | (rw [if_pos (by decide +kernel)]; kernel_rfl) | (rw [if_neg (by decide +kernel)]; exact ⟨rfl, rfl⟩))
    (fun os started H enc _ => lifted os started H enc)

/-- ████ THE STATEMENT ████ -/
theorem proved : Rows.ClockWaitsSaid := over
#print axioms proved
end Go.Proofs.Ytpnhpgdidineaaa.clockWaits
namespace Go.Proofs.Ytpnhpgdidineaaa
theorem clockWaits_holds : Rows.ClockWaitsSaid := clockWaits.proved
end Go.Proofs.Ytpnhpgdidineaaa
