/-
  PROVED: the Go function detentlaw8.ClockOrder returns true for every input, and each argument reads behind the call as it read before (Rows.ClockOrderSaid). No condition.
-/
import Derived.Test.YtpnhpgdidineaaaRows
import Derived.Test.YtpnhpgdidineaaaCkO
import Derived.WalkKit
import Derived.ProofKit
import Derived.OpenShut
import Derived.ShutString
import Derived.ChangeOld
import Derived.Below
namespace Go.Proofs.Ytpnhpgdidineaaa.clockOrder
open Go.ChangeShapes Go.WideShapes Go.ChangeAt Go.RowKit
open Go.ChangeMaps (open_string shut_string)
set_option linter.unusedVariables false

theorem own : ownKnob Try.prog.godebug = none := by kernel_rfl
theorem laidOut : laidOutB Try.prog = true := by kernel_rfl

/-- WHAT THE WALK IS TOLD OF A SLICE OF INTEGERS THAT CAME IN: it is nil; or it leads to a row of 'cap' cells, the numbers 'zs' (the first 'len' are its elements, the rest its spare room), each fitting its kind. -/
def IsRow (k : IntKind) (w : World) (a : Option Addr) (len cap : Nat) (zs : List Int) : Prop :=
  (a = none ∧ len = 0 ∧ cap = 0 ∧ zs = []) ∨
  ∃ x, a = some x ∧ len ≤ cap ∧ cap ≤ maxLen ∧ zs.length = cap ∧ (∀ i, i < zs.length → w.cell? (x.add i) = some (.int k (zs.getD i 0))) ∧ ∀ n ∈ zs, (Lit.int k n).wf = true

set_option maxHeartbeats 800000 in
theorem walkOut (A : Option Addr) (n cap : Nat) (w : World) (hn : n ≤ 9223372036854775807) (h : ¬ n ≤ 60) :
    Calls Try.prog 7 #[.slice A n cap] w fun e w' => e = .returned (.bool true) ∧ Below w.heap.size w w' := by
  have t2 : decide ((60 : Int) < (n : Int)) = true := by simp; omega
  have t2' : decide (60 < n) = true := by simp; omega
  go_enter Try.func7, Try.ntmps7
  go_wp2_with fail
  refine (known_any w).mono ?_
  rintro e w0 ⟨rfl, hb0⟩
  go_wp2
  go_ret
  exact ⟨rfl, hb0⟩

set_option maxRecDepth 100000 in
set_option maxHeartbeats 6400000 in
theorem walkIn (A : Option Addr) (n cap : Nat) (q : Nat → Int) (w : World) (hA : Inp .u8 w A n q) (hn : n ≤ 60) :
    Calls Try.prog 7 #[.slice A n cap] w fun e w' => e = .returned (.bool true) ∧ Below w.heap.size w w' := by
  have HA := Lib.hid hA
  have t2 : decide ((60 : Int) < (n : Int)) = false := by simp; omega
  have t2' : decide (60 < n) = false := by simp; omega
  clear hA
  go_enter Try.func7, Try.ntmps7
  go_wp2_with fail
  refine (known_any w).mono ?_
  rintro e w0 ⟨rfl, hb0⟩
  go_wp2_with fail
  refine (new_at w w0 hb0 1000 (by decide) (by decide)).mono ?_
  rintro e w1 ⟨c, p, rfl, hk, hb1⟩
  have HK := Lib.hid hk
  have HB := Lib.hid hb1
  clear hk hb1 hb0 t2 t2'
  go_wp2
  go_loopw [5] (fun i wr => ∃ t g : Nat, t ≤ n ∧ i = .int .i64 (t : Int) ∧ Hid (Ck wr w.heap.size c p g 1000 0 0 (fil (fun i => q i + 1000) t) (t : Int)) ∧ Below w.heap.size w wr) (fun i _ => n - (intOf i).toNat)
  case atStart => exact ⟨0, p, by omega, rfl, HK.out, HB.out⟩
  case round =>
    clear HK HB
    obtain ⟨t, g, ht, rfl, hT, hw⟩ := hrel
    by_cases hlt : t < n
    · have i1 : (t : Int) < (n : Int) := by omega
      obtain ⟨b, o, rfl, hb, hc⟩ := HA.out (by omega)
      have d1 := (hw.cell (p := ⟨b, o + t, none⟩) hb).trans ((hc t hlt).1)
      have hbd := bounds_u8 (hc t hlt).2
      obtain ⟨x, hx⟩ : ∃ x, q t = x := ⟨_, rfl⟩
      rw [hx] at d1 hbd
      have hS : ins (x + 1000, (t : Int) + 1, (t : Int)) (fil (fun i => q i + 1000) t) = fil (fun i => q i + 1000) (t + 1) := by rw [← hx]; rfl
      have HI := Lib.hid (after_at wr w.heap.size c p g 1000 0 0 _ _ hT.out x (t : Int) (by omega) (by omega) (by omega) (by rw [fil_len]; omega) (by omega) (x + 1000) ((t : Int) + 1) (by omega) rfl _ hS)
      have cx : IntKind.i64.wrap x = x := IntWalk.i64_in _ (by omega)
      clear hx hS hc
      go_wp2_with fail
      refine HI.out.mono ?_
      rintro e w3 ⟨rfl, ⟨g2, h2⟩, hb2⟩
      have HT2 := Lib.hid h2
      have HW2 := Lib.hid (hw.trans hb2)
      clear h2 hb2 HI d1 hbd cx
      go_wp2
      go_roundw
      case rel => exact ⟨t + 1, g2, by omega, by go_num, HT2.out, HW2.out⟩
      case measure => simp [intOf]; omega
    · have i1 : decide ((t : Int) < (n : Int)) = false := by simp; omega
      have etn : t = n := by omega
      have HK2 : Hid (Ck wr w.heap.size c p g 1000 0 0 (fil (fun i => q i + 1000) n) (n : Int)) := by have := hT.out; rw [etn] at this; exact this
      have HW2 := Lib.hid hw
      have hqb : ∀ i, i < n → 0 ≤ q i ∧ q i ≤ 255 := fun i hi => by
        obtain ⟨b, o, _, _, hc⟩ := HA.out (by omega)
        exact bounds_u8 (hc i hi).2
      obtain ⟨S1, hS1⟩ : ∃ S1, rst (fil (fun i => q i + 1000) n) 1000 = S1 := ⟨_, rfl⟩
      have hsrt := HK2.out.tm.good.srt
      have hS1s : S1.Pairwise lt := by rw [← hS1]; exact rst_srt hsrt _
      have hS1o : Of (fun i => q i + 1000) n S1 := by rw [← hS1]; exact of_sub (of_fil _ n) (rst_sub _ _)
      have hall : due S1 2000 = S1 ∧ rst S1 2000 = [] := due_all fun x hx => by
        obtain ⟨i, hi, e⟩ := hS1o x hx
        rw [e]
        show q i + 1000 ≤ 2000
        have := hqb i hi
        omega
      obtain ⟨d, hd⟩ : ∃ d, S1.length = d := ⟨_, rfl⟩
      have hdn : d = cn (fun i => q i + 1000) 1000 n := by rw [← hd, ← hS1]; exact rst_fil hsrt
      have HDN := Lib.hid hdn
      have HD := Lib.hid hd
      have HE : Hid (∀ j, j < d → ∃ i : Nat, i < n ∧ (args S1)[j]? = some (i : Int) ∧ (0 < j → ∃ i' : Nat, i' < n ∧ (args S1)[j - 1]? = some (i' : Int) ∧ (q i' + 1000 < q i + 1000 ∨ q i' + 1000 = q i + 1000 ∧ i' < i))) := fun j hj => ord_elem hS1s hS1o (by rw [hd]; exact hj)
      have HQB := Lib.hid hqb
      have HAL := Lib.hid hall
      have HS1 := Lib.hid hS1
      have hdle : d ≤ 60 := by rw [hdn]; have := cn_le (fun i => q i + 1000) 1000 n; omega
      clear hT hw etn hqb hS1 hsrt hS1s hS1o hall hd hdn
      go_wp2_with fail
      refine (tick_at wr w.heap.size c p g 1000 0 0 _ _ HK2.out (by decide) 1000 1000 (by decide) (by decide) _ _ S1 rfl rfl HS1.out).mono ?_
      rintro e w3 ⟨X3, k3, rfl, _, hk3, hb3⟩
      have HK3 := Lib.hid hk3
      have HW3 := Lib.hid (HW2.out.trans hb3)
      clear hk3 hb3 HK2 HW2
      go_wp2_with fail
      refine (tick_at w3 w.heap.size c p g 1000 1000 1000 S1 _ HK3.out (by decide) 2000 2000 (by decide) (by decide) d S1 [] HAL.out.1 HD.out HAL.out.2).mono ?_
      rintro e w4 ⟨X, kk, rfl, hown, _, hb4⟩
      have HOWN := Lib.hid hown
      have HW4 := Lib.hid (HW3.out.trans hb4)
      clear hown hb4 HK3 HW3
      go_wp2
      go_loopw [7, 8] (fun nv i wr => ∃ t : Nat, t ≤ n ∧ nv = .int .i64 ((cn (fun i => q i + 1000) 1000 t : Nat) : Int) ∧ i = .int .i64 (t : Int) ∧ Hid (∃ dr, wr = w4.drewN dr)) (fun _ i _ => n - (intOf i).toNat)
      case atStart => exact ⟨0, by omega, rfl, rfl, ⟨0, rfl⟩⟩
      case round =>
        obtain ⟨t, ht, rfl, rfl, hD⟩ := hrel
        have hcle := cn_le (fun i => q i + 1000) 1000 t
        by_cases hlt : t < n
        · have i2 : (t : Int) < (n : Int) := by omega
          obtain ⟨b, o, rfl, hb, hc⟩ := HA.out (by omega)
          obtain ⟨dr, hdr⟩ := hD.out
          have d1 : wr.cell? ⟨b, o + t, none⟩ = some (.int .u8 (q t)) := by rw [hdr]; exact (HW4.out.cell (p := ⟨b, o + t, none⟩) hb).trans (hc t hlt).1
          have hq := HQB.out t hlt
          have hs : cn (fun i => q i + 1000) 1000 (t + 1) = cn (fun i => q i + 1000) 1000 t + if (1000 : Int) < q t + 1000 then 1 else 0 := rfl
          obtain ⟨x, hx⟩ : ∃ x, q t = x := ⟨_, rfl⟩
          rw [hx] at d1 hq hs
          have HHS := Lib.hid hs
          obtain ⟨cc, hcc⟩ : ∃ cc, cn (fun i => q i + 1000) 1000 t = cc := ⟨_, rfl⟩
          have HCC := Lib.hid hcc
          rw [hcc] at hcle ⊢
          clear hdr hc hx hs hcc
          by_cases hx0 : 0 < x
          · have j1 : (0 : Int) < x := hx0
            go_wp2
            go_roundw
            case rel =>
              refine ⟨t + 1, by omega, ?_, by go_num, hD.out⟩
              have e := HHS.out
              rw [HCC.out, if_pos (by omega)] at e
              rw [e]; go_num
            case measure => simp [intOf]; omega
          · have j1 : decide ((0 : Int) < x) = false := by simp; omega
            go_wp2
            go_roundw
            case rel =>
              refine ⟨t + 1, by omega, ?_, by go_num, hD.out⟩
              have e := HHS.out
              rw [HCC.out, if_neg (by omega)] at e
              rw [e]; go_num
            case measure => simp [intOf]; omega
        · have i2 : decide ((t : Int) < (n : Int)) = false := by simp; omega
          have etn : t = n := by omega
          have hce : cn (fun i => q i + 1000) 1000 t = d := by rw [etn]; exact HDN.out.symm
          rw [hce]
          clear hcle hce etn
          go_wp2
          go_loopw [9, 10, 11] (fun i _ _ wr => ∃ s : Nat, 1 ≤ s ∧ (s ≤ d ∨ s = 1) ∧ i = .int .i64 (s : Int) ∧ Hid (∃ dr, wr = w4.drewN dr)) (fun i _ _ _ => 100 - (intOf i).toNat)
          case atStart => exact ⟨1, by omega, by omega, rfl, hD.out⟩
          case round =>
            clear hD
            obtain ⟨s, hs1, hsd, rfl, hD⟩ := hrel
            by_cases hls : s < d
            · have i3 : (s : Int) < (d : Int) := by omega
              obtain ⟨u, hu⟩ : ∃ u, s = u + 1 := ⟨s - 1, by omega⟩
              obtain ⟨i, hi, ha, hp⟩ := HE.out s hls
              obtain ⟨i', hi', ha', hq⟩ := hp (by omega)
              have hu1 : s - 1 = u := by omega
              rw [hu1] at ha'
              obtain ⟨b2, rfl, hb2, hkk, hc2⟩ := own_int HOWN.out (by rw [args_len, HD.out]) (by omega)
              obtain ⟨b, o, rfl, hb, hc⟩ := HA.out (by omega)
              obtain ⟨dr, hdr⟩ := hD.out
              have e1 : wr.cell? ⟨b2, s, none⟩ = some (.int .i64 (i : Int)) := by rw [hdr]; exact hc2 s _ ha
              have e2 : wr.cell? ⟨b2, u, none⟩ = some (.int .i64 (i' : Int)) := by rw [hdr]; exact hc2 u _ ha'
              have e3 : wr.cell? ⟨b, o + i, none⟩ = some (.int .u8 (q i)) := by rw [hdr]; exact (HW4.out.cell (p := ⟨b, o + i, none⟩) hb).trans (hc i hi).1
              have e4 : wr.cell? ⟨b, o + i', none⟩ = some (.int .u8 (q i')) := by rw [hdr]; exact (HW4.out.cell (p := ⟨b, o + i', none⟩) hb).trans (hc i' hi').1
              have p3 : IntKind.i64.wrap ((s : Int) - 1) = (u : Int) := by rw [IntWalk.i64_in _ (by omega)]; omega
              have p4 : (s : Int) - 1 = (u : Int) := by omega
              have p5 : (u : Int) < (d : Int) := by omega
              have i5 : (i : Int) < (n : Int) := by omega
              have i6 : (i' : Int) < (n : Int) := by omega
              have i5' : decide ((n : Int) ≤ (i : Int)) = false := by simp; omega
              have i6' : decide ((n : Int) ≤ (i' : Int)) = false := by simp; omega
              have hD2 : Hid (∃ dr, wr = w4.drewN dr) := ⟨dr, hdr⟩
              obtain ⟨y, hy⟩ : ∃ y, q i = y := ⟨_, rfl⟩
              obtain ⟨y', hy'⟩ : ∃ y', q i' = y' := ⟨_, rfl⟩
              rw [hy] at e3 hq
              rw [hy'] at e4 hq
              clear ha ha' hp hu hu1 hc2 hc hdr hD hy hy' hb hkk hb2
              by_cases hyy : y' = y
              · have g1 : decide (y < y') = false := by simp; omega
                have g2 : (y' == y) = true := by simpa using hyy
                have g3 : decide ((i : Int) ≤ (i' : Int)) = false := by simp; omega
                have g4 : decide (i ≤ i') = false := by simp; omega
                have g5 : decide ((i' : Int) ≥ (i : Int)) = false := by simp; omega
                clear hq hyy
                go_wp2
                go_big_quiet (fail)
                go_wp2
                go_roundw
                case rel =>
                  obtain ⟨d9, e9⟩ := hD2.out
                  exact ⟨s + 1, by omega, by omega, by go_num, ⟨d9 + nq, by rw [e9]; simp [World.drewN, Nat.add_assoc]⟩⟩
                case measure => simp [intOf]; omega
              · have g1 : decide (y < y') = false := by simp; omega
                have g2 : (y' == y) = false := by simpa using hyy
                clear hq hyy
                go_wp2
                go_big_quiet (fail)
                go_wp2
                go_roundw
                case rel =>
                  obtain ⟨d9, e9⟩ := hD2.out
                  exact ⟨s + 1, by omega, by omega, by go_num, ⟨d9 + nq, by rw [e9]; simp [World.drewN, Nat.add_assoc]⟩⟩
                case measure => simp [intOf]; omega
            · have i3 : decide ((s : Int) < (d : Int)) = false := by simp; omega
              go_wp2
              go_ret
              obtain ⟨dr, hdr⟩ := hD.out
              exact ⟨rfl, by rw [hdr]; exact ⟨HW4.out.os, HW4.out.tape, HW4.out.output, HW4.out.size, HW4.out.block⟩⟩


/-! ### the walk -/
theorem walk (a0 : Option Addr) (len0 cap0 : Nat) (z0 : List Int) (w : World) (w0 : IsRow .u8 w a0 len0 cap0 z0) :
    Calls Try.prog 7 #[.slice a0 len0 cap0] w fun e w' => e = .returned (.bool true) ∧ Below w.heap.size w w' := by
  obtain ⟨hl, q, hq⟩ := inp_of w0
  by_cases h : len0 ≤ 60
  · exact walkIn a0 len0 cap0 q w hq h
  · exact walkOut a0 len0 cap0 w hl h

/-! ### THE ROW's STEP: WRITTEN OUT: LEAVE IT -/
set_option maxRecDepth 100000 in
theorem lifted (os : Os) (started : os.Started) (H : Type) (enc : TypeId × Value → H) :
    ReturnsInHanded {} Try.checked os 7 .any (Rows.clockOrderSpec.pre6 enc Try.prog Try.f7 Rows.clockOrderRow.domain false) (Rows.clockOrderSpec.post enc Try.prog Try.f7 false true false false) := by
  refine returnsInHanded_of_change (C := Try.checked) own started (by kernel_rfl) Try.func7
    (ChangeSpec.witness6 (enc := enc) (C := Try.checked) false ⟨#[], #[.slice none 0 0], []⟩ 8 (by kernel_rfl) (by kernel_rfl) (by kernel_rfl) (by kernel_rfl)) ?_
  intro W base args ds gs before hval0 hW hcnd _
  have hval : ∀ (j : Nat) t v, Try.f7.params[j]? = some t → args[j]? = some v → Value.okWide Try.prog W .any base t v := hval0
  have hW' := hW
  obtain ⟨p, q, hA0, hV, rfl, hfz, hnd⟩ := hW
  have hA : DataW.TrodAll enc Try.prog W 0 (fun _ => true) true Try.f7.params.toList args.toList ds p := hA0
  rw [Try.params7] at hA hval
  obtain ⟨v0, vs0, d0, ds0, p0, q0, hargs, rfl, rfl, h0, r0⟩ := trodAll_cons hA
  obtain ⟨rfl, rfl, rfl⟩ := trodAll_nil r0
  obtain rfl : args = #[v0] := by cases args; simp_all
  obtain ⟨rfl, rfl⟩ := trodVars_none hV
  obtain ⟨a0, len0, cap0, rfl⟩ := okWide_slice Try.underlying57 (hval 0 57 v0 rfl rfl)
  have k0 := h0
  have lt0 : ∀ x ∈ p0, x.block < W.heap.size := by obtain ⟨m, hm⟩ := k0; exact DataW.trod_lt m _ _ _ hm
  obtain ⟨z0, w0⟩ : ∃ zs, IsRow .u8 W a0 len0 cap0 zs := by
    obtain ⟨fuel, hf⟩ := h0
    rcases open_ints Try.underlying57 Try.underlying5 (by kernel_rfl) hf with ⟨hcs, _⟩ | ⟨x, l, c, zs, hcs, _, hl, hm, hz, _, hcell, hwz⟩
    · simp [Value.cells] at hcs
      obtain ⟨rfl, rfl, rfl⟩ := hcs
      exact ⟨[], .inl ⟨rfl, rfl, rfl, rfl⟩⟩
    · simp [Value.cells] at hcs
      obtain ⟨rfl, rfl, rfl⟩ := hcs
      exact ⟨zs, .inr ⟨_, rfl, hl, hm, by simpa using hz, hcell, hwz⟩⟩
  clear hA0 hval0
  refine (walk a0 len0 cap0 z0 W w0).mono fun e W' ⟨he, bel⟩ => ?_
  subst he
  exact ⟨_, rfl, _, _, _, [], _, [], hW', trodAll_mk1 (shut_bool Try.underlying4 _), (trodAll_cons_mk (Below.trod laidOut (by kernel_rfl) (of_decide_eq_true (by kernel_rfl)) k0 bel lt0) trodAll_mk0), rfl, bel.frame _, fun h => by cases h⟩

theorem over : Rows.clockOrderRow.holds Try.pinned (OpenSpec.ofChange Rows.clockOrderSpec) :=
  OpenClaim.holds_of_wide 7 Try.f7 rfl rfl rfl rfl rfl rfl rfl ⟨rfl, rfl, rfl, rfl, rfl⟩ rfl rfl rfl rfl rfl (by kernel_rfl) Try.func7 (by kernel_rfl)
    (of_decide_eq_true (by kernel_rfl)) (by unfold Func.isWrapper; first | (rw [if_pos (by decide +kernel)]; kernel_rfl) | (rw [if_neg (by decide +kernel)]; exact ⟨rfl, rfl⟩))
    (fun os started H enc _ => lifted os started H enc)

/-- ████ THE STATEMENT ████ -/
theorem proved : Rows.ClockOrderSaid := over
#print axioms proved
end Go.Proofs.Ytpnhpgdidineaaa.clockOrder
namespace Go.Proofs.Ytpnhpgdidineaaa
theorem clockOrder_holds : Rows.ClockOrderSaid := clockOrder.proved
end Go.Proofs.Ytpnhpgdidineaaa
