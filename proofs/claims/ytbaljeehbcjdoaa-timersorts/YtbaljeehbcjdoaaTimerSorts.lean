/-
  PROVED: the Go function detentlaw7.TimerSorts returns true for every input, and each argument reads behind the call as it read before (Rows.TimerSortsSaid). No condition.
-/
import Derived.Test.YtbaljeehbcjdoaaRows
import Derived.Test.YtbaljeehbcjdoaaConN
import Derived.WalkKit
import Derived.ProofKit
import Derived.OpenShut
import Derived.ShutString
import Derived.ChangeOld
import Derived.Below
namespace Go.Proofs.Ytbaljeehbcjdoaa.timerSorts
open Go.ChangeShapes Go.WideShapes Go.ChangeAt Go.RowKit
open Go.ChangeMaps (open_string shut_string)
set_option linter.unusedVariables false

theorem own : ownKnob Try.prog.godebug = none := by kernel_rfl
theorem laidOut : laidOutB Try.prog = true := by kernel_rfl

/-- WHAT THE WALK IS TOLD OF A SLICE OF INTEGERS THAT CAME IN: it is nil; or it leads to a row of 'cap' cells, the numbers 'zs' (the first 'len' are its elements, the rest its spare room), each fitting its kind. -/
def IsRow (k : IntKind) (w : World) (a : Option Addr) (len cap : Nat) (zs : List Int) : Prop :=
  (a = none ∧ len = 0 ∧ cap = 0 ∧ zs = []) ∨
  ∃ x, a = some x ∧ len ≤ cap ∧ cap ≤ maxLen ∧ zs.length = cap ∧ (∀ i, i < zs.length → w.cell? (x.add i) = some (.int k (zs.getD i 0))) ∧ ∀ n ∈ zs, (Lit.int k n).wf = true

set_option maxRecDepth 100000 in
set_option maxHeartbeats 6400000 in
theorem walkIn (A : Option Addr) (n cap : Nat) (q : Nat → Int) (w : World) (hA : Inp .u16 w A n q) (hn : n ≤ 200) :
    Calls Try.prog 5 #[.slice A n cap] w fun e w' => e = .returned (.bool true) ∧ Below w.heap.size w w' := by
  have HA := Lib.hid hA
  have t2 : decide ((200 : Int) < (n : Int)) = false := by simp; omega
  have t2' : decide (200 < n) = false := by simp; omega
  clear hA
  go_enter Try.func5, Try.ntmps5
  go_wp2_with fail
  refine (known_any w).mono ?_
  rintro e w0 ⟨rfl, hb0⟩
  go_wp2_with fail
  refine (new_then w w0 hb0).mono ?_
  rintro e w1 ⟨p, rfl, ht, hb1⟩
  have HT := Lib.hid ht
  have HB := Lib.hid hb1
  clear ht hb1 hb0 t2 t2'
  go_wp2
  go_loopw [4] (fun i wr => ∃ t g : Nat, t ≤ n ∧ i = .int .i64 (t : Int) ∧ Hid (Tm wr w.heap.size p g (fil q t) (t : Int)) ∧ Below w.heap.size w wr) (fun i _ => n - (intOf i).toNat)
  case atStart => exact ⟨0, p, by omega, rfl, HT.out, HB.out⟩
  case round =>
    clear HT HB
    obtain ⟨t, g, ht, rfl, hT, hw⟩ := hrel
    by_cases hlt : t < n
    · have i1 : (t : Int) < (n : Int) := by omega
      obtain ⟨b, o, rfl, hb, hc⟩ := HA.out (by omega)
      have d1 := (hw.cell (p := ⟨b, o + t, none⟩) hb).trans ((hc t hlt).1)
      have hbd := bounds_u16 (hc t hlt).2
      obtain ⟨x, hx⟩ : ∃ x, q t = x := ⟨_, rfl⟩
      rw [hx] at d1 hbd
      have hS : ins (x, (t : Int) + 1, (t : Int)) (fil q t) = fil q (t + 1) := by rw [← hx]; rfl
      have HI := Lib.hid (insert_at wr w.heap.size p g _ _ hT.out (by rw [fil_len]; omega) (by omega) x (t : Int) ((t : Int) + 1) rfl _ hS)
      have cx : IntKind.u64.wrap x = x := IntWalk.u64_in _ (by omega)
      clear hx hS hc
      go_wp2_with fail
      refine HI.out.mono ?_
      rintro e w3 ⟨rfl, ⟨g2, h2⟩, hb2⟩
      have HT2 := Lib.hid h2
      have HW2 := Lib.hid (hw.trans hb2)
      clear h2 hb2 HI d1 hbd cx
      go_wp2
      go_roundw
      case rel => exact ⟨t + 1, g2, by omega, by go_num, HT2.out, HW2.out⟩
      case measure => simp [intOf]; omega
    · have i1 : decide ((t : Int) < (n : Int)) = false := by simp; omega
      have etn : t = n := by omega
      have HT2 : Hid (∃ S, Of q n S ∧ S.length = n ∧ Tm wr w.heap.size p g S (n : Int)) := ⟨fil q n, of_fil q n, fil_len q n, by have := hT.out; rw [etn] at this; exact this⟩
      have HW2 := Lib.hid hw
      clear hT hw etn
      go_wp2
      go_loopw [5, 6] (fun cv kv wr => ∃ c k : Nat, k ≤ c ∧ c ≤ n ∧ cv = .int .i64 (c : Int) ∧ kv = .int .i64 (k : Int) ∧ Hid (∃ S, Of q n S ∧ S.length = n - c ∧ Tm wr w.heap.size p g S (n : Int)) ∧ Below w.heap.size w wr) (fun cv _ _ => n - (intOf cv).toNat)
      case atStart => exact ⟨0, 0, by omega, by omega, rfl, rfl, HT2.out, HW2.out⟩
      case round =>
        clear HT2 HW2
        obtain ⟨c, k, hkc, hcn, rfl, rfl, hS, hw⟩ := hrel
        obtain ⟨S, hO, hl, hT⟩ := hS.out
        have HO := Lib.hid hO
        have HL := Lib.hid hl
        have HT := Lib.hid hT
        have k1 : (k : Int) ≤ 256 := by omega
        clear hS hO hl hT
        go_wp2_with fail
        refine (len_any _ w.heap.size p g _ _ HT.out (n - c) HL.out).mono ?_
        rintro e w3 ⟨rfl, rfl⟩
        cases hS : S with
        | nil =>
          have hcc : n - c = 0 := by rw [← HL.out, hS]; rfl
          have k2 : decide (0 < ((n - c : Nat) : Int)) = false := by simp; omega
          have k3 : decide (0 < n - c) = false := by simp; omega
          have k4 : ((c : Int) == (n : Int)) = true := by simp; omega
          clear hS
          go_wp2
          go_ret
          exact ⟨by first | rfl | simp, hw⟩
        | cons s S2 =>
          have hcc : 0 < n - c := by rw [← HL.out, hS]; simp
          have k2 : (0 : Int) < ((n - c : Nat) : Int) := by omega
          rw [hS] at HO HL HT
          obtain ⟨m, hm⟩ : ∃ m, s.1 = m := ⟨_, rfl⟩
          obtain ⟨d, hd⟩ : ∃ d, (due (s :: S2) m).length = d := ⟨_, rfl⟩
          have hd0 : 0 < d := by rw [← hd, ← hm]; exact due_pos s S2
          have hdl := due_len (s :: S2) m
          rw [hd, HL.out] at hdl
          have hmin : ∀ x, x ∈ s :: S2 → m ≤ x.1 := fun x hx => by
            rcases List.mem_cons.1 hx with rfl | hx
            · omega
            · have := lt_time ((List.pairwise_cons.1 HT.out.good.srt).1 x hx); omega
          have HE : Hid (∀ j, j < d → ∃ i : Nat, i < n ∧ q i = m ∧ (q i, (i : Int) + 1, (i : Int)) ∈ s :: S2 ∧ (args (due (s :: S2) m))[j]? = some (i : Int) ∧ (0 < j → ∃ i' : Nat, i' < i ∧ (args (due (s :: S2) m))[j - 1]? = some (i' : Int))) := fun j hj => due_elem HT.out.good.srt HO.out hmin (by rw [hd]; exact hj)
          have HN := Lib.hid (next_at _ w.heap.size p g _ _ HT.out m ⟨s, S2, rfl, hm⟩)
          have HDU := Lib.hid (due_at _ w.heap.size p g _ _ HT.out m d _ _ rfl hd rfl)
          have HR : Hid (Of q n (rst (s :: S2) m) ∧ (rst (s :: S2) m).length = n - (c + d)) := ⟨of_sub HO.out (rst_sub _ _), by omega⟩
          have HDE := Lib.hid hd
          clear hS hm hd hmin HO HL
          have hdc : c + d ≤ n := by omega
          clear hdl
          go_wp2_with fail
          refine HN.out.mono ?_
          rintro e w3 ⟨rfl, rfl⟩
          go_wp2_with fail
          refine HDU.out.mono ?_
          rintro e w4 ⟨X, kk, rfl, hown, ht4, hb4⟩
          obtain ⟨b2, rfl, hb2, _, hc2⟩ := own_int hown (by rw [args_len, HDE.out]) hd0
          have HC2 := Lib.hid hc2
          have HT4 := Lib.hid ht4
          have HW4 := Lib.hid (hw.trans hb4)
          have HB2 : Hid (b2 < w4.heap.size) := by have := (hown.lt b2 rfl).2; exact this
          have k3 : ((d : Int) == 0) = false := by simp; omega
          have k3' : (d == 0) = false := by simp; omega
          clear HN HDU HT hown ht4 hb4 hc2 hw
          obtain ⟨b, o, rfl, hb, hc⟩ := HA.out (by omega)
          have HCC : Hid (∀ j, j < n → w4.cell? ⟨b, o + j, none⟩ = some (.int .u16 (q j)) ∧ 0 ≤ q j ∧ q j ≤ 65535) := fun j hj => ⟨(HW4.out.cell (p := ⟨b, o + j, none⟩) hb).trans (hc j hj).1, bounds_u16 (hc j hj).2⟩
          clear hc
          go_wp2
          go_loopw [10] (fun i wr => ∃ t : Nat, t ≤ d ∧ i = .int .i64 (t : Int) ∧ Hid (∃ dr, wr = w4.drewN dr)) (fun i _ => d - (intOf i).toNat)
          case atStart => exact ⟨0, by omega, rfl, ⟨0, rfl⟩⟩
          case round =>
            obtain ⟨t, ht, rfl, hD⟩ := hrel
            by_cases hlt : t < d
            · have i2 : (t : Int) < (d : Int) := by omega
              obtain ⟨i, hi, hq, _, ha, hprev⟩ := HE.out t hlt
              obtain ⟨dr, hdr⟩ := hD.out
              have e1 : wr.cell? ⟨b2, t, none⟩ = some (.int .i64 (i : Int)) := by rw [hdr]; exact HC2.out t _ ha
              have e2 : wr.cell? ⟨b, o + i, none⟩ = some (.int .u16 m) := by rw [hdr, ← hq]; exact (HCC.out i hi).1
              have hm2 : 0 ≤ m ∧ m ≤ 65535 := by rw [← hq]; exact (HCC.out i hi).2
              have cx : IntKind.u64.wrap m = m := IntWalk.u64_in _ (by omega)
              have i3 : (i : Int) < (n : Int) := by omega
              have i4 : decide ((i : Int) < 0) = false := by simp <;> omega
              have i5 : decide ((n : Int) ≤ (i : Int)) = false := by simp; omega
              have i6 : decide (n ≤ i) = false := by simp; omega
              have HP := Lib.hid hprev
              have HD2 : Hid (∃ dr, wr = w4.drewN dr) := ⟨dr, hdr⟩
              have HDR := Lib.hid hdr
              clear hprev hq ha hdr hD
              by_cases h0 : 0 < t
              · obtain ⟨i', hi', ha'⟩ := HP.out h0
                obtain ⟨u, hu⟩ : ∃ u, t = u + 1 := ⟨t - 1, by omega⟩
                have hu1 : t - 1 = u := by omega
                rw [hu1] at ha'
                have e3 : wr.cell? ⟨b2, u, none⟩ = some (.int .i64 (i' : Int)) := by rw [HDR.out]; exact HC2.out u _ ha'
                have p1 : (0 : Int) < (t : Int) := by omega
                have p3 : IntKind.i64.wrap ((t : Int) - 1) = (u : Int) := by rw [IntWalk.i64_in _ (by omega)]; omega
                have p4 : (t : Int) - 1 = (u : Int) := by omega
                have p5 : (u : Int) < (d : Int) := by omega
                have p6 : decide ((i : Int) ≤ (i' : Int)) = false := by simp; omega
                have p7 : decide (i ≤ i') = false := by simp; omega
                have p8 : 0 < t := h0
                clear ha' hu hu1 HP HDR
                go_wp2
                go_big_quiet (fail)
                go_wp2
                go_roundw
                case rel =>
                  obtain ⟨d9, e9⟩ := HD2.out
                  exact ⟨t + 1, by omega, by go_num, ⟨d9 + nq, by rw [e9]; simp [World.drewN, Nat.add_assoc]⟩⟩
                case measure => simp [intOf]; omega
              · have p1 : decide ((0 : Int) < (t : Int)) = false := by simp; omega
                have p2 : decide (0 < t) = false := by simp; omega
                clear HP HDR
                go_wp2
                go_big_quiet (fail)
                go_wp2
                go_roundw
                case rel =>
                  obtain ⟨d9, e9⟩ := HD2.out
                  exact ⟨t + 1, by omega, by go_num, ⟨d9 + nq, by rw [e9]; simp [World.drewN, Nat.add_assoc]⟩⟩
                case measure => simp [intOf]; omega
            · have i2 : decide ((t : Int) < (d : Int)) = false := by simp; omega
              go_wp2
              go_roundw
              case rel =>
                obtain ⟨dr, hdr⟩ := hD.out
                refine ⟨c + d, k + 1, by omega, hdc, by go_num, by go_num, ?_, ?_⟩
                · exact ⟨_, HR.out.1, HR.out.2, by rw [hdr]; exact HT4.out.drewN dr⟩
                · rw [hdr]; exact ⟨HW4.out.os, HW4.out.tape, HW4.out.output, HW4.out.size, HW4.out.block⟩
              case measure => simp [intOf]; omega
theorem walkOut (A : Option Addr) (n cap : Nat) (w : World) (h : 200 < n) : Calls Try.prog 5 #[.slice A n cap] w fun e w' => e = .returned (.bool true) ∧ Below w.heap.size w w' := by
  have t2 : decide ((200 : Int) < (n : Int)) = true := by simp; omega
  have t2' : decide (200 < n) = true := by simp; omega
  go_enter Try.func5, Try.ntmps5
  go_wp2_with fail
  refine (known_any w).mono ?_
  rintro e w0 ⟨rfl, hb0⟩
  go_wp2
  go_ret
  exact ⟨rfl, hb0⟩

/-! ### the walk -/
theorem walk (a0 : Option Addr) (len0 cap0 : Nat) (z0 : List Int) (w : World) (w0 : IsRow .u16 w a0 len0 cap0 z0) :
    Calls Try.prog 5 #[.slice a0 len0 cap0] w fun e w' => e = .returned (.bool true) ∧ Below w.heap.size w w' := by
  obtain ⟨hl, q, hA⟩ := inp_of w0
  by_cases h : 200 < len0
  · exact walkOut a0 len0 cap0 w h
  · exact walkIn a0 len0 cap0 q w hA (by omega)

/-! ### THE ROW's STEP: WRITTEN OUT: LEAVE IT -/
set_option maxRecDepth 100000 in
theorem lifted (os : Os) (started : os.Started) (H : Type) (enc : TypeId × Value → H) :
    ReturnsInHanded {} Try.checked os 5 .any (Rows.timerSortsSpec.pre6 enc Try.prog Try.f5 Rows.timerSortsRow.domain false) (Rows.timerSortsSpec.post enc Try.prog Try.f5 false true false false) := by
  refine returnsInHanded_of_change (C := Try.checked) own started (by kernel_rfl) Try.func5
    (ChangeSpec.witness6 (enc := enc) (C := Try.checked) false ⟨#[], #[.slice none 0 0], []⟩ 8 (by kernel_rfl) (by kernel_rfl) (by kernel_rfl) (by kernel_rfl)) ?_
  intro W base args ds gs before hval0 hW hcnd _
  have hval : ∀ (j : Nat) t v, Try.f5.params[j]? = some t → args[j]? = some v → Value.okWide Try.prog W .any base t v := hval0
  have hW' := hW
  obtain ⟨p, q, hA0, hV, rfl, hfz, hnd⟩ := hW
  have hA : DataW.TrodAll enc Try.prog W 0 (fun _ => true) true Try.f5.params.toList args.toList ds p := hA0
  rw [Try.params5] at hA hval
  obtain ⟨v0, vs0, d0, ds0, p0, q0, hargs, rfl, rfl, h0, r0⟩ := trodAll_cons hA
  obtain ⟨rfl, rfl, rfl⟩ := trodAll_nil r0
  obtain rfl : args = #[v0] := by cases args; simp_all
  obtain ⟨rfl, rfl⟩ := trodVars_none hV
  obtain ⟨a0, len0, cap0, rfl⟩ := okWide_slice Try.underlying45 (hval 0 45 v0 rfl rfl)
  have k0 := h0
  have lt0 : ∀ x ∈ p0, x.block < W.heap.size := by obtain ⟨m, hm⟩ := k0; exact DataW.trod_lt m _ _ _ hm
  obtain ⟨z0, w0⟩ : ∃ zs, IsRow .u16 W a0 len0 cap0 zs := by
    obtain ⟨fuel, hf⟩ := h0
    rcases open_ints Try.underlying45 Try.underlying46 (by kernel_rfl) hf with ⟨hcs, _⟩ | ⟨x, l, c, zs, hcs, _, hl, hm, hz, _, hcell, hwz⟩
    · simp [Value.cells] at hcs
      obtain ⟨rfl, rfl, rfl⟩ := hcs
      exact ⟨[], .inl ⟨rfl, rfl, rfl, rfl⟩⟩
    · simp [Value.cells] at hcs
      obtain ⟨rfl, rfl, rfl⟩ := hcs
      exact ⟨zs, .inr ⟨_, rfl, hl, hm, by simpa using hz, hcell, hwz⟩⟩
  clear hA0 hval0
  refine (walk a0 len0 cap0 z0 W w0).mono fun e W' ⟨he, bel⟩ => ?_
  subst he
  exact ⟨_, rfl, _, _, _, [], _, [], hW', trodAll_mk1 (shut_bool Try.underlying4 _), (trodAll_cons_mk (Below.trod laidOut (by kernel_rfl) (of_decide_eq_true (by kernel_rfl)) k0 bel lt0) trodAll_mk0), rfl, bel.frame _, fun h => by cases h⟩

theorem over : Rows.timerSortsRow.holds Try.pinned (OpenSpec.ofChange Rows.timerSortsSpec) :=
  OpenClaim.holds_of_wide 5 Try.f5 rfl rfl rfl rfl rfl rfl rfl ⟨rfl, rfl, rfl, rfl, rfl⟩ rfl rfl rfl rfl rfl (by kernel_rfl) Try.func5 (by kernel_rfl)
    (of_decide_eq_true (by kernel_rfl)) (by unfold Func.isWrapper; first | (rw [if_pos (by decide +kernel)]; kernel_rfl) | (rw [if_neg (by decide +kernel)]; exact ⟨rfl, rfl⟩))
    (fun os started H enc _ => lifted os started H enc)

/-- ████ THE STATEMENT ████ -/
theorem proved : Rows.TimerSortsSaid := over
#print axioms proved
end Go.Proofs.Ytbaljeehbcjdoaa.timerSorts
namespace Go.Proofs.Ytbaljeehbcjdoaa
theorem timerSorts_holds : Rows.TimerSortsSaid := timerSorts.proved
end Go.Proofs.Ytbaljeehbcjdoaa
