/-
  PROVED: the Go function detentlaw7.TimerLeft returns true for every input, and each argument reads behind the call as it read before (Rows.TimerLeftSaid). No condition.
-/
import Derived.Test.YtbaljeehbcjdoaaRows
import Derived.Test.YtbaljeehbcjdoaaConM
import Derived.WalkKit
import Derived.ProofKit
import Derived.OpenShut
import Derived.ShutString
import Derived.ChangeOld
import Derived.Below
namespace Go.Proofs.Ytbaljeehbcjdoaa.timerLeft
open Go.ChangeShapes Go.WideShapes Go.ChangeAt Go.RowKit
open Go.ChangeMaps (open_string shut_string)
set_option linter.unusedVariables false

theorem own : ownKnob Try.prog.godebug = none := by kernel_rfl
theorem laidOut : laidOutB Try.prog = true := by kernel_rfl

/-- WHAT THE WALK IS TOLD OF A SLICE OF INTEGERS THAT CAME IN: it is nil; or it leads to a row of 'cap' cells, the numbers 'zs' (the first 'len' are its elements, the rest its spare room), each fitting its kind. -/
def IsRow (k : IntKind) (w : World) (a : Option Addr) (len cap : Nat) (zs : List Int) : Prop :=
  (a = none ∧ len = 0 ∧ cap = 0 ∧ zs = []) ∨
  ∃ x, a = some x ∧ len ≤ cap ∧ cap ≤ maxLen ∧ zs.length = cap ∧ (∀ i, i < zs.length → w.cell? (x.add i) = some (.int k (zs.getD i 0))) ∧ ∀ n ∈ zs, (Lit.int k n).wf = true

/-- one entry, then others -/
def flt (a : Int) (q : Nat → Int) : Nat → List En
  | 0 => [(a, 1, 1)]
  | n + 1 => ins (q n, (n : Int) + 2, 2) (flt a q n)
theorem flt_len (a : Int) (q : Nat → Int) : ∀ n, (flt a q n).length = n + 1
  | 0 => rfl
  | n + 1 => by unfold flt; rw [ins_len, flt_len a q n]
theorem flt_first (a : Int) (q : Nat → Int) : ∀ n, (a, 1, 1) ∈ flt a q n
  | 0 => List.mem_cons_self
  | n + 1 => by unfold flt; rw [ins_mem]; exact .inr (flt_first a q n)

set_option maxHeartbeats 3200000 in
theorem walkIn (a now : Int) (A : Option Addr) (n cap : Nat) (q : Nat → Int) (w : World) (hA : Inp .u64 w A n q) (hn : n ≤ 60) :
    Calls Try.prog 6 #[.int .u64 a, .int .u64 now, .slice A n cap] w fun e w' => e = .returned (.bool true) ∧ Below w.heap.size w w' := by
  have HA := Lib.hid hA
  have t2 : decide ((60 : Int) < (n : Int)) = false := by simp; omega
  have t2' : decide (60 < n) = false := by simp; omega
  clear hA
  go_enter Try.func6, Try.ntmps6
  go_wp2_with fail
  refine (known_any w).mono ?_
  rintro e w0 ⟨rfl, hb0⟩
  go_wp2_with fail
  refine (new_then w w0 hb0).mono ?_
  rintro e w1 ⟨p, rfl, ht, hb1⟩
  go_wp2_with fail
  refine (insert_at w1 w.heap.size p p [] 0 ht (by decide) (by decide) a 1 1 (by decide) (flt a q 0) rfl).mono ?_
  rintro e w2 ⟨rfl, ⟨g, ht⟩, hb2⟩
  have HT := Lib.hid ht
  have HB := Lib.hid (hb1.trans hb2)
  clear ht hb1 hb0 hb2 t2 t2'
  go_wp2
  go_loopw [10] (fun i wr => ∃ t g : Nat, t ≤ n ∧ i = .int .i64 (t : Int) ∧ Hid (Tm wr w.heap.size p g (flt a q t) ((t : Int) + 1)) ∧ Below w.heap.size w wr) (fun i _ => n - (intOf i).toNat)
  case atStart => exact ⟨0, g, by omega, rfl, HT.out, HB.out⟩
  case round =>
    clear HT HB
    obtain ⟨t, g, ht, rfl, hT, hw⟩ := hrel
    by_cases hlt : t < n
    · have i1 : (t : Int) < (n : Int) := by omega
      obtain ⟨b, o, rfl, hb, hc⟩ := HA.out (by omega)
      have d1 := (hw.cell (p := ⟨b, o + t, none⟩) hb).trans ((hc t hlt).1)
      obtain ⟨x, hx⟩ : ∃ x, q t = x := ⟨_, rfl⟩
      rw [hx] at d1
      have hS : ins (x, (t : Int) + 2, 2) (flt a q t) = flt a q (t + 1) := by rw [← hx]; rfl
      have HI := Lib.hid (insert_at wr w.heap.size p g _ _ hT.out (by rw [flt_len]; omega) (by omega) x 2 ((t : Int) + 2) (by omega) _ hS)
      clear hx hS hc
      go_wp2_with fail
      refine HI.out.mono ?_
      rintro e w3 ⟨rfl, ⟨g2, h2⟩, hb2⟩
      have HT2 := Lib.hid h2
      have HW2 := Lib.hid (hw.trans hb2)
      clear h2 hb2 HI d1
      go_wp2
      go_roundw
      case rel =>
        refine ⟨t + 1, g2, by omega, by go_num, ?_, HW2.out⟩
        have e : ((t + 1 : Nat) : Int) + 1 = (t : Int) + 2 := by omega
        rw [e]; exact HT2.out
      case measure => simp [intOf]; omega
    · have i1 : decide ((t : Int) < (n : Int)) = false := by simp; omega
      have etn : t = n := by omega
      rw [etn] at hT
      have hG := hT.out.good
      have hf := fnd_some hG.apart (flt_first a q n)
      have hf2 : fnd (flt a q n) ((n : Int) + 2) = none := fnd_none fun x hx => by have := hG.bnd x hx; omega
      have hdel : (del (flt a q n) 1).length = n := by have := del_len hG.apart (flt_first a q n); rw [flt_len] at this; simpa using this
      have hf3 : fnd (del (flt a q n) 1) 1 = none := fnd_none fun x hx => (mem_del.1 hx).2
      have hd3 : del (del (flt a q n) 1) 1 = del (flt a q n) 1 := del_none fun x hx => (mem_del.1 hx).2
      obtain ⟨r, hr⟩ : ∃ r, wrap64 (IntKind.u64.wrap (a - now)) = r := ⟨_, rfl⟩
      have HR := Lib.hid hr
      have HL1 := Lib.hid (left_some _ w.heap.size p g _ _ hT.out 1 now (a, 1, 1) hf r hr)
      have HF := Lib.hid (And.intro hf (And.intro hf2 (And.intro hdel (And.intro hf3 hd3))))
      clear hG hf hf2 hdel hf3 hd3 etn
      go_wp2_with fail
      refine HL1.out.mono ?_
      rintro e w3 ⟨rfl, hb3⟩
      have HT3 := Lib.hid (hT.out.below hb3)
      have HW3 := Lib.hid (hw.trans (hb3.mono hw.size))
      clear HL1 hb3 hT hw
      have k1 : (1 : Int) + (n : Int) + 1 = (n : Int) + 2 := by omega
      have HL2 := Lib.hid (left_none _ w.heap.size p g _ _ HT3.out ((n : Int) + 2) now HF.out.2.1)
      go_wp2_with fail
      refine HL2.out.mono ?_
      rintro e w4 ⟨rfl, hb4⟩
      have HT4 := Lib.hid (HT3.out.below hb4)
      have HW4 := Lib.hid (HW3.out.trans (hb4.mono HW3.out.size))
      clear HL2 hb4 HT3 HW3
      go_wp2_with fail
      refine (cancel_at _ w.heap.size p g _ _ HT4.out 1 true (by rw [HF.out.1]; rfl) _ rfl).mono ?_
      rintro e w5 ⟨rfl, ht5, hb5⟩
      have HT5 := Lib.hid ht5
      have HW5 := Lib.hid (HW4.out.trans hb5)
      clear ht5 hb5 HT4 HW4
      go_wp2_with fail
      refine (left_none _ w.heap.size p g _ _ HT5.out 1 now HF.out.2.2.2.1).mono ?_
      rintro e w6 ⟨rfl, hb6⟩
      have HT6 := Lib.hid (HT5.out.below hb6)
      have HW6 := Lib.hid (HW5.out.trans (hb6.mono HW5.out.size))
      clear hb6 HT5 HW5
      go_wp2_with fail
      refine (cancel_at _ w.heap.size p g _ _ HT6.out 1 false (by rw [HF.out.2.2.2.1]; rfl) _ HF.out.2.2.2.2).mono ?_
      rintro e w7 ⟨rfl, ht7, hb7⟩
      have HT7 := Lib.hid ht7
      have HW7 := Lib.hid (HW6.out.trans hb7)
      clear ht7 hb7 HT6 HW6
      go_wp2_with fail
      refine (len_any _ w.heap.size p g _ _ HT7.out n HF.out.2.2.1).mono ?_
      rintro e w8 ⟨rfl, rfl⟩
      go_wp2
      go_ret
      exact ⟨by first | rfl | simp, HW7.out⟩
theorem walkOut (a now : Int) (A : Option Addr) (n cap : Nat) (w : World) (h : 60 < n) : Calls Try.prog 6 #[.int .u64 a, .int .u64 now, .slice A n cap] w fun e w' => e = .returned (.bool true) ∧ Below w.heap.size w w' := by
  have t2 : decide ((60 : Int) < (n : Int)) = true := by simp; omega
  have t2' : decide (60 < n) = true := by simp; omega
  go_enter Try.func6, Try.ntmps6
  go_wp2_with fail
  refine (known_any w).mono ?_
  rintro e w0 ⟨rfl, hb0⟩
  go_wp2
  go_ret
  exact ⟨rfl, hb0⟩

/-! ### the walk -/
theorem walk (a0 : Int) (a1 : Int) (a2 : Option Addr) (len2 cap2 : Nat) (z2 : List Int) (w : World) (w0 : (Lit.int .u64 a0).wf = true) (w1 : (Lit.int .u64 a1).wf = true) (w2 : IsRow .u64 w a2 len2 cap2 z2) :
    Calls Try.prog 6 #[.int .u64 a0, .int .u64 a1, .slice a2 len2 cap2] w fun e w' => e = .returned (.bool true) ∧ Below w.heap.size w w' := by
  obtain ⟨hl, q, hA⟩ := inp_of w2
  by_cases h : 60 < len2
  · exact walkOut a0 a1 a2 len2 cap2 w h
  · exact walkIn a0 a1 a2 len2 cap2 q w hA (by omega)

/-! ### THE ROW's STEP: WRITTEN OUT: LEAVE IT -/
set_option maxRecDepth 100000 in
theorem lifted (os : Os) (started : os.Started) (H : Type) (enc : TypeId × Value → H) :
    ReturnsInHanded {} Try.checked os 6 .any (Rows.timerLeftSpec.pre6 enc Try.prog Try.f6 Rows.timerLeftRow.domain false) (Rows.timerLeftSpec.post enc Try.prog Try.f6 false true false false) := by
  refine returnsInHanded_of_change (C := Try.checked) own started (by kernel_rfl) Try.func6
    (ChangeSpec.witness6 (enc := enc) (C := Try.checked) false ⟨#[], #[.int .u64 0, .int .u64 0, .slice none 0 0], []⟩ 8 (by kernel_rfl) (by kernel_rfl) (by kernel_rfl) (by kernel_rfl)) ?_
  intro W base args ds gs before hval0 hW hcnd _
  have hval : ∀ (j : Nat) t v, Try.f6.params[j]? = some t → args[j]? = some v → Value.okWide Try.prog W .any base t v := hval0
  have hW' := hW
  obtain ⟨p, q, hA0, hV, rfl, hfz, hnd⟩ := hW
  have hA : DataW.TrodAll enc Try.prog W 0 (fun _ => true) true Try.f6.params.toList args.toList ds p := hA0
  rw [Try.params6] at hA hval
  obtain ⟨v0, vs0, d0, ds0, p0, q0, hargs, rfl, rfl, h0, r0⟩ := trodAll_cons hA
  obtain ⟨v1, vs1, d1, ds1, p1, q1, rfl, rfl, rfl, h1, r1⟩ := trodAll_cons r0
  obtain ⟨v2, vs2, d2, ds2, p2, q2, rfl, rfl, rfl, h2, r2⟩ := trodAll_cons r1
  obtain ⟨rfl, rfl, rfl⟩ := trodAll_nil r2
  obtain rfl : args = #[v0, v1, v2] := by cases args; simp_all
  obtain ⟨rfl, rfl⟩ := trodVars_none hV
  obtain ⟨a0, rfl, rfl, rfl, w0⟩ := open_int Try.underlying23 (hval 0 23 v0 rfl rfl) h0
  obtain ⟨a1, rfl, rfl, rfl, w1⟩ := open_int Try.underlying23 (hval 1 23 v1 rfl rfl) h1
  obtain ⟨a2, len2, cap2, rfl⟩ := okWide_slice Try.underlying51 (hval 2 51 v2 rfl rfl)
  have k2 := h2
  have lt2 : ∀ x ∈ p2, x.block < W.heap.size := by obtain ⟨m, hm⟩ := k2; exact DataW.trod_lt m _ _ _ hm
  obtain ⟨z2, w2⟩ : ∃ zs, IsRow .u64 W a2 len2 cap2 zs := by
    obtain ⟨fuel, hf⟩ := h2
    rcases open_ints Try.underlying51 Try.underlying23 (by kernel_rfl) hf with ⟨hcs, _⟩ | ⟨x, l, c, zs, hcs, _, hl, hm, hz, _, hcell, hwz⟩
    · simp [Value.cells] at hcs
      obtain ⟨rfl, rfl, rfl⟩ := hcs
      exact ⟨[], .inl ⟨rfl, rfl, rfl, rfl⟩⟩
    · simp [Value.cells] at hcs
      obtain ⟨rfl, rfl, rfl⟩ := hcs
      exact ⟨zs, .inr ⟨_, rfl, hl, hm, by simpa using hz, hcell, hwz⟩⟩
  clear hA0 hval0
  refine (walk a0 a1 a2 len2 cap2 z2 W w0 w1 w2).mono fun e W' ⟨he, bel⟩ => ?_
  subst he
  exact ⟨_, rfl, _, _, _, [], _, [], hW', trodAll_mk1 (shut_bool Try.underlying4 _), (trodAll_cons_mk (shut_int Try.underlying23 w0) (trodAll_cons_mk (shut_int Try.underlying23 w1) (trodAll_cons_mk (Below.trod laidOut (by kernel_rfl) (of_decide_eq_true (by kernel_rfl)) k2 bel lt2) trodAll_mk0))), rfl, bel.frame _, fun h => by cases h⟩

theorem over : Rows.timerLeftRow.holds Try.pinned (OpenSpec.ofChange Rows.timerLeftSpec) :=
  OpenClaim.holds_of_wide 6 Try.f6 rfl rfl rfl rfl rfl rfl rfl ⟨rfl, rfl, rfl, rfl, rfl⟩ rfl rfl rfl rfl rfl (by kernel_rfl) Try.func6 (by kernel_rfl)
    (of_decide_eq_true (by kernel_rfl)) (by unfold Func.isWrapper; first | (rw [if_pos (by decide +kernel)]; kernel_rfl) | (rw [if_neg (by decide +kernel)]; exact ⟨rfl, rfl⟩))
    (fun os started H enc _ => lifted os started H enc)

/-- ████ THE STATEMENT ████ -/
theorem proved : Rows.TimerLeftSaid := over
#print axioms proved
end Go.Proofs.Ytbaljeehbcjdoaa.timerLeft
namespace Go.Proofs.Ytbaljeehbcjdoaa
theorem timerLeft_holds : Rows.TimerLeftSaid := timerLeft.proved
end Go.Proofs.Ytbaljeehbcjdoaa
