/-
  PROVED: the Go function detentlaw7.TimerNext returns true for every input, and each argument reads behind the call as it read before (Rows.TimerNextSaid). No condition.
-/
import Derived.Test.YtbaljeehbcjdoaaRows
import Derived.Test.YtbaljeehbcjdoaaConM
import Derived.WalkKit
import Derived.ProofKit
import Derived.OpenShut
import Derived.ShutString
import Derived.ChangeOld
import Derived.Below
namespace Go.Proofs.Ytbaljeehbcjdoaa.timerNext
open Go.ChangeShapes Go.WideShapes Go.ChangeAt Go.RowKit
open Go.ChangeMaps (open_string shut_string)
set_option linter.unusedVariables false

theorem own : ownKnob Try.prog.godebug = none := by kernel_rfl
theorem laidOut : laidOutB Try.prog = true := by kernel_rfl

/-- WHAT THE WALK IS TOLD OF A SLICE OF INTEGERS THAT CAME IN: it is nil; or it leads to a row of 'cap' cells, the numbers 'zs' (the first 'len' are its elements, the rest its spare room), each fitting its kind. -/
def IsRow (k : IntKind) (w : World) (a : Option Addr) (len cap : Nat) (zs : List Int) : Prop :=
  (a = none ∧ len = 0 ∧ cap = 0 ∧ zs = []) ∨
  ∃ x, a = some x ∧ len ≤ cap ∧ cap ≤ maxLen ∧ zs.length = cap ∧ (∀ i, i < zs.length → w.cell? (x.add i) = some (.int k (zs.getD i 0))) ∧ ∀ n ∈ zs, (Lit.int k n).wf = true

/-- what the first loop knows: the least time m of t numbers, how many have it -/
structure Lst (q : Nat → Int) (t : Nat) (m : Int) (c : Nat) : Prop where
  le : ∀ i, i < t → m ≤ q i
  ex : (t = 0 → m = q 0) ∧ (0 < t → ∃ i, i < t ∧ q i = m)
  cnt : c = cnt (fil q t) m
theorem Lst.start {q : Nat → Int} : Lst q 0 (q 0) 0 := ⟨fun i hi => by omega, ⟨fun _ => rfl, fun h => by omega⟩, rfl⟩
theorem Lst.less {q : Nat → Int} {t : Nat} {m : Int} {c : Nat} (h : Lst q t m c) (hl : q t < m) : Lst q (t + 1) (q t) 1 := by
  refine ⟨fun i hi => ?_, ⟨fun h => by omega, fun _ => ⟨t, by omega, rfl⟩⟩, ?_⟩
  · by_cases e : i = t
    · subst e; exact Int.le_refl _
    · have := h.le i (by omega); omega
  · unfold fil
    rw [cnt_ins, if_pos rfl, cnt_zero fun x hx => ?_]
    obtain ⟨i, hi, rfl⟩ := (fil_mem q t x).1 hx
    have := h.le i hi
    show q i ≠ q t
    omega
theorem Lst.same {q : Nat → Int} {t : Nat} {m : Int} {c : Nat} (h : Lst q t m c) (hl : q t = m) : Lst q (t + 1) m (c + 1) := by
  refine ⟨fun i hi => ?_, ⟨fun h => by omega, fun _ => ⟨t, by omega, hl⟩⟩, ?_⟩
  · by_cases e : i = t
    · subst e; omega
    · exact h.le i (by omega)
  · unfold fil
    rw [cnt_ins, if_pos hl, h.cnt]
theorem Lst.more {q : Nat → Int} {t : Nat} {m : Int} {c : Nat} (h : Lst q t m c) (hl : m < q t) : Lst q (t + 1) m c := by
  refine ⟨fun i hi => ?_, ⟨fun h => by omega, fun _ => ?_⟩, ?_⟩
  · by_cases e : i = t
    · subst e; omega
    · exact h.le i (by omega)
  · by_cases c : t = 0
    · have := h.ex.1 c; subst c; omega
    · obtain ⟨i, h1, h2⟩ := h.ex.2 (by omega)
      exact ⟨i, by omega, h2⟩
  · unfold fil
    rw [cnt_ins, if_neg (by show q t ≠ m; omega), h.cnt]; rfl

set_option maxHeartbeats 3200000 in
theorem walkIn (A : Option Addr) (n cap : Nat) (q : Nat → Int) (w : World) (hA : Inp .u64 w A n q) (h0 : 0 < n) (hn : n ≤ 100) :
    Calls Try.prog 8 #[.slice A n cap] w fun e w' => e = .returned (.bool true) ∧ Below w.heap.size w w' := by
  obtain ⟨b, o, rfl, hb, hc⟩ := hA h0
  have HC := Lib.hid hc
  have t1 : ((n : Int) == 0) = false := by simp; omega
  have t1' : (n == 0) = false := by simp; omega
  have t2 : decide ((100 : Int) < (n : Int)) = false := by simp; omega
  have t2' : decide (100 < n) = false := by simp; omega
  clear hA hc
  go_enter Try.func8, Try.ntmps8
  go_wp2_with fail
  refine (known_any w).mono ?_
  rintro e w0 ⟨rfl, hb0⟩
  go_wp2_with fail
  refine (new_then w w0 hb0).mono ?_
  rintro e w1 ⟨p, rfl, ht, hb1⟩
  have HT := Lib.hid ht
  have HB := Lib.hid hb1
  have i0 : (0 : Int) < (n : Int) := by omega
  have d0 := (hb1.cell (p := ⟨b, o, none⟩) hb).trans ((HC.out 0 h0).1)
  obtain ⟨q0, hq0⟩ : ∃ q0, q 0 = q0 := ⟨_, rfl⟩
  rw [hq0] at d0
  have HQ0 := Lib.hid hq0
  clear ht hb1 hb0 t1 t1' t2 t2' hq0
  go_wp2
  go_loopw [4, 5, 6] (fun l cc i wr => ∃ (t g c : Nat) (m : Int), t ≤ n ∧ i = .int .i64 (t : Int) ∧ l = .int .u64 m ∧ cc = .int .i64 (c : Int) ∧ c ≤ t ∧ Hid (Lst q t m c) ∧ Hid (Tm wr w.heap.size p g (fil q t) (t : Int)) ∧ Below w.heap.size w wr) (fun _ _ i _ => n - (intOf i).toNat)
  case atStart => exact ⟨0, p, 0, q0, by omega, rfl, rfl, rfl, Nat.le_refl _, by rw [← HQ0.out]; exact Lst.start, HT.out, HB.out⟩
  case round =>
    obtain ⟨t, g, c, m, ht, rfl, rfl, rfl, hct, hL, hT, hw⟩ := hrel
    clear HT HB d0
    by_cases hlt : t < n
    · have i1 : (t : Int) < (n : Int) := by omega
      have d1 := (hw.cell (p := ⟨b, o + t, none⟩) hb).trans ((HC.out t hlt).1)
      obtain ⟨x, hx⟩ : ∃ x, q t = x := ⟨_, rfl⟩
      rw [hx] at d1
      have HX := Lib.hid hx
      have hS : ins (x, (t : Int) + 1, (t : Int)) (fil q t) = fil q (t + 1) := by rw [← hx]; rfl
      have HI := Lib.hid (insert_at wr w.heap.size p g _ _ hT.out (by rw [fil_len]; omega) (by omega) x (t : Int) ((t : Int) + 1) rfl _ hS)
      clear hx hS
      go_wp2_with fail
      refine HI.out.mono ?_
      rintro e w2 ⟨rfl, ⟨g2, h2⟩, hb2⟩
      have d2 := (hb2.cell (p := ⟨b, o + t, none⟩) hb).trans d1
      have HT2 := Lib.hid h2
      have HW2 := Lib.hid (hw.trans hb2)
      clear h2 hb2 HI d1
      by_cases c1 : x < m
      · have j1 : decide (x < m) = true := by simpa using c1
        have HL2 := Lib.hid (hL.out.less (by rw [HX.out]; exact c1))
        rw [HX.out] at HL2
        clear c1
        go_wp2
        go_roundw
        case rel => exact ⟨t + 1, g2, 1, x, by omega, by go_num, rfl, rfl, by omega, HL2.out, HT2.out, HW2.out⟩
        case measure => simp [intOf]; omega
      · have j1 : decide (x < m) = false := by simpa using c1
        by_cases c2 : x = m
        · have j2 : (x == m) = true := by simpa using c2
          have HL2 := Lib.hid (hL.out.same (by rw [HX.out]; exact c2))
          clear c1 c2
          go_wp2
          go_roundw
          case rel => exact ⟨t + 1, g2, c + 1, m, by omega, by go_num, rfl, by go_num, by omega, HL2.out, HT2.out, HW2.out⟩
          case measure => simp [intOf]; omega
        · have j2 : (x == m) = false := by simpa using c2
          have HL2 := Lib.hid (hL.out.more (by rw [HX.out]; omega))
          clear c1 c2
          go_wp2
          go_roundw
          case rel => exact ⟨t + 1, g2, c, m, by omega, by go_num, rfl, rfl, by omega, HL2.out, HT2.out, HW2.out⟩
          case measure => simp [intOf]; omega
    · have i1 : decide ((t : Int) < (n : Int)) = false := by simp; omega
      have etn : t = n := by omega
      rw [etn] at hL hT
      have hG := hT.out.good
      have hmem : ∀ x, x ∈ fil q n → m ≤ x.1 := fun x hx => by
        obtain ⟨i, hi, rfl⟩ := (fil_mem q n x).1 hx
        exact hL.out.le i hi
      obtain ⟨i, hi1, hi2⟩ := hL.out.ex.2 h0
      have hhead := head_time hG.srt hmem ⟨(q i, (i : Int) + 1, (i : Int)), (fil_mem q n _).2 ⟨i, hi1, rfl⟩, hi2⟩
      have hdue : (due (fil q n) m).length = c := by rw [due_cnt hG.srt hmem]; exact hL.out.cnt.symm
      have hm0 : 0 ≤ m ∧ m ≤ 18446744073709551615 := by have := bounds_u64 (HC.out i hi1).2; omega
      have hrl : (rst (fil q n) m).length = n - c := by have := due_len (fil q n) m; rw [hdue, fil_len] at this; omega
      have HD := Lib.hid hdue
      have HRL := Lib.hid hrl
      have HM := Lib.hid hmem
      have HH := Lib.hid hhead
      have hcn : c ≤ n := by omega
      have j9 : ((n - c : Nat) : Int) = (n : Int) - (c : Int) := by omega
      clear hdue hmem hG hi1 hi2 hhead hrl
      go_wp2_with fail
      refine (next_at _ w.heap.size p g _ _ hT.out m HH.out).mono ?_
      rintro e w3 ⟨rfl, rfl⟩
      by_cases hm : 0 < m
      · have k1 : decide (0 < m) = true := by simpa using hm
        have k2 : IntKind.u64.wrap (m - 1) = m - 1 := IntWalk.u64_in _ (by omega)
        have hno := due_no (S := fil q n) (now := m - 1) (fun x hx => by have := HM.out x hx; omega)
        have HE := Lib.hid (due_at _ w.heap.size p g _ _ hT.out (m - 1) 0 [] _ hno.1 rfl hno.2)
        clear hno
        go_wp2_with fail
        refine HE.out.mono ?_
        rintro e w4 ⟨X, k, rfl, _, ht4, hb4⟩
        have HE2 := Lib.hid (due_at _ w.heap.size p g _ _ ht4 m c _ _ rfl HD.out rfl)
        have HW4 := Lib.hid (hw.trans hb4)
        clear ht4 hb4 HE
        go_wp2_with fail
        refine HE2.out.mono ?_
        rintro e w5 ⟨X5, k5, rfl, _, ht5, hb5⟩
        have HE3 := Lib.hid (len_any _ w.heap.size p g _ _ ht5 (n - c) HRL.out)
        clear ht5 HE2
        go_wp2_with fail
        refine HE3.out.mono ?_
        rintro e w6 ⟨rfl, rfl⟩
        clear HE3
        go_wp2
        go_ret
        exact ⟨by first | rfl | simp, HW4.out.trans hb5⟩
      · have k1 : decide (0 < m) = false := by simpa using hm
        have HE2 := Lib.hid (due_at _ w.heap.size p g _ _ hT.out m c _ _ rfl HD.out rfl)
        go_wp2_with fail
        refine HE2.out.mono ?_
        rintro e w5 ⟨X5, k5, rfl, _, ht5, hb5⟩
        have HE3 := Lib.hid (len_any _ w.heap.size p g _ _ ht5 (n - c) HRL.out)
        clear ht5 HE2
        go_wp2_with fail
        refine HE3.out.mono ?_
        rintro e w6 ⟨rfl, rfl⟩
        clear HE3
        go_wp2
        go_ret
        exact ⟨by first | rfl | simp, hw.trans hb5⟩
theorem walkOut (A : Option Addr) (n cap : Nat) (w : World) (h : n = 0 ∨ 100 < n) : Calls Try.prog 8 #[.slice A n cap] w fun e w' => e = .returned (.bool true) ∧ Below w.heap.size w w' := by
  by_cases h1 : n = 0
  · subst h1
    go_enter Try.func8, Try.ntmps8
    go_wp2_with fail
    refine (known_any w).mono ?_
    rintro e w0 ⟨rfl, hb0⟩
    go_wp2
    go_ret
    exact ⟨rfl, hb0⟩
  · have t1 : ((n : Int) == 0) = false := by simp; omega
    have t1' : (n == 0) = false := by simp; omega
    have t2 : decide ((100 : Int) < (n : Int)) = true := by simp; omega
    have t2' : decide (100 < n) = true := by simp; omega
    go_enter Try.func8, Try.ntmps8
    go_wp2_with fail
    refine (known_any w).mono ?_
    rintro e w0 ⟨rfl, hb0⟩
    go_wp2
    go_ret
    exact ⟨rfl, hb0⟩

/-! ### the walk -/
theorem walk (a0 : Option Addr) (len0 cap0 : Nat) (z0 : List Int) (w : World) (w0 : IsRow .u64 w a0 len0 cap0 z0) :
    Calls Try.prog 8 #[.slice a0 len0 cap0] w fun e w' => e = .returned (.bool true) ∧ Below w.heap.size w w' := by
  obtain ⟨hl, q, hA⟩ := inp_of w0
  by_cases h : len0 = 0 ∨ 100 < len0
  · exact walkOut a0 len0 cap0 w h
  · exact walkIn a0 len0 cap0 q w hA (by omega) (by omega)

/-! ### THE ROW's STEP: WRITTEN OUT: LEAVE IT -/
set_option maxRecDepth 100000 in
theorem lifted (os : Os) (started : os.Started) (H : Type) (enc : TypeId × Value → H) :
    ReturnsInHanded {} Try.checked os 8 .any (Rows.timerNextSpec.pre6 enc Try.prog Try.f8 Rows.timerNextRow.domain false) (Rows.timerNextSpec.post enc Try.prog Try.f8 false true false false) := by
  refine returnsInHanded_of_change (C := Try.checked) own started (by kernel_rfl) Try.func8
    (ChangeSpec.witness6 (enc := enc) (C := Try.checked) false ⟨#[], #[.slice none 0 0], []⟩ 8 (by kernel_rfl) (by kernel_rfl) (by kernel_rfl) (by kernel_rfl)) ?_
  intro W base args ds gs before hval0 hW hcnd _
  have hval : ∀ (j : Nat) t v, Try.f8.params[j]? = some t → args[j]? = some v → Value.okWide Try.prog W .any base t v := hval0
  have hW' := hW
  obtain ⟨p, q, hA0, hV, rfl, hfz, hnd⟩ := hW
  have hA : DataW.TrodAll enc Try.prog W 0 (fun _ => true) true Try.f8.params.toList args.toList ds p := hA0
  rw [Try.params8] at hA hval
  obtain ⟨v0, vs0, d0, ds0, p0, q0, hargs, rfl, rfl, h0, r0⟩ := trodAll_cons hA
  obtain ⟨rfl, rfl, rfl⟩ := trodAll_nil r0
  obtain rfl : args = #[v0] := by cases args; simp_all
  obtain ⟨rfl, rfl⟩ := trodVars_none hV
  obtain ⟨a0, len0, cap0, rfl⟩ := okWide_slice Try.underlying51 (hval 0 51 v0 rfl rfl)
  have k0 := h0
  have lt0 : ∀ x ∈ p0, x.block < W.heap.size := by obtain ⟨m, hm⟩ := k0; exact DataW.trod_lt m _ _ _ hm
  obtain ⟨z0, w0⟩ : ∃ zs, IsRow .u64 W a0 len0 cap0 zs := by
    obtain ⟨fuel, hf⟩ := h0
    rcases open_ints Try.underlying51 Try.underlying23 (by kernel_rfl) hf with ⟨hcs, _⟩ | ⟨x, l, c, zs, hcs, _, hl, hm, hz, _, hcell, hwz⟩
    · simp [Value.cells] at hcs
      obtain ⟨rfl, rfl, rfl⟩ := hcs
      exact ⟨[], .inl ⟨rfl, rfl, rfl, rfl⟩⟩
    · simp [Value.cells] at hcs
      obtain ⟨rfl, rfl, rfl⟩ := hcs
      exact ⟨zs, .inr ⟨_, rfl, hl, hm, by simpa using hz, hcell, hwz⟩⟩
  clear hA0 hval0
  refine (walk a0 len0 cap0 z0 W w0).mono fun e W' ⟨he, bel⟩ => ?_
  subst he
  exact ⟨_, rfl, _, _, _, [], _, [], hW', trodAll_mk1 (shut_bool Try.underlying4 _), (trodAll_cons_mk (Below.trod laidOut (by kernel_rfl) (of_decide_eq_true (by kernel_rfl)) k0 bel lt0) trodAll_mk0), rfl, bel.frame _, fun h => by cases h⟩

theorem over : Rows.timerNextRow.holds Try.pinned (OpenSpec.ofChange Rows.timerNextSpec) :=
  OpenClaim.holds_of_wide 8 Try.f8 rfl rfl rfl rfl rfl rfl rfl ⟨rfl, rfl, rfl, rfl, rfl⟩ rfl rfl rfl rfl rfl (by kernel_rfl) Try.func8 (by kernel_rfl)
    (of_decide_eq_true (by kernel_rfl)) (by unfold Func.isWrapper; first | (rw [if_pos (by decide +kernel)]; kernel_rfl) | (rw [if_neg (by decide +kernel)]; exact ⟨rfl, rfl⟩))
    (fun os started H enc _ => lifted os started H enc)

/-- ████ THE STATEMENT ████ -/
theorem proved : Rows.TimerNextSaid := over
#print axioms proved
end Go.Proofs.Ytbaljeehbcjdoaa.timerNext
namespace Go.Proofs.Ytbaljeehbcjdoaa
theorem timerNext_holds : Rows.TimerNextSaid := timerNext.proved
end Go.Proofs.Ytbaljeehbcjdoaa
