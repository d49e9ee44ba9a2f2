/-
  PROVED: the Go function detentlaw4.OrderSorts returns true for every input, and each argument reads behind the call as it read before (Rows.OrderSortsSaid). No condition.
-/
import Derived.Test.YtklchhbkeoaloaaRows
import Derived.Test.YtklchhbkeoaloaaConL
import Derived.WalkKit
import Derived.ProofKit
import Derived.OpenShut
import Derived.ShutString
import Derived.ChangeOld
import Derived.Below
namespace Go.Proofs.Ytklchhbkeoaloaa.orderSorts
open Go.ChangeShapes Go.WideShapes Go.ChangeAt Go.RowKit
open Go.ChangeMaps (open_string shut_string)
set_option linter.unusedVariables false

theorem own : ownKnob Try.prog.godebug = none := by kernel_rfl
theorem laidOut : laidOutB Try.prog = true := by kernel_rfl

/-- WHAT THE WALK IS TOLD OF A SLICE OF INTEGERS THAT CAME IN: it is nil; or it leads to a row of 'cap' cells, the numbers 'zs' (the first 'len' are its elements, the rest its spare room), each fitting its kind. -/
def IsRow (k : IntKind) (w : World) (a : Option Addr) (len cap : Nat) (zs : List Int) : Prop :=
  (a = none ∧ len = 0 ∧ cap = 0 ∧ zs = []) ∨
  ∃ x, a = some x ∧ len ≤ cap ∧ cap ≤ maxLen ∧ zs.length = cap ∧ (∀ i, i < zs.length → w.cell? (x.add i) = some (.int k (zs.getD i 0))) ∧ ∀ n ∈ zs, (Lit.int k n).wf = true

def Post (w : World) (e : Ending) (w' : World) : Prop := e = .returned (.bool true) ∧ Below w.heap.size w w'

/-- the priorities -/
def pr (q : Nat → Nat) (j : Nat) : Int := ((1 + q j % 16 : Nat) : Int)
theorem pr_in (q : Nat → Nat) (j : Nat) : 1 ≤ pr q j ∧ pr q j ≤ 16 := by unfold pr; omega

def FillRel (p n : Nat) (q : Nat → Nat) (w : World) (i : Value) (wr : World) : Prop :=
  ∃ t : Nat, t ≤ n ∧ i = .int .i64 (t : Int) ∧ Ln wr p 42 true (fil true (pr q) t) ∧ Below w.heap.size w wr

def TakeRel (p g n : Nat) (F : List It) (w : World) (i : Value) (wr : World) : Prop :=
  ∃ (t : Nat) (y : It), t ≤ n ∧ i = .int .i64 (t : Int) ∧ Ln wr p 42 true (F.drop t) ∧ ((0, 0) :: F)[t]? = some y ∧ Box wr g 37 (.int .i64 y.1) (.int .i64 y.2) ∧ Below w.heap.size w wr

set_option maxHeartbeats 800000 in
theorem walkOut (A : Option Addr) (n cap : Nat) (w : World) (hn0 : n ≤ 9223372036854775807) (hn : ¬ n ≤ 16) : Calls Try.prog 4 #[.slice A n cap] w (Post w) := by
  have t1 : (16 : Int) < (n : Int) := by omega
  have t2 : 16 < n := by omega
  go_enter Try.func4, Try.ntmps4
  go_wp2_with fail
  refine (known_ok _).mono ?_
  rintro e w0 ⟨rfl, hb0⟩
  go_wp2
  go_ret
  exact ⟨rfl, hb0⟩

set_option maxHeartbeats 3200000 in
theorem walkIn (A : Option Addr) (n cap : Nat) (q : Nat → Nat) (w : World) (hs : Src w A n q) (hn : n ≤ 16) : Calls Try.prog 4 #[.slice A n cap] w (Post w) := by
  have t1 : decide ((16 : Int) < (n : Int)) = false := by simp; omega
  have t2 : decide (16 < n) = false := by simp; omega
  go_enter Try.func4, Try.ntmps4
  go_wp2_with fail
  refine (known_ok _).mono ?_
  rintro e w0 ⟨rfl, hb0⟩
  go_wp2_with fail
  refine (new_ok true w0).mono ?_
  rintro e w1 ⟨p, hp, rfl, hl1, hk1⟩
  have hpw : w.heap.size ≤ p := Nat.le_trans hb0.size hp
  have hb1 := hb0.trans (hk1.mono hb0.size)
  clear hb0 hk1 hp
  go_wp2
  go_loopw [4] (fun i wr => FillRel p n q w i wr) (fun i _ => n - (intOf i).toNat)
  case atStart => exact ⟨0, Nat.zero_le _, rfl, hl1, hb1⟩
  case round =>
    obtain ⟨t, ht, rfl, hl2, hb2⟩ := hrel
    clear hl1 hb1
    by_cases hlt : t < n
    · obtain ⟨b, o, rfl, hbl, hcl⟩ := hs (by omega)
      obtain ⟨hc, hq⟩ := hcl t hlt
      have hct : wr.cell? ⟨b, o + t, none⟩ = _ := (hb2.cell (p := ⟨b, o + t, none⟩) hbl).trans hc
      have HC := Lib.hid hcl
      clear hc hcl
      go_wp2_with fail
      refine (add_fil p true (pr q) (pr_in q) t (by omega) wr hl2 _ _ (by omega) (by unfold pr; omega)).mono ?_
      rintro e w3 ⟨rfl, hl3, ho3⟩
      have hb3 := hb2.trans (ho3.below hb2.size hpw)
      clear hl2 hb2 ho3 hct
      go_wp2
      go_roundw
      case rel => exact ⟨t + 1, by omega, by go_num, hl3, hb3⟩
      case measure => simp [intOf]; omega
    · obtain rfl : t = n := by omega
      have HX := Lib.hid (fil_lex (pr_in q) hn)
      have HG := Lib.hid (fil_good (b := true) (pr_in q) hn)
      have HM := Lib.hid (fun x => @fil_mem true (pr q) t x)
      have HLN := Lib.hid (fil_len true (pr q) t)
      generalize fil true (pr q) t = F at *
      go_wp2
      have hl3 := hl2.alloc (.cells #[.int .i64 0, .int .i64 0] 37)
      have hb3 := hb2.alloc hb2.size (.cells #[.int .i64 0, .int .i64 0] 37)
      have hx3 := box_new wr 37 (.int .i64 0) (.int .i64 0)
      have hgp : wr.heap.size ≠ p := by have := hl2.lt; omega
      have hgw : w.heap.size ≤ wr.heap.size := hb2.size
      generalize wr.alloc (.cells #[.int .i64 0, .int .i64 0] 37) = w3 at *
      generalize wr.heap.size = g at *
      clear hl2 hb2 hlt ht
      go_loopw [6] (fun i wr => TakeRel p g t F w i wr) (fun i _ => t - (intOf i).toNat)
      case atStart => exact ⟨0, (0, 0), Nat.zero_le _, rfl, hl3, rfl, hx3, hb3⟩
      case round =>
        obtain ⟨s, y, hs1, rfl, hl4, hy, hx4, hb4⟩ := hrel
        clear hl3 hx3 hb3
        by_cases hlt : s < t
        · have hxs : s < F.length := by rw [HLN.out]; exact hlt
          have hd : F.drop s = F[s] :: F.drop (s + 1) := List.drop_eq_getElem_cons hxs
          obtain ⟨x, hx⟩ : ∃ x, F[s] = x := ⟨_, rfl⟩
          rw [hx] at hd
          have hxF : F[s]? = some x := by rw [List.getElem?_eq_getElem hxs, hx]
          rw [hd] at hl4
          obtain ⟨j, hj, hxj⟩ := HM.out x (List.mem_of_getElem? hxF)
          have hlex : y.2 < x.2 ∨ (y.2 = x.2 ∧ y.1 < x.1) := by
            cases s with
            | zero =>
              simp at hy; subst hy
              have := (HG.out.rng x (List.mem_of_getElem? hxF)).2.2.1
              exact .inl (by simp only; omega)
            | succ s =>
              simp only [List.getElem?_cons_succ] at hy
              obtain ⟨h1, e1⟩ := List.getElem?_eq_some_iff.1 hy
              have := (List.pairwise_iff_getElem.1 HX.out) s (s + 1) h1 hxs (by omega)
              rwa [e1, hx] at this
          have hlen : (x :: F.drop (s + 1)).length ≤ 16 := by rw [← hd, List.length_drop, HLN.out]; omega
          have HY := Lib.hid hxF
          subst hxj
          have ej : pr q j = 1 + (q j : Int) % 16 := by unfold pr; omega
          have ej1 : ((j + 1 : Nat) : Int) = (j : Int) + 1 := by omega
          simp only [ej, ej1] at hlex
          have HK := Lib.hid (take_some p true _ _ wr hl4 hlen)
          simp only [ej, ej1] at HK
          have ljn : (j : Int) < (t : Int) := by omega
          obtain ⟨b, o, rfl, hbl, hcl⟩ := hs (by omega)
          have hcj := (hcl j hj).1
          have hqj := (hcl j hj).2
          have d1 : decide ((j : Int) + 1 < 1) = false := by simp; omega
          have d2 : decide ((t : Int) < (j : Int) + 1) = false := by simp; omega
          have d4 : decide (1 + (q j : Int) % 16 < y.2) = false := by simp; omega
          have HF := Lib.hid hlex
          clear hxF hx hd hlex hl4 hcl hy
          go_wp2_with fail
          refine HK.out.mono ?_
          rintro e w5 ⟨rfl, hl5, ho5⟩
          have hx5 := hx4.only ho5 hgp
          have hb5 := hb4.trans (ho5.below hb4.size hpw)
          clear hx4 hb4 ho5 HK
          have hl6 := hl5.alloc (.cells #[.int .i64 ((j : Int) + 1), .int .i64 (1 + (q j : Int) % 16)] 37)
          have hb6 := hb5.alloc hb5.size (.cells #[.int .i64 ((j : Int) + 1), .int .i64 (1 + (q j : Int) % 16)] 37)
          have hx6 := hx5.alloc (.cells #[.int .i64 ((j : Int) + 1), .int .i64 (1 + (q j : Int) % 16)] 37)
          have hz6 := box_new w5 37 (.int .i64 ((j : Int) + 1)) (.int .i64 (1 + (q j : Int) % 16))
          have hcj6 := (hb6.cell (p := ⟨b, o + j, none⟩) hbl).trans hcj
          have hrg : w5.heap.size ≠ g := by have := hx5.lt; omega
          go_wp2
          generalize w5.alloc (.cells #[.int .i64 ((j : Int) + 1), .int .i64 (1 + (q j : Int) % 16)] 37) = w6 at *
          generalize w5.heap.size = r at *
          clear hl5 hb5 hx5 hcj
          have z0 := hz6.c0
          have z1 := hz6.c1
          have y0 := hx6.c0
          have y1 := hx6.c1
          have HN : Hid (((0, 0) :: F)[s + 1]? = some (((j + 1 : Nat) : Int), pr q j)) := by rw [List.getElem?_cons_succ]; exact HY.out
          have HE := Lib.hid (show (((j + 1 : Nat) : Int), pr q j) = ((j : Int) + 1, 1 + (q j : Int) % 16) by rw [ej, ej1])
          clear HY ej ej1
          by_cases he : 1 + (q j : Int) % 16 = y.2
          · have d5 : (1 + (q j : Int) % 16 == y.2) = true := by simpa using he
            have d6 : decide ((j : Int) + 1 < y.1) = false := by have := HF.out; simp; omega
            clear he
            go_quiet (fail)
            have hw0 : Box (w6.drewN nq) g 37 (.int .i64 y.1) (.int .i64 y.2) := hx6
            have hw1 : Box (w6.drewN nq) r 37 _ _ := hz6
            have hw2 : Ln (w6.drewN nq) p 42 true _ := hl6
            have hw3 : Below w.heap.size w (w6.drewN nq) := ⟨hb6.os, hb6.tape, hb6.output, hb6.size, hb6.block⟩
            generalize w6.drewN nq = w7 at *
            clear hx6 hz6 hl6 hb6 z0 z1 y0 y1 hcj6 d4 d5 d6
            have z0 := hw1.c0
            have z1 := hw1.c1
            have y0 := hw0.c0
            have f0 := hw0.fz 0
            have hx8 := hw0.set0 (.int .i64 ((j : Int) + 1))
            have y1 := hx8.c1
            have f1 := hx8.fz 1
            have hx9 := Lib.hid (hx8.set1 (.int .i64 (1 + (q j : Int) % 16)))
            have hb9 := Lib.hid ((hw3.setCell (p := ⟨g, 0, none⟩) hgw (.int .i64 ((j : Int) + 1))).setCell (p := ⟨g, 1, none⟩) hgw (.int .i64 (1 + (q j : Int) % 16)))
            have hl9 := Lib.hid (hw2.keep (w' := (w7.setCell ⟨g, 0, none⟩ (.int .i64 ((j : Int) + 1))).setCell ⟨g, 1, none⟩ (.int .i64 (1 + (q j : Int) % 16))) ((Below.heap_setCell _ _ _ _ (Ne.symm hgp)).trans (Below.heap_setCell _ _ _ _ (Ne.symm hgp))))
            clear hw0 hw1 hw2 hw3 hx8
            go_wp2
            go_roundw
            case rel => exact ⟨s + 1, _, by omega, by go_num, hl9.out, HN.out, by rw [HE.out]; exact hx9.out, hb9.out⟩
            case measure => simp [intOf]; omega
          · have d5 : (1 + (q j : Int) % 16 == y.2) = false := by simpa using he
            clear he
            go_quiet (fail)
            have hw0 : Box (w6.drewN nq) g 37 (.int .i64 y.1) (.int .i64 y.2) := hx6
            have hw1 : Box (w6.drewN nq) r 37 _ _ := hz6
            have hw2 : Ln (w6.drewN nq) p 42 true _ := hl6
            have hw3 : Below w.heap.size w (w6.drewN nq) := ⟨hb6.os, hb6.tape, hb6.output, hb6.size, hb6.block⟩
            generalize w6.drewN nq = w7 at *
            clear hx6 hz6 hl6 hb6 z0 z1 y0 y1 hcj6 d4 d5
            have z0 := hw1.c0
            have z1 := hw1.c1
            have y0 := hw0.c0
            have f0 := hw0.fz 0
            have hx8 := hw0.set0 (.int .i64 ((j : Int) + 1))
            have y1 := hx8.c1
            have f1 := hx8.fz 1
            have hx9 := Lib.hid (hx8.set1 (.int .i64 (1 + (q j : Int) % 16)))
            have hb9 := Lib.hid ((hw3.setCell (p := ⟨g, 0, none⟩) hgw (.int .i64 ((j : Int) + 1))).setCell (p := ⟨g, 1, none⟩) hgw (.int .i64 (1 + (q j : Int) % 16)))
            have hl9 := Lib.hid (hw2.keep (w' := (w7.setCell ⟨g, 0, none⟩ (.int .i64 ((j : Int) + 1))).setCell ⟨g, 1, none⟩ (.int .i64 (1 + (q j : Int) % 16))) ((Below.heap_setCell _ _ _ _ (Ne.symm hgp)).trans (Below.heap_setCell _ _ _ _ (Ne.symm hgp))))
            clear hw0 hw1 hw2 hw3 hx8
            go_wp2
            go_roundw
            case rel => exact ⟨s + 1, _, by omega, by go_num, hl9.out, HN.out, by rw [HE.out]; exact hx9.out, hb9.out⟩
            case measure => simp [intOf]; omega
        · have hnil : F.drop s = [] := List.drop_eq_nil_of_le (by rw [HLN.out]; omega)
          rw [hnil] at hl4
          clear hx4 hy hnil
          go_wp2_with fail
          refine (take_none p true wr hl4).mono ?_
          rintro e w5 ⟨rfl, hk5⟩
          have hb5 := hb4.trans (hk5.mono hb4.size)
          go_wp2
          go_ret
          exact ⟨rfl, hb5.alloc hb5.size _⟩


/-! ### the walk -/
theorem walk (a0 : Option Addr) (len0 cap0 : Nat) (z0 : List Int) (w : World) (w0 : IsRow .u8 w a0 len0 cap0 z0) :
    Calls Try.prog 4 #[.slice a0 len0 cap0] w fun e w' => e = .returned (.bool true) ∧ Below w.heap.size w w' := by
  obtain ⟨h1, q, h2⟩ := src_of w0
  by_cases h : len0 ≤ 16
  · exact walkIn a0 len0 cap0 q w h2 h
  · exact walkOut a0 len0 cap0 w h1 h

/-! ### THE ROW's STEP: WRITTEN OUT: LEAVE IT -/
set_option maxRecDepth 100000 in
theorem lifted (os : Os) (started : os.Started) (H : Type) (enc : TypeId × Value → H) :
    ReturnsInHanded {} Try.checked os 4 .any (Rows.orderSortsSpec.pre6 enc Try.prog Try.f4 Rows.orderSortsRow.domain false) (Rows.orderSortsSpec.post enc Try.prog Try.f4 false true false false) := by
  refine returnsInHanded_of_change (C := Try.checked) own started (by kernel_rfl) Try.func4
    (ChangeSpec.witness6 (enc := enc) (C := Try.checked) false ⟨#[], #[.slice none 0 0], []⟩ 8 (by kernel_rfl) (by kernel_rfl) (by kernel_rfl) (by kernel_rfl)) ?_
  intro W base args ds gs before hval0 hW hcnd _
  have hval : ∀ (j : Nat) t v, Try.f4.params[j]? = some t → args[j]? = some v → Value.okWide Try.prog W .any base t v := hval0
  have hW' := hW
  obtain ⟨p, q, hA0, hV, rfl, hfz, hnd⟩ := hW
  have hA : DataW.TrodAll enc Try.prog W 0 (fun _ => true) true Try.f4.params.toList args.toList ds p := hA0
  rw [Try.params4] at hA hval
  obtain ⟨v0, vs0, d0, ds0, p0, q0, hargs, rfl, rfl, h0, r0⟩ := trodAll_cons hA
  obtain ⟨rfl, rfl, rfl⟩ := trodAll_nil r0
  obtain rfl : args = #[v0] := by cases args; simp_all
  obtain ⟨rfl, rfl⟩ := trodVars_none hV
  obtain ⟨a0, len0, cap0, rfl⟩ := okWide_slice Try.underlying53 (hval 0 53 v0 rfl rfl)
  have k0 := h0
  have lt0 : ∀ x ∈ p0, x.block < W.heap.size := by obtain ⟨m, hm⟩ := k0; exact DataW.trod_lt m _ _ _ hm
  obtain ⟨z0, w0⟩ : ∃ zs, IsRow .u8 W a0 len0 cap0 zs := by
    obtain ⟨fuel, hf⟩ := h0
    rcases open_ints Try.underlying53 Try.underlying5 (by kernel_rfl) hf with ⟨hcs, _⟩ | ⟨x, l, c, zs, hcs, _, hl, hm, hz, _, hcell, hwz⟩
    · simp [Value.cells] at hcs
      obtain ⟨rfl, rfl, rfl⟩ := hcs
      exact ⟨[], .inl ⟨rfl, rfl, rfl, rfl⟩⟩
    · simp [Value.cells] at hcs
      obtain ⟨rfl, rfl, rfl⟩ := hcs
      exact ⟨zs, .inr ⟨_, rfl, hl, hm, by simpa using hz, hcell, hwz⟩⟩
  clear hA0 hval0
  refine (walk a0 len0 cap0 z0 W w0).mono fun e W' ⟨he, bel⟩ => ?_
  subst he
  exact ⟨_, rfl, _, _, _, [], _, [], hW', trodAll_mk1 (shut_bool Try.underlying4 _), (trodAll_cons_mk (Below.trod laidOut (by kernel_rfl) (of_decide_eq_true (by kernel_rfl)) k0 bel lt0) trodAll_mk0), rfl, bel.frame _, fun h => by cases h⟩

theorem over : Rows.orderSortsRow.holds Try.pinned (OpenSpec.ofChange Rows.orderSortsSpec) :=
  OpenClaim.holds_of_wide 4 Try.f4 rfl rfl rfl rfl rfl rfl rfl ⟨rfl, rfl, rfl, rfl, rfl⟩ rfl rfl rfl rfl rfl (by kernel_rfl) Try.func4 (by kernel_rfl)
    (of_decide_eq_true (by kernel_rfl)) (by unfold Func.isWrapper; first | (rw [if_pos (by decide +kernel)]; kernel_rfl) | (rw [if_neg (by decide +kernel)]; exact ⟨rfl, rfl⟩))
    (fun os started H enc _ => lifted os started H enc)

/-- ████ THE STATEMENT ████ -/
theorem proved : Rows.OrderSortsSaid := over
#print axioms proved
end Go.Proofs.Ytklchhbkeoaloaa.orderSorts
namespace Go.Proofs.Ytklchhbkeoaloaa
theorem orderSorts_holds : Rows.OrderSortsSaid := orderSorts.proved
end Go.Proofs.Ytklchhbkeoaloaa
