/-
  PROVED: the Go function detentlaw15.MutexPasses returns true for every input, and each argument reads behind the call as it read before (Rows.MutexPassesSaid). No condition.
-/
import Derived.Test.YtmicinenggkmlaaRows
import Derived.Test.YtmicinenggkmlaaMtT
import Derived.WalkKit
import Derived.ProofKit
import Derived.OpenShut
import Derived.ShutString
import Derived.ChangeOld
import Derived.Below
namespace Go.Proofs.Ytmicinenggkmlaa.mutexPasses
open Go.ChangeShapes Go.WideShapes Go.ChangeAt Go.RowKit
open Go.ChangeMaps (open_string shut_string)
set_option linter.unusedVariables false

theorem own : ownKnob Try.prog.godebug = none := by kernel_rfl
theorem laidOut : laidOutB Try.prog = true := by kernel_rfl

/-- WHAT THE WALK IS TOLD OF A SLICE OF INTEGERS THAT CAME IN: it is nil; or it leads to a row of 'cap' cells, the numbers 'zs' (the first 'len' are its elements, the rest its spare room), each fitting its kind. -/
def IsRow (k : IntKind) (w : World) (a : Option Addr) (len cap : Nat) (zs : List Int) : Prop :=
  (a = none ∧ len = 0 ∧ cap = 0 ∧ zs = []) ∨
  ∃ x, a = some x ∧ len ≤ cap ∧ cap ≤ maxLen ∧ zs.length = cap ∧ (∀ i, i < zs.length → w.cell? (x.add i) = some (.int k (zs.getD i 0))) ∧ ∀ n ∈ zs, (Lit.int k n).wf = true

/-- the priorities -/
def pr (q : Nat → Nat) (j : Nat) : Int := ((1 + q j % 4 : Nat) : Int)
theorem pr_in (q : Nat → Nat) (j : Nat) : 1 ≤ pr q j ∧ pr q j ≤ 16 := by unfold pr; omega
def FillRel (a0 : Int) (n : Nat) (p : Nat → Nat) (w : World) (a g : Nat) (q : Nat → Nat) (i : Value) (wr : World) : Prop :=
  ∃ (t : Nat) (S : St), t ≤ n ∧ i = .int .i64 (t : Int) ∧ At w a g q S wr ∧ Pz S a0 16 (fil (decide (a0 ≠ 0)) (pr p) t)
def TakeRel (a0 : Int) (n : Nat) (F : List It) (w : World) (a g : Nat) (q : Nat → Nat) (i la : Value) (wr : World) : Prop :=
  ∃ (u : Nat) (y : It) (S : St), u ≤ n ∧ i = .int .i64 (u : Int) ∧ la = .int .i64 y.1 ∧ ((16, 0) :: F)[u]? = some y ∧ At w a g q S wr ∧ Pz S a0 y.1 (F.drop u)
theorem fill1 {S : St} {a0 : Int} {t : Nat} {p : Nat → Nat} {x : Int} (f : Fine S) (ht : t < 15) (hx : x = 1 + (p t : Int) % 4) (h : Pz S a0 16 (fil (decide (a0 ≠ 0)) (pr p) t)) :
    ∃ S', sbase S ((t : Int) + 1) x = (S', 0) ∧ Pz S' a0 16 (fil (decide (a0 ≠ 0)) (pr p) t) ∧ S'.B ((t : Int) + 1) = pr p t := by
  obtain rfl : x = pr p t := by unfold pr; omega
  exact h.base f (by unfold isT; omega) (pr_in p t) (by omega) (fun y hy e => fil_new y hy (by rw [e]; omega))
theorem fill2 {S : St} {a0 : Int} {t : Nat} {p : Nat → Nat} (f : Fine S) (ht : t < 15) (hb : S.B ((t : Int) + 1) = pr p t) (h : Pz S a0 16 (fil (decide (a0 ≠ 0)) (pr p) t)) :
    ∃ S', lockL S 1 ((t : Int) + 1) = (S', false, 0) ∧ Pz S' a0 16 (fil (decide (a0 ≠ 0)) (pr p) (t + 1)) := by
  obtain ⟨S', e1, e2⟩ := h.lock f (t := (t : Int) + 1) (by unfold isT; omega) (by omega) (by omega) (fun y hy e => fil_new y hy (by rw [e]; omega))
  refine ⟨S', e1, ?_⟩
  rw [hb, show ((t : Int) + 1) = ((t + 1 : Nat) : Int) by omega, fil_addL (pr_in p) (by omega)] at e2
  exact e2

/-! ### the walk -/
set_option maxRecDepth 100000 in
set_option maxHeartbeats 4000000 in
theorem walk (a0 : Int) (a1 : Option Addr) (len1 cap1 : Nat) (z1 : List Int) (w : World) (w0 : (Lit.int .i64 a0).wf = true) (w1 : IsRow .u8 w a1 len1 cap1 z1) :
    Calls Try.prog 7 #[.int .i64 a0, .slice a1 len1 cap1] w fun e w' => e = .returned (.bool true) ∧ Below w.heap.size w w' := by
  obtain ⟨hn63, p, hs⟩ := src_of w1
  clear w1 w0
  by_cases c0 : a0 < 0
  · have ci0 : a0 < 0 := by omega
    have t0 := decide_eq_true ci0
    go_enter Try.func7, Try.ntmps7
    go_wp2_with fail
    refine (known_ok w).mono ?_
    rintro e w1 ⟨rfl, hb⟩
    go_wp2
    go_ret
    exact ⟨rfl, hb⟩
  have ci0 : ¬ a0 < 0 := by omega
  have t0 := decide_eq_false ci0
  by_cases c1 : 2 < a0
  · have ci1 : 2 < a0 := by omega
    have t1 := decide_eq_true ci1
    go_enter Try.func7, Try.ntmps7
    go_wp2_with fail
    refine (known_ok w).mono ?_
    rintro e w1 ⟨rfl, hb⟩
    go_wp2
    go_ret
    exact ⟨rfl, hb⟩
  have ci1 : ¬ 2 < a0 := by omega
  have t1 := decide_eq_false ci1
  by_cases c2 : 15 < len1
  · have ci2 : (15 : Int) < (len1 : Int) := by omega
    have t2 := decide_eq_true ci2
    go_enter Try.func7, Try.ntmps7
    go_wp2_with fail
    refine (known_ok w).mono ?_
    rintro e w1 ⟨rfl, hb⟩
    go_wp2
    go_ret
    exact ⟨rfl, hb⟩
  have ci2 : ¬ (15 : Int) < (len1 : Int) := by omega
  have t2 := decide_eq_false ci2
  obtain ⟨n, hn⟩ : ∃ n, len1 = n := ⟨_, rfl⟩
  rw [hn] at hs c2 ci2 t2 hn63 ⊢
  have h15 : n ≤ 15 := by omega
  have HSR := Lib.hid hs
  have h0a : 0 ≤ a0 := by omega
  have h2a : a0 ≤ 2 := by omega
  have hok : ∀ x, x ∈ [(a0, (0 : Int))] → okK x.1 x.2 := by
    intro x hx
    obtain rfl := List.mem_singleton.1 hx
    exact ok_fifo h0a h2a
  have HOK := Lib.hid hok
  clear hs hn hok
  go_enter Try.func7, Try.ntmps7
  go_wp2_with fail
  refine (known_ok w).mono ?_
  rintro e w1 ⟨rfl, hb⟩
  have HB := Lib.hid hb
  have src := K.sr_lit K.ck w1 55 [(a0, (0 : Int))] 1
  rw [show (K.vals K.ck [(a0, (0 : Int))]).toArray = #[.int .i64 a0, .int .i64 0] from rfl] at src
  have SRC := Lib.hid src
  have hb1 := hb.alloc hb.size (.cells #[.int .i64 a0, .int .i64 0] 55)
  have HB1 := Lib.hid hb1
  clear hb src hb1
  go_wp2_with fail
  refine (new_at (w := w) (some ⟨w1.heap.size, 0, none⟩) 1 1 [(a0, (0 : Int))] rfl (by simp) SRC.out HOK.out HB1.out).mono ?_
  rintro e w2 ⟨a, g, q, rfl, h2⟩
  have H2 := Lib.hid h2
  obtain ⟨S1, e1, hp1⟩ := Pz.new (a := a0) (t := 16) ⟨h0a, h2a⟩ (by unfold isT; omega)
  have HE1 := Lib.hid e1
  have HP1 := Lib.hid hp1
  clear h2 e1 hp1
  go_wp2_with fail
  refine (lock_at H2.out HE1.out).mono ?_
  rintro e w3 ⟨rfl, h3⟩
  have H3 := Lib.hid h3
  clear h3 t0 t1 t2 c0 c1 c2 ci2
  go_wp2
  go_loopw [7] (fun i wr => FillRel a0 n p w a g q i wr) (fun i _ => n - (intOf i).toNat)
  case atStart => exact ⟨0, S1, Nat.zero_le _, rfl, H3.out, HP1.out⟩
  case round =>
    obtain ⟨t, S, ht, rfl, hat, hpz⟩ := hrel
    have HAT := Lib.hid hat
    have HPZ := Lib.hid hpz
    clear hat hpz
    by_cases hlt : t < n
    · have hlt' : (t : Int) < (n : Int) := by omega
      obtain ⟨b, o, rfl, hbl, hcl⟩ := HSR.out (by omega)
      have hq := (hcl t hlt).2
      have d1 := (HAT.out.b.cell (p := ⟨b, o + t, none⟩) hbl).trans (hcl t hlt).1
      have HL := Lib.hid (fun x hx => fill1 (S := S) (x := x) HAT.out.f (show t < 15 by omega) hx HPZ.out)
      clear hcl
      go_wp2_with fail
      obtain ⟨S', e1, hpz, hbb⟩ := HL.out _ rfl
      have HP2 := Lib.hid hpz
      have HBB := Lib.hid hbb
      refine (sbase_at HAT.out e1).mono ?_
      rintro e w4 ⟨rfl, h4⟩
      have H4 := Lib.hid h4
      obtain ⟨S2, e2, hpz⟩ := fill2 h4.f (show t < 15 by omega) HBB.out HP2.out
      have HE2 := Lib.hid e2
      have HP3 := Lib.hid hpz
      clear h4 e1 e2 hpz hbb d1 HL
      go_wp2_with fail
      refine (lock_at H4.out HE2.out).mono ?_
      rintro e w5 ⟨rfl, h5⟩
      have H5 := Lib.hid h5
      clear h5
      go_wp2
      go_roundw
      case rel => exact ⟨t + 1, S2, by omega, by go_num, H5.out, HP3.out⟩
      case measure => simp [intOf]; omega
    · have hlt' : decide ((t : Int) < (n : Int)) = false := by simp; omega
      have HPN := Lib.hid (show Pz S a0 16 (fil (decide (a0 ≠ 0)) (pr p) n) by have := HPZ.out; rw [show t = n by omega] at this; exact this)
      have HX0 := Lib.hid (show a0 = 0 → (fil (decide (a0 ≠ 0)) (pr p) n).Pairwise (fun x y => x.1 < y.1) from fun e => by rw [decide_eq_false (fun c => c e)]; exact fil_arr)
      have HX1 := Lib.hid (show a0 ≠ 0 → (fil (decide (a0 ≠ 0)) (pr p) n).Pairwise (fun x y => x.2 < y.2 ∨ (x.2 = y.2 ∧ x.1 < y.1)) from fun e => by rw [decide_eq_true e]; exact fil_lex (pr_in p) (by omega))
      have HM := Lib.hid (fun x => @fil_mem (decide (a0 ≠ 0)) (pr p) n x)
      have HLN := Lib.hid (fil_len (decide (a0 ≠ 0)) (pr p) n)
      generalize fil (decide (a0 ≠ 0)) (pr p) n = F at *
      clear H3 HP1 HPZ
      go_wp2
      clear hlt hlt' ht
      go_loopw [11, 10] (fun i la wr => TakeRel a0 n F w a g q i la wr) (fun i _ _ => n - (intOf i).toNat)
      case atStart => exact ⟨0, (16, 0), S, Nat.zero_le _, rfl, rfl, rfl, HAT.out, HPN.out⟩
      case round =>
        clear HAT HPN
        obtain ⟨u, y, S, hu, rfl, rfl, hy, hat, hpz⟩ := hrel
        have HAT := Lib.hid hat
        have HPZ := Lib.hid hpz
        clear hat hpz
        have HTY := Lib.hid (show isT y.1 from by
          cases u with
          | zero => simp only [List.getElem?_cons_zero, Option.some.injEq] at hy; subst hy; unfold isT; simp only; omega
          | succ u =>
            simp only [List.getElem?_cons_succ] at hy
            obtain ⟨i, hi, e⟩ := HM.out y (List.mem_of_getElem? hy)
            rw [e]; unfold isT; simp only; omega)
        by_cases hlt : u < n
        · have hlt' : (u : Int) < (n : Int) := by omega
          have hxs : u < F.length := by rw [HLN.out]; exact hlt
          have hd : F.drop u = F[u] :: F.drop (u + 1) := List.drop_eq_getElem_cons hxs
          obtain ⟨x, hx⟩ : ∃ x, F[u] = x := ⟨_, rfl⟩
          rw [hx] at hd
          have hxF : F[u]? = some x := by rw [List.getElem?_eq_getElem hxs, hx]
          have hpz := HPZ.out
          rw [hd] at hpz
          obtain ⟨S', e1, hp2⟩ := hpz.unlk HAT.out.f HTY.out
          obtain ⟨j, hj, hxj⟩ := HM.out x (List.mem_of_getElem? hxF)
          obtain ⟨b, o, rfl, hbl, hcl⟩ := HSR.out (by omega)
          have hcj := (hcl j hj).1
          have hqj := (hcl j hj).2
          have HN : Hid (((16, 0) :: F)[u + 1]? = some x) := by rw [List.getElem?_cons_succ]; exact Lib.hid hxF
          have ljn : (j : Int) < (n : Int) := by omega
          have d1 : decide ((j : Int) + 1 < 1) = false := by simp; omega
          have d2 : decide ((n : Int) < (j : Int) + 1) = false := by simp; omega
          have d3 : (((j : Int) + 1) != ((j : Int) + 1)) = false := by simp
          have ej1 : x.1 = (j : Int) + 1 := by rw [hxj]; simp only; omega
          rw [ej1] at e1 hp2
          have HS := Lib.hid (unlock_at HAT.out e1)
          have HP := Lib.hid hp2
          have HEJ := Lib.hid ej1
          clear e1 hp2 hpz
          cases u with
          | zero =>
            clear hcl hd hx hxF hy hxj ej1
            go_wp2_with fail
            refine HS.out.mono ?_
            rintro e w5 ⟨rfl, h5⟩
            have H5 := Lib.hid h5
            clear h5 HS
            go_wp2_with fail
            refine (owner_at H5.out HP.out.owns).mono ?_
            rintro e w6 ⟨rfl, rfl⟩
            go_wp2
            go_roundw
            case rel => exact ⟨1, x, S', by omega, by go_num, by rw [HEJ.out], HN.out, H5.out, by rw [← HEJ.out] at HP; exact HP.out⟩
            case measure => simp [intOf]; omega
          | succ u =>
            simp only [List.getElem?_cons_succ] at hy
            obtain ⟨g1, e1⟩ := List.getElem?_eq_some_iff.1 hy
            have hu0 : (0 : Int) < ((u + 1 : Nat) : Int) := by omega
            obtain ⟨i, hi, hyi⟩ := HM.out y (List.mem_of_getElem? hy)
            have hci := (hcl i hi).1
            have hqi := (hcl i hi).2
            have lin : (i : Int) < (n : Int) := by omega
            have ei1 : y.1 = (i : Int) + 1 := by rw [hyi]; simp only; omega
            have ei2 : y.2 = 1 + (p i : Int) % 4 := by rw [hyi]; unfold pr; simp only; omega
            have ej2 : x.2 = 1 + (p j : Int) % 4 := by rw [hxj]; unfold pr; simp only; omega
            rw [ei1] at HS HTY ⊢
            by_cases ha0 : a0 = 0
            · have hlex := (List.pairwise_iff_getElem.1 (HX0.out ha0)) u (u + 1) g1 hxs (by omega)
              rw [e1, hx, ei1, ej1] at hlex
              have e0 : (a0 == 0) = true := by simpa using ha0
              have e00 : decide ((0 : Int) < a0) = false := by simp; omega
              have d6 : decide ((j : Int) + 1 < (i : Int) + 1) = false := by simp; omega
              have d7 : ¬ j < i := by omega
              have d8 : i ≤ j := by omega
              have e01 : ¬ (0 : Int) < a0 := by omega
              clear hcl hd hx hxF hy e1 hxj ej1 hyi ei1 ei2 ej2 hlex ha0
              go_wp2_with fail
              refine HS.out.mono ?_
              rintro e w5 ⟨rfl, h5⟩
              have H5 := Lib.hid h5
              have kj := (h5.b.cell (p := ⟨b, o + j, none⟩) hbl).trans hcj
              have ki := (h5.b.cell (p := ⟨b, o + i, none⟩) hbl).trans hci
              clear h5 HS
              go_wp2_with fail
              refine (owner_at H5.out HP.out.owns).mono ?_
              rintro e w6 ⟨rfl, rfl⟩
              go_wp2
              go_roundw
              case rel => exact ⟨u + 1 + 1, x, S', by omega, by go_num, by rw [HEJ.out], HN.out, H5.out, by rw [← HEJ.out] at HP; exact HP.out⟩
              case measure => simp [intOf]; omega
            · have hlex := (List.pairwise_iff_getElem.1 (HX1.out ha0)) u (u + 1) g1 hxs (by omega)
              rw [e1, hx, ei1, ej1, ei2, ej2] at hlex
              have e0 : (a0 == 0) = false := by simpa using ha0
              have e01 : (0 : Int) < a0 := by omega
              have e00 : decide ((0 : Int) < a0) = true := decide_eq_true e01
              have d4 : decide ((p j : Int) % 4 < (p i : Int) % 4) = false := by simp; omega
              by_cases he : (p i : Int) % 4 = (p j : Int) % 4
              · have d5 : ((p i : Int) % 4 == (p j : Int) % 4) = true := by simpa using he
                have d6 : decide ((j : Int) + 1 < (i : Int) + 1) = false := by simp; omega
                have d7 : ¬ j < i := by omega
                have d8 : i ≤ j := by omega
                clear hcl hd hx hxF hy e1 hxj ej1 hyi ei1 ei2 ej2 hlex he
                go_wp2_with fail
                refine HS.out.mono ?_
                rintro e w5 ⟨rfl, h5⟩
                have H5 := Lib.hid h5
                have kj := (h5.b.cell (p := ⟨b, o + j, none⟩) hbl).trans hcj
                have ki := (h5.b.cell (p := ⟨b, o + i, none⟩) hbl).trans hci
                clear h5 HS
                go_wp2_with fail
                refine (owner_at H5.out HP.out.owns).mono ?_
                rintro e w6 ⟨rfl, rfl⟩
                go_wp2
                go_roundw
                case rel => exact ⟨u + 1 + 1, x, S', by omega, by go_num, by rw [HEJ.out], HN.out, H5.out, by rw [← HEJ.out] at HP; exact HP.out⟩
                case measure => simp [intOf]; omega
              · have d5 : ((p i : Int) % 4 == (p j : Int) % 4) = false := by simpa using he
                clear hcl hd hx hxF hy e1 hxj ej1 hyi ei1 ei2 ej2 hlex he
                go_wp2_with fail
                refine HS.out.mono ?_
                rintro e w5 ⟨rfl, h5⟩
                have H5 := Lib.hid h5
                have kj := (h5.b.cell (p := ⟨b, o + j, none⟩) hbl).trans hcj
                have ki := (h5.b.cell (p := ⟨b, o + i, none⟩) hbl).trans hci
                clear h5 HS
                go_wp2_with fail
                refine (owner_at H5.out HP.out.owns).mono ?_
                rintro e w6 ⟨rfl, rfl⟩
                go_wp2
                go_roundw
                case rel => exact ⟨u + 1 + 1, x, S', by omega, by go_num, by rw [HEJ.out], HN.out, H5.out, by rw [← HEJ.out] at HP; exact HP.out⟩
                case measure => simp [intOf]; omega
        · have hlt' : decide ((u : Int) < (n : Int)) = false := by simp; omega
          have hnil : F.drop u = [] := List.drop_eq_nil_of_le (by rw [HLN.out]; omega)
          have hpz := HPZ.out
          rw [hnil] at hpz
          obtain ⟨S', e1, hp2⟩ := hpz.last HAT.out.f HTY.out
          have HS := Lib.hid (unlock_at HAT.out e1)
          have HP := Lib.hid hp2
          clear hy hnil hpz e1 hp2
          go_wp2_with fail
          refine HS.out.mono ?_
          rintro e w5 ⟨rfl, h5⟩
          have H5 := Lib.hid h5
          clear h5
          go_wp2_with fail
          refine (owner_at H5.out HP.out.owns).mono ?_
          rintro e w6 ⟨rfl, rfl⟩
          go_wp2
          go_ret
          exact ⟨rfl, H5.out.b⟩

/-! ### THE ROW's STEP: WRITTEN OUT: LEAVE IT -/
set_option maxRecDepth 100000 in
theorem lifted (os : Os) (started : os.Started) (H : Type) (enc : TypeId × Value → H) :
    ReturnsInHanded {} Try.checked os 7 .any (Rows.mutexPassesSpec.pre6 enc Try.prog Try.f7 Rows.mutexPassesRow.domain false) (Rows.mutexPassesSpec.post enc Try.prog Try.f7 false true false false) := by
  refine returnsInHanded_of_change (C := Try.checked) own started (by kernel_rfl) Try.func7
    (ChangeSpec.witness6 (enc := enc) (C := Try.checked) false ⟨#[], #[.int .i64 0, .slice none 0 0], []⟩ 8 (by kernel_rfl) (by kernel_rfl) (by kernel_rfl) (by kernel_rfl)) ?_
  intro W base args ds gs before hval0 hW hcnd _
  have hval : ∀ (j : Nat) t v, Try.f7.params[j]? = some t → args[j]? = some v → Value.okWide Try.prog W .any base t v := hval0
  have hW' := hW
  obtain ⟨p, q, hA0, hV, rfl, hfz, hnd⟩ := hW
  have hA : DataW.TrodAll enc Try.prog W 0 (fun _ => true) true Try.f7.params.toList args.toList ds p := hA0
  rw [Try.params7] at hA hval
  obtain ⟨v0, vs0, d0, ds0, p0, q0, hargs, rfl, rfl, h0, r0⟩ := trodAll_cons hA
  obtain ⟨v1, vs1, d1, ds1, p1, q1, rfl, rfl, rfl, h1, r1⟩ := trodAll_cons r0
  obtain ⟨rfl, rfl, rfl⟩ := trodAll_nil r1
  obtain rfl : args = #[v0, v1] := by cases args; simp_all
  obtain ⟨rfl, rfl⟩ := trodVars_none hV
  obtain ⟨a0, rfl, rfl, rfl, w0⟩ := open_int Try.underlying3 (hval 0 3 v0 rfl rfl) h0
  obtain ⟨a1, len1, cap1, rfl⟩ := okWide_slice Try.underlying53 (hval 1 53 v1 rfl rfl)
  have k1 := h1
  have lt1 : ∀ x ∈ p1, x.block < W.heap.size := by obtain ⟨m, hm⟩ := k1; exact DataW.trod_lt m _ _ _ hm
  obtain ⟨z1, w1⟩ : ∃ zs, IsRow .u8 W a1 len1 cap1 zs := by
    obtain ⟨fuel, hf⟩ := h1
    rcases open_ints Try.underlying53 Try.underlying5 (by kernel_rfl) hf with ⟨hcs, _⟩ | ⟨x, l, c, zs, hcs, _, hl, hm, hz, _, hcell, hwz⟩
    · simp [Value.cells] at hcs
      obtain ⟨rfl, rfl, rfl⟩ := hcs
      exact ⟨[], .inl ⟨rfl, rfl, rfl, rfl⟩⟩
    · simp [Value.cells] at hcs
      obtain ⟨rfl, rfl, rfl⟩ := hcs
      exact ⟨zs, .inr ⟨_, rfl, hl, hm, by simpa using hz, hcell, hwz⟩⟩
  clear hA0 hval0
  refine (walk a0 a1 len1 cap1 z1 W w0 w1).mono fun e W' ⟨he, bel⟩ => ?_
  subst he
  exact ⟨_, rfl, _, _, _, [], _, [], hW', trodAll_mk1 (shut_bool Try.underlying4 _), (trodAll_cons_mk (shut_int Try.underlying3 w0) (trodAll_cons_mk (Below.trod laidOut (by kernel_rfl) (of_decide_eq_true (by kernel_rfl)) k1 bel lt1) trodAll_mk0)), rfl, bel.frame _, fun h => by cases h⟩

theorem over : Rows.mutexPassesRow.holds Try.pinned (OpenSpec.ofChange Rows.mutexPassesSpec) :=
  OpenClaim.holds_of_wide 7 Try.f7 rfl rfl rfl rfl rfl rfl rfl ⟨rfl, rfl, rfl, rfl, rfl⟩ rfl rfl rfl rfl rfl (by kernel_rfl) Try.func7 (by kernel_rfl)
    (of_decide_eq_true (by kernel_rfl)) (by unfold Func.isWrapper; first | (rw [if_pos (by decide +kernel)]; kernel_rfl) | (rw [if_neg (by decide +kernel)]; exact ⟨rfl, rfl⟩))
    (fun os started H enc _ => lifted os started H enc)

/-- ████ THE STATEMENT ████ -/
theorem proved : Rows.MutexPassesSaid := over
#print axioms proved
end Go.Proofs.Ytmicinenggkmlaa.mutexPasses
namespace Go.Proofs.Ytmicinenggkmlaa
theorem mutexPasses_holds : Rows.MutexPassesSaid := mutexPasses.proved
end Go.Proofs.Ytmicinenggkmlaa
