/-
  PROVED: the Go function detentlaw16.BufferHands returns true for every input, and each argument reads behind the call as it read before (Rows.BufferHandsSaid). No condition.
-/
import Derived.Test.YtneimdjgbblaoaaRows
import Derived.Test.YtneimdjgbblaoaaBfP
import Derived.WalkKit
import Derived.ProofKit
import Derived.OpenShut
import Derived.ShutString
import Derived.ChangeOld
import Derived.Below
namespace Go.Proofs.Ytneimdjgbblaoaa.bufferHands
open Go.ChangeShapes Go.WideShapes Go.ChangeAt Go.RowKit
open Go.ChangeMaps (open_string shut_string)
set_option linter.unusedVariables false

theorem own : ownKnob Try.prog.godebug = none := by kernel_rfl
theorem laidOut : laidOutB Try.prog = true := by kernel_rfl

def R1 (w : World) (s p m n : Nat) (sn : Nat → Nat) (q : Nat → Nat → Int) (i : Value) (wr : World) : Prop :=
  ∃ (k : Nat) (C : Int) (t : St), k ≤ n ∧ i = .int .i64 (k : Int) ∧ At w s p m C t wr ∧ C ≤ 100000 * (k : Int) ∧ Hs (fun k => R.mkm (sn k) (q k)) 0 k t
def R2 (w : World) (s p m n : Nat) (sn : Nat → Nat) (q : Nat → Nat → Int) (i : Value) (wr : World) : Prop :=
  ∃ (k r : Nat) (C : Int) (t : St), k + r = n ∧ i = .int .i64 (k : Int) ∧ At w s p m C t wr ∧ C ≤ 2000000 + 100000 * (k : Int) ∧ Hs (fun k => R.mkm (sn k) (q k)) k r t

set_option maxHeartbeats 8000000 in
set_option maxRecDepth 100000 in
theorem walkS (A : Option Addr) (n cap b o : Nat) (SA : Nat → Option Addr) (sn sk : Nat → Nat) (q : Nat → Nat → Int) (hn : n ≤ 8) (w : World)
    (hP : 0 < n → A = some ⟨b, o, none⟩ ∧ Pts w b o n SA sn sk q) :
    Calls Try.prog 5 #[.slice A n cap, .bool true] w fun e w' => e = .returned (.bool true) ∧ Below w.heap.size w w' := by
  have HP := Lib.hid hP
  have t4 : decide ((8 : Int) < (n : Int)) = false := by simp; omega
  have t4' : decide (8 < n) = false := by simp; omega
  clear hP
  go_enter Try.func5, Try.ntmps5
  go_wp2_with fail
  refine (known_any w).mono ?_
  rintro e w0 ⟨rfl, hb0⟩
  have HB0 := Lib.hid hb0
  clear hb0
  go_wp2_with fail
  refine (new_at w w0 false 100 0 (by omega) (by omega) (by omega) 0 rfl 100 rfl HB0.out).mono ?_
  rintro e w1 ⟨s, p, m, rfl, ha, _, _, _, _⟩
  have H0 : Hid (R1 w s p m n sn q (.int .i64 0) w1) := Lib.hid ⟨0, 0, st0 false 100 0, Nat.zero_le _, rfl, ha, by omega, ⟨rfl, rfl, rfl, rfl, rfl, rfl, fun k h1 h2 => by omega⟩⟩
  clear ha t4 t4'
  go_wp2
  go_loopw [7] (fun i wr => R1 w s p m n sn q i wr) (fun i _ => n - (intOf i).toNat)
  case atStart => exact H0.out
  case round =>
    obtain ⟨k, C, t, hk, rfl, hat, hC, hod⟩ := hrel
    have HA := Lib.hid hat
    have HC := Lib.hid hC
    have HOD := Lib.hid hod
    clear hat hC hod H0
    by_cases hlt : k < n
    · obtain ⟨rfl, hpts⟩ := HP.out (by omega)
      have hlt' : (k : Int) < (n : Int) := by omega
      have hc := (HA.out.b.cell (p := ⟨b, o + k, none⟩) (hpts.hlt k hlt)).trans (hpts.c k hlt)
      have HS := Lib.hid (hpts.src k hlt)
      have HCP := Lib.hid (hpts.cap k hlt)
      obtain ⟨v, hv⟩ : ∃ v, sn k = v := ⟨_, rfl⟩
      rw [hv] at hc HS HCP
      have HV := Lib.hid hv
      clear hpts hv
      by_cases c0 : v = 0
      · have t5 : ((v : Int) == 0) = true := by simp; omega
        have t5' : (v == 0) = true := by simp; omega
        go_wp2
        go_ret
        exact ⟨rfl, HA.out.b⟩
      have t5 : ((v : Int) == 0) = false := by simp; omega
      have t5' : (v == 0) = false := by simp; omega
      by_cases c1 : 100 < v
      · have t6 : decide ((100 : Int) < (v : Int)) = true := by simp; omega
        have t6' : decide (100 < v) = true := by simp; omega
        go_wp2
        go_ret
        exact ⟨rfl, HA.out.b⟩
      have t6 : decide ((100 : Int) < (v : Int)) = false := by simp; omega
      have t6' : decide (100 < v) = false := by simp; omega
      obtain ⟨t', hs, hod'⟩ := HOD.out.send (by omega) (by rw [R.mkm_len, HV.out]; omega) ((k : Int) + 1) rfl
      rw [HV.out] at hs
      have HSD := Lib.hid (send_at HA.out (HS.out.sb HA.out.b HA.out.q.bs HA.out.q.bp HA.out.q.bm) HCP.out.1 (by have := HC.out; omega) hs)
      have HOD' := Lib.hid hod'
      clear hs hod' c0 c1
      go_wp2_with fail
      refine HSD.out.mono ?_
      rintro e w2 ⟨rfl, ha2, _⟩
      have HA2 := Lib.hid ha2
      clear ha2 HSD hc
      go_wp2
      go_roundw
      case rel => exact ⟨k + 1, _, _, by omega, by go_num, HA2.out, by have := HC.out; omega, HOD'.out⟩
      case measure => first | omega | (simp [intOf]; omega)
    · obtain rfl : k = n := by omega
      have H1 : Hid (R2 w s p m k sn q (.int .i64 0) wr) := Lib.hid ⟨0, k, C, t, by omega, rfl, HA.out, by have := HC.out; omega, HOD.out⟩
      clear HA HC HOD hlt hk
      go_wp2
      go_loopw [13] (fun i wr => R2 w s p m k sn q i wr) (fun i _ => k - (intOf i).toNat)
      case atStart => exact H1.out
      case round =>
        obtain ⟨j, r, C, t, hjr, rfl, hat, hC, hod⟩ := hrel
        have HA := Lib.hid hat
        have HC := Lib.hid hC
        have HOD := Lib.hid hod
        clear hat hC hod H1
        by_cases hlt : j < k
        · obtain ⟨r, rfl⟩ : ∃ r', r = r' + 1 := ⟨r - 1, by omega⟩
          obtain ⟨rfl, hpts⟩ := HP.out (by omega)
          have hlt' : (j : Int) < (k : Int) := by omega
          have hc := (HA.out.b.cell (p := ⟨b, o + j, none⟩) (hpts.hlt j hlt)).trans (hpts.c j hlt)
          have HS := Lib.hid (hpts.src j hlt)
          have HBL := Lib.hid (hpts.hlt j hlt)
          obtain ⟨t', hs, hod'⟩ := HOD.out.recv ((j : Int) + 9)
          obtain ⟨v, hv⟩ : ∃ v, sn j = v := ⟨_, rfl⟩
          rw [hv] at hc HS hs
          have HTR := Lib.hid (recv_at HA.out (by have := HC.out; omega) hs)
          have HOD' := Lib.hid hod'
          have HCC := Lib.hid hc
          have hj9 : (j : Int) + 9 ≤ 100 := by omega
          clear hpts hv hs hod' hc
          go_wp2_with fail
          refine HTR.out.mono ?_
          rintro e w2 ⟨gv, rfl, hg, ha2, _⟩
          obtain ⟨v1, v2, rfl, htx, how, hnew⟩ := hg
          obtain ⟨Y, yi, yj, rfl⟩ : ∃ Y i j, v1 = .slice Y i j := by rcases htx with ⟨_, rfl⟩ | ⟨g, cap, rfl, _⟩ <;> exact ⟨_, _, _, rfl⟩
          have hnr := Nr.of_own how
          obtain ⟨X, xk, rfl, _, _⟩ := K.own_form how
          rw [show [(j : Int) + 1].length = 1 from rfl] at hnr how
          obtain ⟨g, oo, rfl, hgl, hce⟩ := hnr.at_ (j := 0) (x := (j : Int) + 1) rfl
          rw [Nat.add_zero] at hce
          have HB3 := Lib.hid (show Below w2.heap.size w2 (w2.alloc (.cells #[.slice Y yi yj, .bool true, .slice (some ⟨g, oo, none⟩) 1 xk] 42)) from (Below.refl _ _).alloc (Nat.le_refl _) _)
          have bx := box3_new w2 42 (.slice Y yi yj) (.bool true) (.slice (some ⟨g, oo, none⟩) 1 xk)
          have b0 := bx.c0
          have b1 := bx.c1
          have b2 := bx.c2
          have e0 := (HB3.out.cell (p := ⟨g, oo, none⟩) hgl).trans hce
          have hs1 := ((htx.below HB3.out).below (show Below _ _ (World.drew _) from (Below.refl _ _).drew)).str
          rw [show (some (R.mkm v (q j))).getD [] = R.mkm v (q j) from rfl] at hs1
          have HA3 := Lib.hid (ha2.below HB3.out)
          have hs2 := R.run_str (cap := sk j) ((HS.out.later HA3.out.drew.b).src)
          rw [← R.str_mkm] at hs2
          have d0 := (HA3.out.b.cell (p := ⟨b, o + j, none⟩) HBL.out).trans (((HA.out.b.cell (p := ⟨b, o + j, none⟩) HBL.out).symm).trans HCC.out)
          have hw : IntKind.i64.wrap ((j : Int) + 1) = (j : Int) + 1 := by have h := wrap_nat j (by omega) 1 (by omega); simpa using h
          have hne : (((j : Int) + 1) != ((j : Int) + 1)) = false := by simp
          clear ha2 htx how hnew bx HTR hce hnr hgl
          go_wp2
          go_region_held3 (fun W => W.cell? ⟨w2.heap.size, 0, none⟩ = some (.slice Y yi yj) ∧ W.cell? ⟨w2.heap.size, 1, none⟩ = some (.bool true) ∧ W.cell? ⟨b, o + j, none⟩ = some (.slice (SA j) v (sk j)) ∧ W.cell? ⟨w2.heap.size, 2, none⟩ = some (.slice (some ⟨g, oo, none⟩) 1 xk) ∧ W.cell? ⟨g, oo, none⟩ = some (.int .i64 ((j : Int) + 1)) ∧ (convert 31 9 (.slice Y yi yj)).run Try.prog W = .ok (.string (R.str (R.mkm v (q j)))) W ∧ (convert 31 9 (.slice (SA j) v (sk j))).run Try.prog W = .ok (.string (R.str (R.mkm v (q j)))) W)
            (first | exact ⟨b0, b1, d0, b2, e0, hs1, hs2⟩ | assumption)
            (fail)
          all_goals
            clear hw hne
            go_wp2
            go_roundw
            case rel => exact ⟨j + 1, r, _, _, by omega, by go_num, HA3.out.drew, by have := HC.out; omega, HOD'.out⟩
            case measure => first | omega | (simp [intOf]; omega)
        · obtain rfl : j = k := by omega
          obtain rfl : r = 0 := by omega
          have c0 := HA.out.q.c.ring
          have hS : t.S.length = 0 := by rw [HOD.out.s]; rfl
          have hR : t.R.length = 0 := by rw [HOD.out.r]; rfl
          have HG : Hid (t.G.length = 0) := Lib.hid (by rw [HOD.out.g]; rfl)
          go_wp2_with fail
          refine (senders_at HA.out hS).mono ?_
          rintro e w3 ⟨X, xk, rfl, _, hb3⟩
          have HA3 := Lib.hid (HA.out.below hb3)
          clear hb3
          go_wp2_with fail
          refine (receivers_at HA3.out hR).mono ?_
          rintro e w4 ⟨X4, xk4, rfl, _, hb4⟩
          have HA4 := Lib.hid (HA3.out.below hb4)
          have c1 := HA4.out.q.c.ring
          have HLen := Lib.hid (len_at HA4.out)
          rw [HG.out] at HLen
          clear hb4
          go_wp2_with fail
          refine HLen.out.mono ?_
          rintro e w5 ⟨rfl, rfl⟩
          go_wp2
          go_ret
          exact ⟨rfl, HA4.out.b⟩

def Q1 (w : World) (s p m n : Nat) (sn : Nat → Nat) (i : Value) (wr : World) : Prop :=
  ∃ (k : Nat) (C : Int) (t : St), k ≤ n ∧ i = .int .i64 (k : Int) ∧ At w s p m C t wr ∧ C ≤ 100000 * (k : Int) ∧ Hr 0 k t ∧ ∀ j, j < k → 1 ≤ sn j ∧ sn j ≤ 100
def Q2 (w : World) (s p m n : Nat) (i : Value) (wr : World) : Prop :=
  ∃ (k r : Nat) (C : Int) (t : St), k + r = n ∧ i = .int .i64 (k : Int) ∧ At w s p m C t wr ∧ C ≤ 2000000 + 100000 * (k : Int) ∧ Hr k r t

set_option maxHeartbeats 8000000 in
set_option maxRecDepth 100000 in
theorem walkR (A : Option Addr) (n cap b o : Nat) (SA : Nat → Option Addr) (sn sk : Nat → Nat) (q : Nat → Nat → Int) (hn : n ≤ 8) (w : World)
    (hP : 0 < n → A = some ⟨b, o, none⟩ ∧ Pts w b o n SA sn sk q) :
    Calls Try.prog 5 #[.slice A n cap, .bool false] w fun e w' => e = .returned (.bool true) ∧ Below w.heap.size w w' := by
  have HP := Lib.hid hP
  have t4 : decide ((8 : Int) < (n : Int)) = false := by simp; omega
  have t4' : decide (8 < n) = false := by simp; omega
  clear hP
  go_enter Try.func5, Try.ntmps5
  go_wp2_with fail
  refine (known_any w).mono ?_
  rintro e w0 ⟨rfl, hb0⟩
  have HB0 := Lib.hid hb0
  clear hb0
  go_wp2_with fail
  refine (new_at w w0 false 100 0 (by omega) (by omega) (by omega) 0 rfl 100 rfl HB0.out).mono ?_
  rintro e w1 ⟨s, p, m, rfl, ha, _, _, _, _⟩
  have H0 : Hid (Q1 w s p m n sn (.int .i64 0) w1) := Lib.hid ⟨0, 0, st0 false 100 0, Nat.zero_le _, rfl, ha, by omega, ⟨rfl, rfl, rfl, rfl⟩, fun j hj => by omega⟩
  clear ha t4 t4'
  go_wp2
  go_loopw [7] (fun i wr => Q1 w s p m n sn i wr) (fun i _ => n - (intOf i).toNat)
  case atStart => exact H0.out
  case round =>
    obtain ⟨k, C, t, hk, rfl, hat, hC, hod, hls⟩ := hrel
    have HLS := Lib.hid hls
    have HA := Lib.hid hat
    have HC := Lib.hid hC
    have HOD := Lib.hid hod
    clear hat hC hod H0 hls
    by_cases hlt : k < n
    · obtain ⟨rfl, hpts⟩ := HP.out (by omega)
      have hlt' : (k : Int) < (n : Int) := by omega
      have hc := (HA.out.b.cell (p := ⟨b, o + k, none⟩) (hpts.hlt k hlt)).trans (hpts.c k hlt)
      have HS := Lib.hid (hpts.src k hlt)
      have HCP := Lib.hid (hpts.cap k hlt)
      obtain ⟨v, hv⟩ : ∃ v, sn k = v := ⟨_, rfl⟩
      rw [hv] at hc HS HCP
      have HV := Lib.hid hv
      clear hpts hv
      by_cases c0 : v = 0
      · have t5 : ((v : Int) == 0) = true := by simp; omega
        have t5' : (v == 0) = true := by simp; omega
        go_wp2
        go_ret
        exact ⟨rfl, HA.out.b⟩
      have t5 : ((v : Int) == 0) = false := by simp; omega
      have t5' : (v == 0) = false := by simp; omega
      by_cases c1 : 100 < v
      · have t6 : decide ((100 : Int) < (v : Int)) = true := by simp; omega
        have t6' : decide (100 < v) = true := by simp; omega
        go_wp2
        go_ret
        exact ⟨rfl, HA.out.b⟩
      have t6 : decide ((100 : Int) < (v : Int)) = false := by simp; omega
      have t6' : decide (100 < v) = false := by simp; omega
      obtain ⟨t', hs, hod'⟩ := HOD.out.recv (by omega) ((k : Int) + 1) rfl
      have HSD := Lib.hid (recv_at HA.out (by have := HC.out; omega) hs)
      have HOD' := Lib.hid hod'
      have HVL := Lib.hid (show 1 ≤ v ∧ v ≤ 100 by omega)
      clear hs hod' c0 c1
      go_wp2_with fail
      refine HSD.out.mono ?_
      rintro e w2 ⟨gv, rfl, hg, ha2, _⟩
      obtain ⟨v1, v2, rfl, htx, how, hnew⟩ := hg
      obtain ⟨Y, yi, yj, rfl⟩ : ∃ Y i j, v1 = .slice Y i j := by rcases htx with ⟨_, rfl⟩ | ⟨g, cap, rfl, _⟩ <;> exact ⟨_, _, _, rfl⟩
      obtain ⟨X, xn, xk, rfl⟩ : ∃ X n k, v2 = .slice X n k := by obtain ⟨X, k, e, _⟩ := K.own_form how; exact ⟨X, _, k, e⟩
      have HB3 := Lib.hid (show Below w2.heap.size w2 (w2.alloc (.cells #[.slice Y yi yj, .bool false, .slice X xn xk] 42)) from (Below.refl _ _).alloc (Nat.le_refl _) _)
      have b1 := (box3_new w2 42 (.slice Y yi yj) (.bool false) (.slice X xn xk)).c1
      have HA2 := Lib.hid (ha2.below HB3.out)
      clear ha2 HSD hc htx how hnew
      go_wp2
      go_roundw
      case rel => exact ⟨k + 1, _, _, by omega, by go_num, HA2.out, by have := HC.out; omega, HOD'.out, fun j hj => by
        by_cases c : j = k
        · subst c; rw [HV.out]; exact HVL.out
        · exact HLS.out j (by omega)⟩
      case measure => first | omega | (simp [intOf]; omega)
    · obtain rfl : k = n := by omega
      have H1 : Hid (Q2 w s p m k (.int .i64 0) wr) := Lib.hid ⟨0, k, C, t, by omega, rfl, HA.out, by have := HC.out; omega, HOD.out⟩
      clear HA HC HOD hlt hk
      go_wp2
      go_loopw [13] (fun i wr => Q2 w s p m k i wr) (fun i _ => k - (intOf i).toNat)
      case atStart => exact H1.out
      case round =>
        obtain ⟨j, r, C, t, hjr, rfl, hat, hC, hod⟩ := hrel
        have HA := Lib.hid hat
        have HC := Lib.hid hC
        have HOD := Lib.hid hod
        clear hat hC hod H1
        by_cases hlt : j < k
        · obtain ⟨r, rfl⟩ : ∃ r', r = r' + 1 := ⟨r - 1, by omega⟩
          obtain ⟨rfl, hpts⟩ := HP.out (by omega)
          have hlt' : (j : Int) < (k : Int) := by omega
          have hc := (HA.out.b.cell (p := ⟨b, o + j, none⟩) (hpts.hlt j hlt)).trans (hpts.c j hlt)
          have HS := Lib.hid (hpts.src j hlt)
          have HBL := Lib.hid (hpts.hlt j hlt)
          have HCP := Lib.hid (hpts.cap j hlt)
          obtain ⟨v, hv⟩ : ∃ v, sn j = v := ⟨_, rfl⟩
          have hvl := HLS.out j hlt
          rw [hv] at hc HS HCP hvl
          obtain ⟨t', hs, hod'⟩ := HOD.out.send (x := R.mkm v (q j)) (by rw [R.mkm_len]; exact hvl) ((j : Int) + 9)
          have HTR := Lib.hid (send_at HA.out (HS.out.sb HA.out.b HA.out.q.bs HA.out.q.bp HA.out.q.bm) HCP.out.1 (by have := HC.out; omega) hs)
          have HOD' := Lib.hid hod'
          have hne : (((j : Int) + 1) != ((j : Int) + 1)) = false := by simp
          clear hpts hv hs hod'
          go_wp2_with fail
          refine HTR.out.mono ?_
          rintro e w2 ⟨rfl, ha2, _⟩
          have HA2 := Lib.hid ha2
          clear ha2 HTR hc
          go_wp2
          go_roundw
          case rel => exact ⟨j + 1, r, _, _, by omega, by go_num, HA2.out, by have := HC.out; omega, HOD'.out⟩
          case measure => first | omega | (simp [intOf]; omega)
        · obtain rfl : j = k := by omega
          obtain rfl : r = 0 := by omega
          have c0 := HA.out.q.c.ring
          have hS : t.S.length = 0 := by rw [HOD.out.s]; rfl
          have hR : t.R.length = 0 := by rw [HOD.out.r]; rfl
          have HG : Hid (t.G.length = 0) := Lib.hid (by rw [HOD.out.g]; rfl)
          go_wp2_with fail
          refine (senders_at HA.out hS).mono ?_
          rintro e w3 ⟨X, xk, rfl, _, hb3⟩
          have HA3 := Lib.hid (HA.out.below hb3)
          clear hb3
          go_wp2_with fail
          refine (receivers_at HA3.out hR).mono ?_
          rintro e w4 ⟨X4, xk4, rfl, _, hb4⟩
          have HA4 := Lib.hid (HA3.out.below hb4)
          have c1 := HA4.out.q.c.ring
          have HLen := Lib.hid (len_at HA4.out)
          rw [HG.out] at HLen
          clear hb4
          go_wp2_with fail
          refine HLen.out.mono ?_
          rintro e w5 ⟨rfl, rfl⟩
          go_wp2
          go_ret
          exact ⟨rfl, HA4.out.b⟩

set_option maxHeartbeats 4000000 in
set_option maxRecDepth 100000 in
theorem walkOut (A : Option Addr) (n cap : Nat) (a1 : Bool) (hn : n ≤ 9223372036854775807) (w : World) (h : 8 < n) :
    Calls Try.prog 5 #[.slice A n cap, .bool a1] w fun e w' => e = .returned (.bool true) ∧ Below w.heap.size w w' := by
  have t3 : decide ((8 : Int) < (n : Int)) = true := by simp; omega
  have t3' : decide (8 < n) = true := by simp; omega
  clear h
  go_enter Try.func5, Try.ntmps5
  go_wp2_with fail
  refine (known_any w).mono ?_
  rintro e w1 ⟨rfl, hb⟩
  go_wp2
  go_ret
  exact ⟨rfl, hb⟩

theorem walk (A : Option Addr) (n cap b o : Nat) (SA : Nat → Option Addr) (sn sk : Nat → Nat) (q : Nat → Nat → Int) (hl : n ≤ 9223372036854775807) (a1 : Bool) (w : World) (hP : 0 < n → A = some ⟨b, o, none⟩ ∧ Pts w b o n SA sn sk q) :
    Calls Try.prog 5 #[.slice A n cap, .bool a1] w fun e w' => e = .returned (.bool true) ∧ Below w.heap.size w w' := by
  by_cases h : 8 < n
  · exact walkOut A n cap a1 hl w h
  · cases a1 with
    | true => exact walkS A n cap b o SA sn sk q (by omega) w hP
    | false => exact walkR A n cap b o SA sn sk q (by omega) w hP

/-! ### the row's step -/
set_option maxRecDepth 100000 in
theorem lifted (os : Os) (started : os.Started) (H : Type) (enc : TypeId × Value → H) :
    ReturnsInHanded {} Try.checked os 5 .any (Rows.bufferHandsSpec.pre6 enc Try.prog Try.f5 Rows.bufferHandsRow.domain false) (Rows.bufferHandsSpec.post enc Try.prog Try.f5 false true false false) := by
  refine returnsInHanded_of_change (C := Try.checked) own started (by kernel_rfl) Try.func5
    (ChangeSpec.witness6 (enc := enc) (C := Try.checked) false ⟨#[], #[.slice none 0 0, .bool false], []⟩ 8 (by kernel_rfl) (by kernel_rfl) (by kernel_rfl) (by kernel_rfl)) ?_
  intro W base args ds gs before hval0 hW hcnd _
  have hval : ∀ (j : Nat) t v, Try.f5.params[j]? = some t → args[j]? = some v → Value.okWide Try.prog W .any base t v := hval0
  have hW' := hW
  obtain ⟨p, q, hA0, hV, rfl, hfz, hnd⟩ := hW
  have hA : DataW.TrodAll enc Try.prog W 0 (fun _ => true) true Try.f5.params.toList args.toList ds p := hA0
  rw [Try.params5] at hA hval
  obtain ⟨v0, vs0, d0, ds0, p0, q0, hargs, rfl, rfl, h0, r0⟩ := trodAll_cons hA
  obtain ⟨v1, vs1, d1, ds1, p1, q1, rfl, rfl, rfl, h1, r1⟩ := trodAll_cons r0
  obtain ⟨rfl, rfl, rfl⟩ := trodAll_nil r1
  obtain rfl : args = #[v0, v1] := by cases args; simp_all
  obtain ⟨rfl, rfl⟩ := trodVars_none hV
  obtain ⟨a0, len0, cap0, rfl⟩ := okWide_slice Try.underlying80 (hval 0 80 v0 rfl rfl)
  have k0 := h0
  have lt0 : ∀ x ∈ p0, x.block < W.heap.size := by obtain ⟨m, hm⟩ := k0; exact DataW.trod_lt m _ _ _ hm
  obtain ⟨A, n, cap, b, o, SA, sn, sk, q, hv, hl, hP⟩ : ∃ (A : Option Addr) (n cap b o : Nat) (SA : Nat → Option Addr) (sn sk : Nat → Nat) (q : Nat → Nat → Int), Value.slice a0 len0 cap0 = .slice A n cap ∧ n ≤ 9223372036854775807 ∧ (0 < n → A = some ⟨b, o, none⟩ ∧ Pts W b o n SA sn sk q) := by
    obtain ⟨fuel, hf⟩ := h0
    exact parts_open (v := .slice a0 len0 cap0) hf
  injection hv with e1 e2 e3
  subst e1 e2 e3
  obtain ⟨a1, rfl, rfl, rfl⟩ := open_bool Try.underlying4 (hval 1 4 v1 rfl rfl) h1
  clear hA0 hval0
  refine (walk a0 len0 cap0 b o SA sn sk q hl a1 W hP).mono fun e W' ⟨he, bel⟩ => ?_
  subst he
  exact ⟨_, rfl, _, _, _, [], _, [], hW', trodAll_mk1 (shut_bool Try.underlying4 _), (trodAll_cons_mk (Below.trod laidOut (by kernel_rfl) (of_decide_eq_true (by kernel_rfl)) k0 bel lt0) (trodAll_cons_mk (shut_bool Try.underlying4 a1) trodAll_mk0)), rfl, bel.frame _, fun h => by cases h⟩

theorem over : Rows.bufferHandsRow.holds Try.pinned (OpenSpec.ofChange Rows.bufferHandsSpec) :=
  OpenClaim.holds_of_wide 5 Try.f5 rfl rfl rfl rfl rfl rfl rfl ⟨rfl, rfl, rfl, rfl, rfl⟩ rfl rfl rfl rfl rfl (by kernel_rfl) Try.func5 (by kernel_rfl)
    (of_decide_eq_true (by kernel_rfl)) (by unfold Func.isWrapper; first | (rw [if_pos (by decide +kernel)]; kernel_rfl) | (rw [if_neg (by decide +kernel)]; exact ⟨rfl, rfl⟩))
    (fun os started H enc _ => lifted os started H enc)

theorem proved : Rows.BufferHandsSaid := over
#print axioms proved
end Go.Proofs.Ytneimdjgbblaoaa.bufferHands
namespace Go.Proofs.Ytneimdjgbblaoaa
theorem bufferHands_holds : Rows.BufferHandsSaid := bufferHands.proved
end Go.Proofs.Ytneimdjgbblaoaa
