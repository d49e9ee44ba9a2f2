/-
  PROVED: the Go function detentlaw6.RingFills returns true for every input, and each argument reads behind the call as it read before (Rows.RingFillsSaid). No condition.
-/
import Derived.Test.YtfmdkfjmfipkiaaRows
import Derived.Test.YtfmdkfjmfipkiaaConK
import Derived.WalkKit
import Derived.ProofKit
import Derived.OpenShut
import Derived.ShutString
import Derived.ChangeOld
import Derived.Below
namespace Go.Proofs.Ytfmdkfjmfipkiaa.ringFills
open Go.ChangeShapes Go.WideShapes Go.ChangeAt Go.RowKit
open Go.ChangeMaps (open_string shut_string)
set_option linter.unusedVariables false      -- a walk need not use every 'w<i>' (that an integer argument fits its kind)

theorem own : ownKnob Try.prog.godebug = none := by kernel_rfl

theorem tot_rep (x : List Int) (i : Nat) : tot (List.replicate i x) = i * occ x.length := by
  induction i with
  | zero => simp [tot]
  | succ i ih => rw [List.replicate_succ]; simp only [tot, ih, Nat.succ_mul]; omega
/-- the message of n noughts -/
abbrev zs (n : Nat) : List Int := mkm n (fun _ => 0)
theorem tot_zs (n i : Nat) : tot (List.replicate i (zs n)) = i * occ n := by rw [tot_rep, mkm_len]
theorem put_zs (p m N n i g : Nat) (c : Int) (w : World) (h : Rg w p m N c (List.replicate i (zs n))) (hr : Row w g n (fun _ => 0)) (gp : g ≠ p) (gm : g ≠ m) (hN : N ≤ 400) (hn : n ≤ 300) (hi : i * occ n + occ n ≤ N) (hc0 : 0 ≤ c) (hc1 : c ≤ 10000000000) :
    Calls Try.prog 10 #[.pointer (some ⟨p, 0, none⟩), .slice (some ⟨g, 0, none⟩) n n] w (PutYes p m N c (List.replicate (i + 1) (zs n)) w) := by
  have := put_yes p m N n n c _ (fun _ => 0) (some ⟨g, 0, none⟩) w h (Src.of_row hr gp gm 0 (by omega) (fun _ _ => rfl)) (Nat.le_refl _) (by omega) hc0 hc1 (by omega) (by rw [tot_zs]; omega)
  rw [List.replicate_succ']; exact this
theorem put_over (p m N n i g : Nat) (c : Int) (w : World) (h : Rg w p m N c (List.replicate i (zs n))) (hr : Row w g n (fun _ => 0)) (gp : g ≠ p) (gm : g ≠ m) (hN : N ≤ 400) (hi : N < i * occ n + occ n) (hc0 : 0 ≤ c) (hc1 : c ≤ 10000000000) :
    Calls Try.prog 10 #[.pointer (some ⟨p, 0, none⟩), .slice (some ⟨g, 0, none⟩) n n] w (PutNo p m N c (List.replicate i (zs n)) w) :=
  put_no p m N n n c _ (fun _ => 0) (some ⟨g, 0, none⟩) w h (Src.of_row hr gp gm 0 (by omega) (fun _ _ => rfl)) (Nat.le_refl _) (by omega) hc0 hc1 (.inr (by rw [tot_zs]; omega))
theorem len_rep {p m N n : Nat} {c : Int} {w : World} {x : List Int} (h : Rg w p m N c (List.replicate n x)) : Calls Try.prog 15 #[.pointer (some ⟨p, 0, none⟩)] w fun e w' => e = .returned (.int .i64 (n : Int)) ∧ w = w' := by
  have := glen_any h; rw [List.length_replicate] at this; exact this
theorem free_rep {p m N n i P : Nat} {c : Int} {w : World} (h : Rg w p m N c (List.replicate i (zs n))) (hN : N ≤ 400) (hP : i * occ n = P) : Calls Try.prog 16 #[.pointer (some ⟨p, 0, none⟩)] w fun e w' => e = .returned (.int .i64 ((N : Int) - (P : Int))) ∧ ∃ d, w' = w.drewN d := by
  have := gfree_any h (by omega); rw [tot_zs, hP] at this; exact this
theorem get_rep {p m N n i : Nat} {c : Int} {w : World} (h : Rg w p m N c (List.replicate (i + 1) (zs n))) (hN : N ≤ 400) (hc0 : 0 ≤ c) (hc1 : c ≤ 10000000000) :
    Calls Try.prog 12 #[.pointer (some ⟨p, 0, none⟩)] w fun e w' => ∃ (g k : Nat) (c' : Int), c ≤ c' ∧ c' ≤ c + 2000 ∧ e = .returned (.tuple #[.slice (some ⟨g, 0, none⟩) n k, .bool true]) ∧ Rg w' p m N c' (List.replicate i (zs n)) ∧ Only p m w w' := by
  rw [List.replicate_succ] at h
  refine (get_some p m N c (zs n) (List.replicate i (zs n)) w h (by omega) hc0 hc1).mono ?_
  rintro e w' ⟨g, k, c', h1, h2, _, _, _, h5, h3, _, h4⟩
  rw [mkm_len] at h5
  exact ⟨g, k, c', h1, h2, h5, h3, h4⟩
def R1 (p m N n g M : Nat) (w : World) (i : Value) (wr : World) : Prop :=
  ∃ (t : Nat) (c : Int), t ≤ M ∧ i = .int .i64 (t : Int) ∧ 0 ≤ c ∧ c ≤ 2000 * t ∧ Rg wr p m N c (List.replicate t (zs n)) ∧ Row wr g n (fun _ => 0) ∧ Below w.heap.size w wr
def R2 (p m N n g M T : Nat) (w : World) (i : Value) (wr : World) : Prop :=
  ∃ (t : Nat) (c : Int), t ≤ T ∧ i = .int .i64 (t : Int) ∧ 0 ≤ c ∧ c ≤ 1000000 + 6000 * t ∧ Rg wr p m N c (List.replicate M (zs n)) ∧ Row wr g n (fun _ => 0) ∧ Below w.heap.size w wr

set_option maxHeartbeats 3200000 in
theorem walkIn (N n T : Nat) (hN : N ≤ 400) (h4 : N % 4 = 0) (hn : n ≤ 300) (hT : T ≤ 30) (w : World) : Calls Try.prog 4 #[.int .i64 (N : Int), .int .i64 (n : Int), .int .i64 (T : Int)] w fun e w' => e = .returned (.bool true) ∧ Below w.heap.size w w' := by
  have s1 : decide ((N : Int) < 0) = false := by simp
  have s2 : decide ((n : Int) < 0) = false := by simp
  have s3 : decide ((T : Int) < 0) = false := by simp
  have t1 : decide ((400 : Int) < (N : Int)) = false := by simp; omega
  have t2 : ((N : Int) % 4 != 0) = false := by simp; omega
  have t2' : ((N : Int) % 4 == 0) = true := by simp; omega
  have t3 : decide ((300 : Int) < (n : Int)) = false := by simp; omega
  have t4 : decide ((30 : Int) < (T : Int)) = false := by simp; omega
  have H4 := Lib.hid h4
  clear h4
  obtain ⟨o, ho⟩ : ∃ o, occ n = o := ⟨_, rfl⟩
  have hol := occ_lo n
  have eo : 4 + ((n : Int) + 3) / 4 * 4 = (o : Int) := by rw [← ho]; unfold occ; omega
  rw [ho] at hol
  obtain ⟨M, hM⟩ : ∃ M, N / o = M := ⟨_, rfl⟩
  have eM : (N : Int) / (o : Int) = (M : Int) := by rw [← hM]; simp
  have o1 : (o : Int) ≠ 0 := by omega
  have o2 : ((o : Int) == 0) = false := by simpa using o1
  obtain ⟨P, hP⟩ : ∃ P, M * o = P := ⟨_, rfl⟩
  have eP : (M : Int) * (o : Int) = (P : Int) := by rw [← hP]; simp
  have hP1 : P ≤ N := by rw [← hP, ← hM]; exact Nat.div_mul_le_self _ _
  have hP2 : N < P + o := by rw [← hP, ← hM]; have := Nat.lt_div_mul_add (a := N) (b := o) (by omega); omega
  have hMl : M ≤ 400 := by rw [← hM]; exact Nat.le_trans (Nat.div_le_self _ _) hN
  have HT : Hid (∀ t, t < M → t * o + o ≤ P) := fun t ht => by
    have := Nat.mul_le_mul_right o (show t + 1 ≤ M by omega)
    rw [Nat.succ_mul] at this; omega
  have HOO := Lib.hid ho
  have HPP := Lib.hid hP
  have hmk := run_make_bytes n (by omega)
  clear ho hM hP
  go_enter Try.func4, Try.ntmps4
  go_wp2_with fail
  refine (known_any w).mono ?_
  rintro e w0 ⟨rfl, hb0⟩
  have HB0 := Lib.hid hb0
  clear hb0
  go_wp2_with fail
  refine (gnew_ok N (by omega) H4.out _ rfl w0).mono ?_
  rintro e w1 ⟨p, m, hp, hm, rfl, ha, hb⟩
  have hpw : w.heap.size ≤ p := Nat.le_trans HB0.out.size hp
  have hmw : w.heap.size ≤ m := Nat.le_trans HB0.out.size hm
  have HB1 := Lib.hid (HB0.out.trans (hb.mono HB0.out.size))
  have HA := Lib.hid ha
  have lp := ha.ltp
  have lm := ha.ltm
  clear ha hb HB0 s1 s2 s3 t1 t2 t2' t3 t4 hp hm
  go_wp2
  have HA1 := Lib.hid (HA.out.alloc (.cells (madeCells #[.int .u8 0] n) 5))
  have HR1 := Lib.hid (row_made w1 n)
  have HB2 := Lib.hid (HB1.out.alloc HB1.out.size (.cells (madeCells #[.int .u8 0] n) 5))
  have gp : w1.heap.size ≠ p := by omega
  have gm : w1.heap.size ≠ m := by omega
  clear HA HB1 hmk lp lm eo eM o1 o2
  generalize w1.alloc (.cells (madeCells #[.int .u8 0] n) 5) = w2 at *
  generalize w1.heap.size = g at *
  go_loopw [12] (fun i wr => R1 p m N n g M w i wr) (fun i _ => M - (intOf i).toNat)
  case atStart => exact ⟨0, 0, Nat.zero_le _, rfl, by omega, by omega, HA1.out, HR1.out, HB2.out⟩
  case round =>
    obtain ⟨t, c, ht, rfl, hc0, hc1, hr, hrow, hw⟩ := hrel
    have HR := Lib.hid hr
    have HROW := Lib.hid hrow
    have HW := Lib.hid hw
    clear hr hw hrow HA1 HR1 HB2
    by_cases hlt : t < M
    · go_wp2_with fail
      refine (put_zs p m N n t g c wr HR.out HROW.out gp gm hN hn (by rw [HOO.out]; have := HT.out t hlt; omega) hc0 (by omega)).mono ?_
      rintro e w3 ⟨c2, h1, h2, rfl, ha2, ho2⟩
      have HA2 := Lib.hid ha2
      have HW2 := Lib.hid (HW.out.trans (ho2.below HW.out.size hpw hmw))
      have HR2 := Lib.hid (HROW.out.only ho2 gp gm)
      clear ha2 ho2
      go_wp2
      go_roundw
      case rel => exact ⟨t + 1, c2, by omega, by go_num, by omega, by omega, HA2.out, HR2.out, HW2.out⟩
      case measure => simp [intOf] <;> omega
    · obtain rfl : t = M := by omega
      clear hlt
      go_wp2_with fail
      refine (put_over p m N n t g c wr HR.out HROW.out gp gm hN (by rw [HOO.out, HPP.out]; omega) hc0 (by omega)).mono ?_
      rintro e w3 ⟨c2, h1, h2, rfl, ha2, ho2⟩
      have HA2 := Lib.hid ha2
      have HW2 := Lib.hid (HW.out.trans (ho2.below HW.out.size hpw hmw))
      have HR2 := Lib.hid (HROW.out.only ho2 gp gm)
      clear ha2 ho2 HR HW HROW
      go_wp2_with fail
      refine (len_rep HA2.out).mono ?_
      rintro e w4 ⟨rfl, rfl⟩
      go_wp2_with fail
      refine (free_rep (P := P) HA2.out hN (by rw [HOO.out]; exact HPP.out)).mono ?_
      rintro e w4 ⟨rfl, d, rfl⟩
      have HA3 := Lib.hid (HA2.out.drewN d)
      have HR3 := Lib.hid (HR2.out.drewN d)
      have HW3 : Hid (Below w.heap.size w (w3.drewN d)) := ⟨HW2.out.os, HW2.out.tape, HW2.out.output, HW2.out.size, HW2.out.block⟩
      clear HA2 HW2 HR2
      generalize w3.drewN d = w4 at *
      go_wp2
      go_loopw [13] (fun i wr => R2 p m N n g t T w i wr) (fun i _ => T - (intOf i).toNat)
      case atStart => exact ⟨0, c2, Nat.zero_le _, rfl, by omega, by omega, HA3.out, HR3.out, HW3.out⟩
      case round =>
        obtain ⟨s, c3, hs, rfl, hc30, hc31, hr, hrow, hw⟩ := hrel
        have HW4 := Lib.hid hw
        have HROW4 := Lib.hid hrow
        clear hw hrow HA3 HW3 HR3
        by_cases hlt : s < T
        · by_cases hM0 : t = 0
          · have z0 : decide ((0 : Int) < (t : Int)) = false := by simp; omega
            have z1 : decide (0 < t) = false := by simp; omega
            clear hr hM0
            go_wp2
            go_ret
            exact ⟨rfl, HW4.out⟩
          · obtain ⟨u, hu⟩ : ∃ u, t = u + 1 := ⟨t - 1, by omega⟩
            have z0 : (0 : Int) < (t : Int) := by omega
            have z1 : 0 < t := by omega
            have HU := Lib.hid hu
            have hut : u < t := by omega
            rw [hu] at hr
            have HR := Lib.hid hr
            clear hr hu hM0
            go_wp2_with fail
            refine (get_rep HR.out hN hc30 (by omega)).mono ?_
            rintro e w5 ⟨g5, k5, c5, h51, h52, rfl, ha5, ho5⟩
            have HA5 := Lib.hid ha5
            have HW5 := Lib.hid (HW4.out.trans (ho5.below HW4.out.size hpw hmw))
            have HR5 := Lib.hid (HROW4.out.only ho5 gp gm)
            clear ha5 ho5 HR HROW4 HW4
            go_wp2_with fail
            refine (put_zs p m N n u g c5 w5 HA5.out HR5.out gp gm hN hn (by rw [HOO.out]; have := HT.out u hut; omega) (by omega) (by omega)).mono ?_
            rintro e w6 ⟨c6, h61, h62, rfl, ha6, ho6⟩
            rw [← HU.out] at ha6
            have HA6 := Lib.hid ha6
            have HW6 := Lib.hid (HW5.out.trans (ho6.below HW5.out.size hpw hmw))
            have HR6 := Lib.hid (HR5.out.only ho6 gp gm)
            clear ha6 ho6 HA5 HW5 HR5
            go_wp2_with fail
            refine (put_over p m N n t g c6 w6 HA6.out HR6.out gp gm hN (by rw [HOO.out, HPP.out]; omega) (by omega) (by omega)).mono ?_
            rintro e w7 ⟨c7, h71, h72, rfl, ha7, ho7⟩
            have HA7 := Lib.hid ha7
            have HW7 := Lib.hid (HW6.out.trans (ho7.below HW6.out.size hpw hmw))
            have HR7 := Lib.hid (HR6.out.only ho7 gp gm)
            clear ha7 ho7 HA6 HW6 HR6
            go_wp2
            go_roundw
            case rel => exact ⟨s + 1, c7, by omega, by go_num, by omega, by omega, HA7.out, HR7.out, HW7.out⟩
            case measure => simp [intOf]; omega
        · have z0 : decide ((s : Int) < (T : Int)) = false := by simp; omega
          have z1 : decide (s < T) = false := by simp; omega
          clear hr hlt
          go_wp2
          go_ret
          exact ⟨rfl, HW4.out⟩

set_option maxHeartbeats 3200000 in
theorem walkOut (a b c : Int) (w : World) (h : a < 0 ∨ 400 < a ∨ a.tmod 4 ≠ 0 ∨ b < 0 ∨ 300 < b ∨ c < 0 ∨ 30 < c) : Calls Try.prog 4 #[.int .i64 a, .int .i64 b, .int .i64 c] w fun e w' => e = .returned (.bool true) ∧ Below w.heap.size w w' := by
  by_cases h0 : a < 0
  · have k0 : decide (a < 0) = true := by simpa using h0
    clear h
    clear h0
    go_enter Try.func4, Try.ntmps4
    go_wp2_with fail
    refine (known_any w).mono ?_
    rintro e w0 ⟨rfl, hb0⟩
    go_wp2
    go_ret
    exact ⟨rfl, hb0⟩
  have k0 : decide (a < 0) = false := by simpa using h0
  by_cases h1 : 400 < a
  · have k1 : decide (400 < a) = true := by simpa using h1
    clear h
    clear h1
    go_enter Try.func4, Try.ntmps4
    go_wp2_with fail
    refine (known_any w).mono ?_
    rintro e w0 ⟨rfl, hb0⟩
    go_wp2
    go_ret
    exact ⟨rfl, hb0⟩
  have k1 : decide (400 < a) = false := by simpa using h1
  by_cases h2 : a.tmod 4 ≠ 0
  · have k2 : (a.tmod 4 != 0) = true := by simpa using h2
    have k2a : (a % 4 != 0) = true := by simp; exact fun h => h2 ((tmod4 a).2 h)
    have k2b : (a.tmod 4 == 0) = false := by simpa using h2
    have k2c : (a % 4 == 0) = false := by simp; exact fun h => h2 ((tmod4 a).2 h)
    clear h
    clear h2
    go_enter Try.func4, Try.ntmps4
    go_wp2_with fail
    refine (known_any w).mono ?_
    rintro e w0 ⟨rfl, hb0⟩
    go_wp2
    go_ret
    exact ⟨rfl, hb0⟩
  have g2 : a.tmod 4 = 0 := by omega
  have k2 : (a.tmod 4 != 0) = false := by simpa using g2
  have k2a : (a % 4 != 0) = false := by simp; exact (tmod4 a).1 g2
  have k2b : (a.tmod 4 == 0) = true := by simpa using g2
  have k2c : (a % 4 == 0) = true := by simp; exact (tmod4 a).1 g2
  clear g2
  by_cases h3 : b < 0
  · have k3 : decide (b < 0) = true := by simpa using h3
    clear h
    clear h3
    go_enter Try.func4, Try.ntmps4
    go_wp2_with fail
    refine (known_any w).mono ?_
    rintro e w0 ⟨rfl, hb0⟩
    go_wp2
    go_ret
    exact ⟨rfl, hb0⟩
  have k3 : decide (b < 0) = false := by simpa using h3
  by_cases h4 : 300 < b
  · have k4 : decide (300 < b) = true := by simpa using h4
    clear h
    clear h4
    go_enter Try.func4, Try.ntmps4
    go_wp2_with fail
    refine (known_any w).mono ?_
    rintro e w0 ⟨rfl, hb0⟩
    go_wp2
    go_ret
    exact ⟨rfl, hb0⟩
  have k4 : decide (300 < b) = false := by simpa using h4
  by_cases h5 : c < 0
  · have k5 : decide (c < 0) = true := by simpa using h5
    clear h
    clear h5
    go_enter Try.func4, Try.ntmps4
    go_wp2_with fail
    refine (known_any w).mono ?_
    rintro e w0 ⟨rfl, hb0⟩
    go_wp2
    go_ret
    exact ⟨rfl, hb0⟩
  have k5 : decide (c < 0) = false := by simpa using h5
  have h6 : 30 < c := by omega
  have k6 : decide (30 < c) = true := by simpa using h6
  clear h
  clear h6
  go_enter Try.func4, Try.ntmps4
  go_wp2_with fail
  refine (known_any w).mono ?_
  rintro e w0 ⟨rfl, hb0⟩
  go_wp2
  go_ret
  exact ⟨rfl, hb0⟩

/-! ### the walk -/
theorem walk (a0 : Int) (a1 : Int) (a2 : Int) (w0 : (Lit.int .i64 a0).wf = true) (w1 : (Lit.int .i64 a1).wf = true) (w2 : (Lit.int .i64 a2).wf = true) (w : World) :
    Calls Try.prog 4 #[.int .i64 a0, .int .i64 a1, .int .i64 a2] w fun e w' => e = .returned (.bool true) ∧ Below w.heap.size w w' := by
  by_cases h : a0 < 0 ∨ 400 < a0 ∨ a0.tmod 4 ≠ 0 ∨ a1 < 0 ∨ 300 < a1 ∨ a2 < 0 ∨ 30 < a2
  · exact walkOut a0 a1 a2 w h
  · have hm : a0.tmod 4 = 0 := by omega
    rw [tmod4] at hm
    obtain ⟨N, rfl⟩ : ∃ n : Nat, a0 = n := ⟨a0.toNat, by omega⟩
    obtain ⟨n, rfl⟩ : ∃ n : Nat, a1 = n := ⟨a1.toNat, by omega⟩
    obtain ⟨T, rfl⟩ : ∃ n : Nat, a2 = n := ⟨a2.toNat, by omega⟩
    exact walkIn N n T (by omega) (by omega) (by omega) (by omega) w

/-! ### THE ROW's STEP: WRITTEN OUT: LEAVE IT -/
set_option maxRecDepth 100000 in
theorem lifted (os : Os) (started : os.Started) (H : Type) (enc : TypeId × Value → H) :
    ReturnsInHanded {} Try.checked os 4 .any (Rows.ringFillsSpec.pre6 enc Try.prog Try.f4 Rows.ringFillsRow.domain false) (Rows.ringFillsSpec.post enc Try.prog Try.f4 false true false false) := by
  refine returnsInHanded_of_change (C := Try.checked) own started (by kernel_rfl) Try.func4
    (ChangeSpec.witness6 (enc := enc) (C := Try.checked) false ⟨#[], #[.int .i64 0, .int .i64 0, .int .i64 0], []⟩ 8 (by kernel_rfl) (by kernel_rfl) (by kernel_rfl) (by kernel_rfl)) ?_
  intro W base args ds gs before hval0 hW hcnd _
  have hval : ∀ (j : Nat) t v, Try.f4.params[j]? = some t → args[j]? = some v → Value.okWide Try.prog W .any base t v := hval0
  have hW' := hW
  obtain ⟨p, q, hA0, hV, rfl, hfz, hnd⟩ := hW
  have hA : DataW.TrodAll enc Try.prog W 0 (fun _ => true) true Try.f4.params.toList args.toList ds p := hA0
  rw [Try.params4] at hA hval
  obtain ⟨v0, vs0, d0, ds0, p0, q0, hargs, rfl, rfl, h0, r0⟩ := trodAll_cons hA
  obtain ⟨v1, vs1, d1, ds1, p1, q1, rfl, rfl, rfl, h1, r1⟩ := trodAll_cons r0
  obtain ⟨v2, vs2, d2, ds2, p2, q2, rfl, rfl, rfl, h2, r2⟩ := trodAll_cons r1
  obtain ⟨rfl, rfl, rfl⟩ := trodAll_nil r2
  obtain rfl : args = #[v0, v1, v2] := by cases args; simp_all
  obtain ⟨rfl, rfl⟩ := trodVars_none hV
  obtain ⟨a0, rfl, rfl, rfl, w0⟩ := open_int Try.underlying3 (hval 0 3 v0 rfl rfl) h0
  obtain ⟨a1, rfl, rfl, rfl, w1⟩ := open_int Try.underlying3 (hval 1 3 v1 rfl rfl) h1
  obtain ⟨a2, rfl, rfl, rfl, w2⟩ := open_int Try.underlying3 (hval 2 3 v2 rfl rfl) h2
  clear hA0 hval0
  simp only [List.append_nil] at hW'
  refine (walk a0 a1 a2 w0 w1 w2 W).mono fun e W' ⟨he, hg⟩ => ?_
  subst he
  exact ⟨_, rfl, _, _, _, [], [], [], hW', (trodAll_cons_mk (shut_bool Try.underlying4 _) trodAll_mk0), (trodAll_cons_mk (shut_int Try.underlying3 w0) (trodAll_cons_mk (shut_int Try.underlying3 w1) (trodAll_cons_mk (shut_int Try.underlying3 w2) trodAll_mk0))), rfl, hg.frame _, fun h => by cases h⟩

theorem over : Rows.ringFillsRow.holds Try.pinned (OpenSpec.ofChange Rows.ringFillsSpec) :=
  OpenClaim.holds_of_wide 4 Try.f4 rfl rfl rfl rfl rfl rfl rfl ⟨rfl, rfl, rfl, rfl, rfl⟩ rfl rfl rfl rfl rfl (by kernel_rfl) Try.func4 (by kernel_rfl)
    (of_decide_eq_true (by kernel_rfl)) (by unfold Func.isWrapper; first | (rw [if_pos (by decide +kernel)]; kernel_rfl) | (rw [if_neg (by decide +kernel)]; exact ⟨rfl, rfl⟩))
    (fun os started H enc _ => lifted os started H enc)

/-- ████ THE STATEMENT ████ -/
theorem proved : Rows.RingFillsSaid :=
  over
#print axioms proved
end Go.Proofs.Ytfmdkfjmfipkiaa.ringFills
namespace Go.Proofs.Ytfmdkfjmfipkiaa
theorem ringFills_holds : Rows.RingFillsSaid := ringFills.proved
end Go.Proofs.Ytfmdkfjmfipkiaa
