/-
  PROVED: the Go function detentlaw8.ClockSets returns true for every input, and each argument reads behind the call as it read before (Rows.ClockSetsSaid). No condition.
-/
import Derived.Test.YtpnhpgdidineaaaRows
import Derived.Test.YtpnhpgdidineaaaCkP
import Derived.WalkKit
import Derived.ProofKit
import Derived.OpenShut
import Derived.ShutString
import Derived.ChangeOld
import Derived.Below
namespace Go.Proofs.Ytpnhpgdidineaaa.clockSets
open Go.ChangeShapes Go.WideShapes Go.ChangeAt Go.RowKit
open Go.ChangeMaps (open_string shut_string)
set_option linter.unusedVariables false

theorem own : ownKnob Try.prog.godebug = none := by kernel_rfl
theorem laidOut : laidOutB Try.prog = true := by kernel_rfl

/-- WHAT THE WALK IS TOLD OF A SLICE OF INTEGERS THAT CAME IN: it is nil; or it leads to a row of 'cap' cells, the numbers 'zs' (the first 'len' are its elements, the rest its spare room), each fitting its kind. -/
def IsRow (k : IntKind) (w : World) (a : Option Addr) (len cap : Nat) (zs : List Int) : Prop :=
  (a = none ∧ len = 0 ∧ cap = 0 ∧ zs = []) ∨
  ∃ x, a = some x ∧ len ≤ cap ∧ cap ≤ maxLen ∧ zs.length = cap ∧ (∀ i, i < zs.length → w.cell? (x.add i) = some (.int k (zs.getD i 0))) ∧ ∀ n ∈ zs, (Lit.int k n).wf = true

/-- nothing in S is later than the last that was set, and all of it is to come -/
def Later (tic up : Int) (S : List En) : Prop := ∀ x, x ∈ S → x.1 ≤ 255 + tic ∧ (0 < up → up < x.1)
theorem later_fil {q : Nat → Int} {n : Nat} {tic : Int} (hq : ∀ i, i < n → q i ≤ 255) : Later tic 0 (fil (fun i => q i + tic) n) := by
  intro x hx
  obtain ⟨i, hi, rfl⟩ := (fil_mem _ n x).1 hx
  have := hq i hi
  exact ⟨by show q i + tic ≤ 255 + tic; omega, fun h => by omega⟩
theorem later_rst {tic up : Int} {S : List En} (hs : S.Pairwise lt) (h : Later tic up S) (u1 : Int) : Later tic u1 (rst S u1) := by
  intro x hx
  have h1 := h x (rst_sub _ _ x hx)
  rw [rst_filter hs, List.mem_filter] at hx
  exact ⟨h1.1, fun _ => by simpa using hx.2⟩
theorem later_end {tic up : Int} {S : List En} (h : Later tic up S) (h1 : 1 ≤ tic) (hu : up = 300 * tic) : S = [] := by
  cases S with
  | nil => rfl
  | cons s S =>
    have := h s (List.mem_cons_self ..)
    have h2 := this.2 (by omega)
    omega

set_option maxHeartbeats 1600000 in
theorem walkOut (tic : Int) (A : Option Addr) (n cap : Nat) (A2 : Option Addr) (m cap2 : Nat) (w : World) (hn : n ≤ 9223372036854775807) (hm : m ≤ 9223372036854775807) (h : tic < 1 ∨ 100 < tic ∨ 40 < n ∨ 40 < m) :
    Calls Try.prog 6 #[.int .i64 tic, .slice A n cap, .slice A2 m cap2] w fun e w' => e = .returned (.bool true) ∧ Below w.heap.size w w' := by
  by_cases h0 : tic < 1
  · clear h
    go_enter Try.func6, Try.ntmps6
    go_wp2_with fail
    refine (known_any w).mono ?_
    rintro e w0 ⟨rfl, hb0⟩
    go_wp2
    go_ret
    exact ⟨rfl, hb0⟩
  by_cases h1 : 100 < tic
  · clear h
    go_enter Try.func6, Try.ntmps6
    go_wp2_with fail
    refine (known_any w).mono ?_
    rintro e w0 ⟨rfl, hb0⟩
    go_wp2
    go_ret
    exact ⟨rfl, hb0⟩
  by_cases h2 : 40 < n
  · have h7 : decide ((40 : Int) < (n : Int)) = true := by simp; omega
    clear h
    go_enter Try.func6, Try.ntmps6
    go_wp2_with fail
    refine (known_any w).mono ?_
    rintro e w0 ⟨rfl, hb0⟩
    go_wp2
    go_ret
    exact ⟨rfl, hb0⟩
  · have h6 : 40 < m := by omega
    have h7 : decide ((40 : Int) < (m : Int)) = true := by simp; omega
    have h8 : decide ((40 : Int) < (n : Int)) = false := by simp; omega
    have h8' : decide (40 < n) = false := by simp; omega
    clear h
    go_enter Try.func6, Try.ntmps6
    go_wp2_with fail
    refine (known_any w).mono ?_
    rintro e w0 ⟨rfl, hb0⟩
    go_wp2
    go_ret
    exact ⟨rfl, hb0⟩

set_option maxRecDepth 100000 in
set_option maxHeartbeats 6400000 in
theorem walkIn (tic : Int) (A : Option Addr) (n cap : Nat) (A2 : Option Addr) (m cap2 : Nat) (q q2 : Nat → Int) (w : World) (hA : Inp .u8 w A n q) (hA2 : Inp .u64 w A2 m q2) (h1 : 1 ≤ tic) (h2 : tic ≤ 100) (hn : n ≤ 40) (hm : m ≤ 40) :
    Calls Try.prog 6 #[.int .i64 tic, .slice A n cap, .slice A2 m cap2] w fun e w' => e = .returned (.bool true) ∧ Below w.heap.size w w' := by
  have HA := Lib.hid hA
  have HA2 := Lib.hid hA2
  have t1 : decide (tic < 1) = false := by simp; omega
  have t2 : decide (100 < tic) = false := by simp; omega
  have t3 : decide ((40 : Int) < (n : Int)) = false := by simp; omega
  have t4 : decide ((40 : Int) < (m : Int)) = false := by simp; omega
  have t3' : decide (40 < n) = false := by simp; omega
  have t4' : decide (40 < m) = false := by simp; omega
  clear hA hA2
  go_enter Try.func6, Try.ntmps6
  go_wp2_with fail
  refine (known_any w).mono ?_
  rintro e w0 ⟨rfl, hb0⟩
  have HB0 := Lib.hid hb0
  clear hb0
  go_wp2_with fail
  refine (newclock_ok w0 w.heap.size HB0.out.size tic h1 (by omega)).mono ?_
  rintro e w1 ⟨c, p, rfl, hk, hb1, hc1, hp1⟩
  have HB1 := Lib.hid (HB0.out.trans (hb1.mono HB0.out.size))
  have HK := Lib.hid hk
  clear hk hb1 hc1 hp1 HB0
  go_wp2_with fail
  refine (newclock_ok w1 w.heap.size HB1.out.size tic h1 (by omega)).mono ?_
  rintro e w2 ⟨d, r, rfl, hk, hb2, hd2, hr2⟩
  have HT : Hid (Tw w w2 c p p d r r tic 0 0 0 [] 0) := by
    have k1 := HK.out.lt
    have k2 := HK.out.tm.ltp
    exact ⟨HK.out.below hb2, hk, ⟨by omega, by omega, by omega, by omega, by omega, by omega, by omega, by omega, by omega⟩, HB1.out.trans (hb2.mono HB1.out.size)⟩
  clear hk hb2 hd2 hr2 HB1 HK t1 t2 t3 t4 t3' t4'
  go_wp2
  go_loopw [11] (fun i wr => ∃ t g h : Nat, t ≤ n ∧ i = .int .i64 (t : Int) ∧ Hid (Tw w wr c p g d r h tic 0 0 0 (fil (fun i => q i + tic) t) (t : Int))) (fun i _ => n - (intOf i).toNat)
  case atStart => exact ⟨0, p, r, by omega, rfl, HT.out⟩
  case round =>
    clear HT
    obtain ⟨t, g, h, ht, rfl, hT⟩ := hrel
    by_cases hlt : t < n
    · have i1 : (t : Int) < (n : Int) := by omega
      obtain ⟨b, o, rfl, hb, hc⟩ := HA.out (by omega)
      have d1 := (hT.out.bel.cell (p := ⟨b, o + t, none⟩) hb).trans ((hc t hlt).1)
      have hbd := bounds_u8 (hc t hlt).2
      obtain ⟨x, hx⟩ : ∃ x, q t = x := ⟨_, rfl⟩
      have HD0 : Hid (w.cell? ⟨b, o + t, none⟩ = some (.int .u8 x)) := by rw [← hx]; exact Lib.hid (hc t hlt).1
      rw [hx] at d1 hbd
      have hS : ins (x + tic, (t : Int) + 1, (t : Int)) (fil (fun i => q i + tic) t) = fil (fun i => q i + tic) (t + 1) := by rw [← hx]; rfl
      have HS := Lib.hid hS
      have cx : IntKind.i64.wrap x = x := IntWalk.i64_in _ (by omega)
      have hlen : (fil (fun i => q i + tic) t).length < 256 := by rw [fil_len]; omega
      have HLE := Lib.hid hlen
      have HBX := Lib.hid hbd
      have HHB := Lib.hid hb
      clear hx hS hc hlen hbd
      go_wp2_with fail
      refine (after_left w wr c p g d r h tic 0 0 0 _ _ hT.out x (t : Int) (by have := HBX.out; omega) (by have := HBX.out; omega) (by decide) HLE.out (by omega) (x + tic) ((t : Int) + 1) (by omega) rfl _ HS.out).mono ?_
      rintro e w3 ⟨rfl, g3, ka, kb, hap, hb3⟩
      have d1 := (hb3.cell (p := ⟨b, o + t, none⟩) HHB.out).trans HD0.out
      have HKA := Lib.hid ka
      have HKB := Lib.hid kb
      have HAP := Lib.hid hap
      have HB3 := Lib.hid hb3
      clear ka kb hap hb3 hT
      go_wp2_with fail
      refine (after_right w w3 c p g3 d r h tic 0 0 0 _ _ _ _ HKA.out HKB.out HAP.out HB3.out x (t : Int) (by have := HBX.out; omega) (by have := HBX.out; omega) (by decide) HLE.out (by omega) (x + tic) ((t : Int) + 1) (by omega) rfl _ HS.out rfl rfl).mono ?_
      rintro e w4 ⟨rfl, h4, ht4⟩
      have HT4 := Lib.hid ht4
      clear ht4 HKA HKB HAP HB3 d1
      go_wp2
      go_roundw
      case rel => exact ⟨t + 1, g3, h4, by omega, by go_num, HT4.out⟩
      case measure => simp [intOf]; omega
    · have i1 : decide ((t : Int) < (n : Int)) = false := by simp; omega
      have etn : t = n := by omega
      have HT0 : Hid (Tw w wr c p g d r h tic 0 0 0 (fil (fun i => q i + tic) n) (n : Int)) := by have := hT.out; rw [etn] at this; exact this
      have hqb : ∀ i, i < n → q i ≤ 255 := fun i hi => by
        obtain ⟨b, o, _, _, hc⟩ := HA.out (by omega)
        exact (bounds_u8 (hc i hi).2).2
      have HL0 : Hid (Later tic 0 (fil (fun i => q i + tic) n)) := later_fil hqb
      clear hT etn hqb
      go_wp2
      go_loopw [12] (fun i wr => ∃ t : Nat, t ≤ 300 ∧ i = .int .i64 (t : Int) ∧ Hid (∃ (U v v' : Int) (S : List En), U = (t : Int) * tic ∧ 0 ≤ U ∧ U ≤ 100 * (t : Int) ∧ Later tic U S ∧ Tw w wr c p g d r h tic U v v' S (n : Int))) (fun i _ => 300 - (intOf i).toNat)
      case atStart => exact ⟨0, by omega, rfl, ⟨0, 0, 0, _, by simp, by omega, by omega, HL0.out, HT0.out⟩⟩
      case round =>
        clear HL0 HT0 i1 hlt ht
        obtain ⟨t, ht, rfl, hH⟩ := hrel
        obtain ⟨U, v, v', S, hU, hU0, hU1, hla, htw⟩ := hH.out
        by_cases hlt : t < 300
        · have i1 : (t : Int) < 300 := by omega
          have hub : U ≤ 4611686018427387904 := by omega
          obtain ⟨U1, hU1e⟩ : ∃ U1, U + tic = U1 := ⟨_, rfl⟩
          have HU1 := Lib.hid hU1e
          have hsum : U1 = ((t : Int) + 1) * tic := by rw [Int.add_mul, Int.one_mul, ← hU, hU1e]
          have HUB : Hid (U1 = ((t + 1 : Nat) : Int) * tic ∧ 0 ≤ U1 ∧ U1 ≤ 100 * ((t + 1 : Nat) : Int)) := ⟨by rw [hsum]; simp, by omega, by omega⟩
          obtain ⟨D, hD⟩ : ∃ D, due S U1 = D := ⟨_, rfl⟩
          obtain ⟨nn, hnn⟩ : ∃ nn, D.length = nn := ⟨_, rfl⟩
          obtain ⟨S1, hS1⟩ : ∃ S1, rst S U1 = S1 := ⟨_, rfl⟩
          have HD := Lib.hid hD
          have HNN := Lib.hid hnn
          have HS1 := Lib.hid hS1
          have hnb : nn ≤ 256 := by
            have e1 := due_len S U1
            have e2 := htw.a.tm.good.len
            rw [hD, hnn] at e1
            omega
          have HLA : Hid (Later tic U1 S1) := by rw [← hS1]; exact later_rst htw.a.tm.good.srt hla U1
          clear hU hU0 hU1 hla hU1e hsum hD hnn hS1 hH
          by_cases hkm : t < m
          · obtain ⟨b, o, rfl, hb, hc⟩ := HA2.out (by omega)
            have d1 := (htw.bel.cell (p := ⟨b, o + t, none⟩) hb).trans ((hc t hkm).1)
            have hbd := bounds_u64 (hc t hkm).2
            obtain ⟨x, hx⟩ : ∃ x, q2 t = x := ⟨_, rfl⟩
            have HD0 : Hid (w.cell? ⟨b, o + t, none⟩ = some (.int .u64 x)) := by rw [← hx]; exact Lib.hid (hc t hkm).1
            rw [hx] at d1 hbd
            have i2 : (t : Int) < (m : Int) := by omega
            obtain ⟨xr, hxr⟩ : ∃ xr, x % 281474976710656 = xr := ⟨_, rfl⟩
            have e0 : x.tmod 281474976710656 = xr := by rw [Int.tmod_eq_emod_of_nonneg hbd.1]; exact hxr
            have HSE := Lib.hid (set_right w wr c p g d r h tic U v v' S (n : Int) htw x xr hbd.1 hxr)
            have HHB := Lib.hid hb
            clear hx hc hbd htw hxr hb
            go_wp2_with fail
            refine HSE.out.mono ?_
            rintro e w5 ⟨rfl, ht5⟩
            have d1 := (ht5.bel.cell (p := ⟨b, o + t, none⟩) HHB.out).trans HD0.out
            have HT5 := Lib.hid ht5
            have HNW : Hid (∀ d9, Calls Try.prog 21 #[.pointer (some ⟨d, 0, none⟩)] (w5.drewN d9) fun e w' => e = .returned (.int .u64 xr) ∧ w5.drewN d9 = w') := fun d9 => now_any (w5.drewN d9) w.heap.size d r h tic U xr S (n : Int) (HT5.out.b.drewN d9)
            clear ht5 HSE HHB HD0
            go_wp2_with fail
            go_big_quiet ((go_at_call 21; exact Calls.quiet_of_same (csym (HNW.out _))))
            have HT : Hid (Tw w (w5.drewN nq) c p g d r h tic U v xr S (n : Int)) := HT5.out.drewN nq
            clear HT5 HNW d1 e0
            generalize w5.drewN nq = w55 at *
            go_wp2_with fail
            refine (tick_left w w55 c p g d r h tic U v xr S (n : Int) HT.out hub U1 HU1.out nn D S1 HD.out HNN.out HS1.out).mono ?_
            rintro e w6 ⟨X, kx, rfl, hx, v1, ka, kb, hb6⟩
            have HX := Lib.hid hx
            have HKA := Lib.hid ka
            have HKB := Lib.hid kb
            have HB6 := Lib.hid hb6
            clear hx ka kb hb6
            go_wp2_with fail
            refine (tick_right w w6 c p g d r h tic U U1 v1 xr S S1 (n : Int) HKA.out HKB.out HT.out.ap HB6.out hub HU1.out nn D S1 HD.out HNN.out HS1.out rfl X kx HX.out).mono ?_
            rintro e w7 ⟨Y, ky, rfl, hx, hy, v2, ht7⟩
            have HX7 := Lib.hid hx
            have HY7 := Lib.hid hy
            have HT7 := Lib.hid ht7
            clear hx hy ht7 HX HKA HKB HB6 HT
            go_wp2
            go_loopw [15] (fun kv wr => ∃ s : Nat, s ≤ nn ∧ kv = .int .i64 (s : Int) ∧ Hid (∃ dr, wr = w7.drewN dr)) (fun kv _ => nn - (intOf kv).toNat)
            case atStart => exact ⟨0, by omega, rfl, ⟨0, rfl⟩⟩
            case round =>
              obtain ⟨s, hs, rfl, hDR⟩ := hrel
              by_cases hls : s < nn
              · have i5 : (s : Int) < (nn : Int) := by omega
                obtain ⟨bx, rfl, hbx, hkx, hcx⟩ := own_int HX7.out (by rw [args_len, HNN.out]) (by omega)
                obtain ⟨by_, rfl, hby, hky, hcy⟩ := own_int HY7.out (by rw [args_len, HNN.out]) (by omega)
                obtain ⟨y, hy⟩ : ∃ y, (args D)[s]? = some y := ⟨_, List.getElem?_eq_getElem (by rw [args_len, HNN.out]; exact hls)⟩
                obtain ⟨dr, hdr⟩ := hDR.out
                have e1 : wr.cell? ⟨bx, s, none⟩ = some (.int .i64 y) := by rw [hdr]; exact hcx s _ hy
                have e2 : wr.cell? ⟨by_, s, none⟩ = some (.int .i64 y) := by rw [hdr]; exact hcy s _ hy
                have hDR2 : Hid (∃ dr, wr = w7.drewN dr) := ⟨dr, hdr⟩
                clear hcx hcy hy hdr hDR hbx hby hkx hky
                go_wp2
                go_big_quiet (fail)
                go_wp2
                go_roundw
                case rel =>
                  obtain ⟨d9, e9⟩ := hDR2.out
                  exact ⟨s + 1, by omega, by go_num, ⟨d9 + nq, by rw [e9]; simp [World.drewN, Nat.add_assoc]⟩⟩
                case measure => simp [intOf]; omega
              · have i5 : decide ((s : Int) < (nn : Int)) = false := by simp; omega
                go_wp2
                go_roundw
                case rel =>
                  obtain ⟨d9, e9⟩ := hDR.out
                  exact ⟨t + 1, by omega, by go_num, ⟨U1, _, _, S1, HUB.out.1, HUB.out.2.1, HUB.out.2.2, HLA.out, by rw [e9]; exact HT7.out.drewN d9⟩⟩
                case measure => simp [intOf]; omega
          · have i2 : decide ((t : Int) < (m : Int)) = false := by simp; omega
            have HT := Lib.hid htw
            clear htw
            go_wp2_with fail
            refine (tick_left w wr c p g d r h tic U v v' S (n : Int) HT.out hub U1 HU1.out nn D S1 HD.out HNN.out HS1.out).mono ?_
            rintro e w6 ⟨X, kx, rfl, hx, v1, ka, kb, hb6⟩
            have HX := Lib.hid hx
            have HKA := Lib.hid ka
            have HKB := Lib.hid kb
            have HB6 := Lib.hid hb6
            clear hx ka kb hb6
            go_wp2_with fail
            refine (tick_right w w6 c p g d r h tic U U1 v1 v' S S1 (n : Int) HKA.out HKB.out HT.out.ap HB6.out hub HU1.out nn D S1 HD.out HNN.out HS1.out rfl X kx HX.out).mono ?_
            rintro e w7 ⟨Y, ky, rfl, hx, hy, v2, ht7⟩
            have HX7 := Lib.hid hx
            have HY7 := Lib.hid hy
            have HT7 := Lib.hid ht7
            clear hx hy ht7 HX HKA HKB HB6 HT
            go_wp2
            go_loopw [15] (fun kv wr => ∃ s : Nat, s ≤ nn ∧ kv = .int .i64 (s : Int) ∧ Hid (∃ dr, wr = w7.drewN dr)) (fun kv _ => nn - (intOf kv).toNat)
            case atStart => exact ⟨0, by omega, rfl, ⟨0, rfl⟩⟩
            case round =>
              obtain ⟨s, hs, rfl, hDR⟩ := hrel
              by_cases hls : s < nn
              · have i5 : (s : Int) < (nn : Int) := by omega
                obtain ⟨bx, rfl, hbx, hkx, hcx⟩ := own_int HX7.out (by rw [args_len, HNN.out]) (by omega)
                obtain ⟨by_, rfl, hby, hky, hcy⟩ := own_int HY7.out (by rw [args_len, HNN.out]) (by omega)
                obtain ⟨y, hy⟩ : ∃ y, (args D)[s]? = some y := ⟨_, List.getElem?_eq_getElem (by rw [args_len, HNN.out]; exact hls)⟩
                obtain ⟨dr, hdr⟩ := hDR.out
                have e1 : wr.cell? ⟨bx, s, none⟩ = some (.int .i64 y) := by rw [hdr]; exact hcx s _ hy
                have e2 : wr.cell? ⟨by_, s, none⟩ = some (.int .i64 y) := by rw [hdr]; exact hcy s _ hy
                have hDR2 : Hid (∃ dr, wr = w7.drewN dr) := ⟨dr, hdr⟩
                clear hcx hcy hy hdr hDR hbx hby hkx hky
                go_wp2
                go_big_quiet (fail)
                go_wp2
                go_roundw
                case rel =>
                  obtain ⟨d9, e9⟩ := hDR2.out
                  exact ⟨s + 1, by omega, by go_num, ⟨d9 + nq, by rw [e9]; simp [World.drewN, Nat.add_assoc]⟩⟩
                case measure => simp [intOf]; omega
              · have i5 : decide ((s : Int) < (nn : Int)) = false := by simp; omega
                go_wp2
                go_roundw
                case rel =>
                  obtain ⟨d9, e9⟩ := hDR.out
                  exact ⟨t + 1, by omega, by go_num, ⟨U1, _, _, S1, HUB.out.1, HUB.out.2.1, HUB.out.2.2, HLA.out, by rw [e9]; exact HT7.out.drewN d9⟩⟩
                case measure => simp [intOf]; omega
        · have i1 : decide ((t : Int) < 300) = false := by simp; omega
          have et : t = 300 := by omega
          have hS0 : S = [] := later_end hla h1 (by rw [hU, et]; rfl)
          have HT : Hid (Tw w wr c p g d r h tic U v v' [] (n : Int)) := by rw [hS0] at htw; exact htw
          obtain ⟨a0, a1, a2, a3⟩ := HT.out.a.cells
          obtain ⟨b0, b1, b2, b3⟩ := HT.out.b.cells
          clear hU hU0 hU1 hla htw hS0 et hH
          go_wp2_with fail
          refine (clen_any wr w.heap.size c p g tic U v [] (n : Int) HT.out.a 0 rfl).mono ?_
          rintro e w6 ⟨rfl, rfl⟩
          go_wp2_with fail
          refine (clen_any wr w.heap.size d r h tic U v' [] (n : Int) HT.out.b 0 rfl).mono ?_
          rintro e w6 ⟨rfl, rfl⟩
          go_wp2_with fail
          refine (up_any wr w.heap.size c p g tic U v [] (n : Int) HT.out.a).mono ?_
          rintro e w6 ⟨rfl, rfl⟩
          go_wp2_with fail
          refine (up_any wr w.heap.size d r h tic U v' [] (n : Int) HT.out.b).mono ?_
          rintro e w6 ⟨rfl, rfl⟩
          go_wp2
          go_ret
          exact ⟨by first | rfl | simp, HT.out.bel⟩


/-! ### the walk -/
theorem walk (a0 : Int) (a1 : Option Addr) (len1 cap1 : Nat) (z1 : List Int) (a2 : Option Addr) (len2 cap2 : Nat) (z2 : List Int) (w : World) (w0 : (Lit.int .i64 a0).wf = true) (w1 : IsRow .u8 w a1 len1 cap1 z1) (w2 : IsRow .u64 w a2 len2 cap2 z2) :
    Calls Try.prog 6 #[.int .i64 a0, .slice a1 len1 cap1, .slice a2 len2 cap2] w fun e w' => e = .returned (.bool true) ∧ Below w.heap.size w w' := by
  obtain ⟨hl, q, hq⟩ := inp_of w1
  obtain ⟨hl2, q2, hq2⟩ := inp_of w2
  by_cases h : a0 < 1 ∨ 100 < a0 ∨ 40 < len1 ∨ 40 < len2
  · exact walkOut a0 a1 len1 cap1 a2 len2 cap2 w hl hl2 h
  · exact walkIn a0 a1 len1 cap1 a2 len2 cap2 q q2 w hq hq2 (by omega) (by omega) (by omega) (by omega)

/-! ### THE ROW's STEP: WRITTEN OUT: LEAVE IT -/
set_option maxRecDepth 100000 in
theorem lifted (os : Os) (started : os.Started) (H : Type) (enc : TypeId × Value → H) :
    ReturnsInHanded {} Try.checked os 6 .any (Rows.clockSetsSpec.pre6 enc Try.prog Try.f6 Rows.clockSetsRow.domain false) (Rows.clockSetsSpec.post enc Try.prog Try.f6 false true false false) := by
  refine returnsInHanded_of_change (C := Try.checked) own started (by kernel_rfl) Try.func6
    (ChangeSpec.witness6 (enc := enc) (C := Try.checked) false ⟨#[], #[.int .i64 0, .slice none 0 0, .slice none 0 0], []⟩ 8 (by kernel_rfl) (by kernel_rfl) (by kernel_rfl) (by kernel_rfl)) ?_
  intro W base args ds gs before hval0 hW hcnd _
  have hval : ∀ (j : Nat) t v, Try.f6.params[j]? = some t → args[j]? = some v → Value.okWide Try.prog W .any base t v := hval0
  have hW' := hW
  obtain ⟨p, q, hA0, hV, rfl, hfz, hnd⟩ := hW
  have hA : DataW.TrodAll enc Try.prog W 0 (fun _ => true) true Try.f6.params.toList args.toList ds p := hA0
  rw [Try.params6] at hA hval
  obtain ⟨v0, vs0, d0, ds0, p0, q0, hargs, rfl, rfl, h0, r0⟩ := trodAll_cons hA
  obtain ⟨v1, vs1, d1, ds1, p1, q1, rfl, rfl, rfl, h1, r1⟩ := trodAll_cons r0
  obtain ⟨v2, vs2, d2, ds2, p2, q2, rfl, rfl, rfl, h2, r2⟩ := trodAll_cons r1
  obtain ⟨rfl, rfl, rfl⟩ := trodAll_nil r2
  obtain rfl : args = #[v0, v1, v2] := by cases args; simp_all
  obtain ⟨rfl, rfl⟩ := trodVars_none hV
  obtain ⟨a0, rfl, rfl, rfl, w0⟩ := open_int Try.underlying3 (hval 0 3 v0 rfl rfl) h0
  obtain ⟨a1, len1, cap1, rfl⟩ := okWide_slice Try.underlying57 (hval 1 57 v1 rfl rfl)
  have k1 := h1
  have lt1 : ∀ x ∈ p1, x.block < W.heap.size := by obtain ⟨m, hm⟩ := k1; exact DataW.trod_lt m _ _ _ hm
  obtain ⟨z1, w1⟩ : ∃ zs, IsRow .u8 W a1 len1 cap1 zs := by
    obtain ⟨fuel, hf⟩ := h1
    rcases open_ints Try.underlying57 Try.underlying5 (by kernel_rfl) hf with ⟨hcs, _⟩ | ⟨x, l, c, zs, hcs, _, hl, hm, hz, _, hcell, hwz⟩
    · simp [Value.cells] at hcs
      obtain ⟨rfl, rfl, rfl⟩ := hcs
      exact ⟨[], .inl ⟨rfl, rfl, rfl, rfl⟩⟩
    · simp [Value.cells] at hcs
      obtain ⟨rfl, rfl, rfl⟩ := hcs
      exact ⟨zs, .inr ⟨_, rfl, hl, hm, by simpa using hz, hcell, hwz⟩⟩
  obtain ⟨a2, len2, cap2, rfl⟩ := okWide_slice Try.underlying53 (hval 2 53 v2 rfl rfl)
  have k2 := h2
  have lt2 : ∀ x ∈ p2, x.block < W.heap.size := by obtain ⟨m, hm⟩ := k2; exact DataW.trod_lt m _ _ _ hm
  obtain ⟨z2, w2⟩ : ∃ zs, IsRow .u64 W a2 len2 cap2 zs := by
    obtain ⟨fuel, hf⟩ := h2
    rcases open_ints Try.underlying53 Try.underlying31 (by kernel_rfl) hf with ⟨hcs, _⟩ | ⟨x, l, c, zs, hcs, _, hl, hm, hz, _, hcell, hwz⟩
    · simp [Value.cells] at hcs
      obtain ⟨rfl, rfl, rfl⟩ := hcs
      exact ⟨[], .inl ⟨rfl, rfl, rfl, rfl⟩⟩
    · simp [Value.cells] at hcs
      obtain ⟨rfl, rfl, rfl⟩ := hcs
      exact ⟨zs, .inr ⟨_, rfl, hl, hm, by simpa using hz, hcell, hwz⟩⟩
  clear hA0 hval0
  refine (walk a0 a1 len1 cap1 z1 a2 len2 cap2 z2 W w0 w1 w2).mono fun e W' ⟨he, bel⟩ => ?_
  subst he
  exact ⟨_, rfl, _, _, _, [], _, [], hW', trodAll_mk1 (shut_bool Try.underlying4 _), (trodAll_cons_mk (shut_int Try.underlying3 w0) (trodAll_cons_mk (Below.trod laidOut (by kernel_rfl) (of_decide_eq_true (by kernel_rfl)) k1 bel lt1) (trodAll_cons_mk (Below.trod laidOut (by kernel_rfl) (of_decide_eq_true (by kernel_rfl)) k2 bel lt2) trodAll_mk0))), rfl, bel.frame _, fun h => by cases h⟩

theorem over : Rows.clockSetsRow.holds Try.pinned (OpenSpec.ofChange Rows.clockSetsSpec) :=
  OpenClaim.holds_of_wide 6 Try.f6 rfl rfl rfl rfl rfl rfl rfl ⟨rfl, rfl, rfl, rfl, rfl⟩ rfl rfl rfl rfl rfl (by kernel_rfl) Try.func6 (by kernel_rfl)
    (of_decide_eq_true (by kernel_rfl)) (by unfold Func.isWrapper; first | (rw [if_pos (by decide +kernel)]; kernel_rfl) | (rw [if_neg (by decide +kernel)]; exact ⟨rfl, rfl⟩))
    (fun os started H enc _ => lifted os started H enc)

/-- ████ THE STATEMENT ████ -/
theorem proved : Rows.ClockSetsSaid := over
#print axioms proved
end Go.Proofs.Ytpnhpgdidineaaa.clockSets
namespace Go.Proofs.Ytpnhpgdidineaaa
theorem clockSets_holds : Rows.ClockSetsSaid := clockSets.proved
end Go.Proofs.Ytpnhpgdidineaaa
