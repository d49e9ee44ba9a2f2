/-
  PROVED: the Go function detentlaw12.FlagParts returns true for every input, and each argument reads behind the call as it read before (Rows.FlagPartsSaid). No condition.
-/
import Derived.Test.YthgcmjiebdnnfaaRows
import Derived.Test.YthgcmjiebdnnfaaFgL
import Derived.WalkKit
import Derived.ProofKit
import Derived.OpenShut
import Derived.ShutString
import Derived.ChangeOld
import Derived.Below
import Derived.Deep.Grids
namespace Go.Proofs.Ythgcmjiebdnnfaa.flagParts
open Go.ChangeShapes Go.WideShapes Go.ChangeAt Go.RowKit
open Go.ChangeMaps (open_string shut_string)
set_option linter.unusedVariables false
set_option maxRecDepth 100000

theorem own : ownKnob Try.prog.godebug = none := by kernel_rfl
theorem laidOut : laidOutB Try.prog = true := by kernel_rfl

def Post (w : World) (e : Ending) (w' : World) : Prop := e = .returned (.bool true) ∧ Below w.heap.size w w'
/-- bools that came in -/
def Bin (w : World) (A : Option Addr) (n : Nat) (C : Nat → Bool) : Prop :=
  0 < n → ∃ b o : Nat, A = some ⟨b, o, none⟩ ∧ b < w.heap.size ∧ ∀ j, j < n → w.cell? ⟨b, o + j, none⟩ = some (.bool (C j))
theorem Bin.below {w w' : World} {A : Option Addr} {n : Nat} {C : Nat → Bool} (h : Bin w A n C) (k : Below w.heap.size w w') : Bin w' A n C := by
  intro h0
  obtain ⟨b, o, h1, h2, h3⟩ := h h0
  exact ⟨b, o, h1, Nat.lt_of_lt_of_le h2 k.size, fun j hj => by rw [k.cell (p := ⟨b, o + j, none⟩) h2]; exact h3 j hj⟩

/-- what the tasks want -/
def vm (q : Nat → Int) (C : Nat → Bool) (j : Nat) : Wi := (q j, if C j then 1 else 0)
theorem vm_perm {q : Nat → Int} {C : Nat → Bool} {j : Nat} (h : q j ≠ 0) : perm (vm q C j) = true := by
  unfold perm vm
  cases C j <;> simp [h]
/-- who is left at the bits x -/
def Lx (n : Nat) (W : Int → Wi) (x : Int) : List It := (row n).filter fun y => !met x (W y.1)
def Sx (n : Nat) (W : Int → Wi) (x : Int) : St := ⟨false, true, false, x, Lx n W x, W⟩
/-- how many were woken -/
def kx (n : Nat) (W : Int → Wi) (x : Int) : Nat := n - (Lx n W x).length
theorem lx_le (n : Nat) (W : Int → Wi) (x : Int) : (Lx n W x).length ≤ n := by
  have := List.length_filter_le (fun y : It => !met x (W y.1)) (row n)
  rw [row_len] at this; exact this
theorem cnt (L : List It) (f : It → Bool) : (L.filter f).length + (L.filter fun y => !f y).length = L.length := by
  induction L with
  | nil => rfl
  | cons a L ih =>
    simp only [List.filter_cons]
    cases f a <;> simp <;> omega
theorem lx_zero {n : Nat} {W : Int → Wi} {v : Nat → Wi} (hW : Wants W n v) (hu : ∀ j, j < n → U (v j).1) : Lx n W 0 = row n := by
  unfold Lx
  refine List.filter_eq_self.2 fun y hy => ?_
  obtain ⟨j, hj, rfl⟩ := row_mem hy
  show (!met 0 (W ((j + 1 : Nat) : Int))) = true
  rw [hW j hj, met_zero (hu j hj)]; rfl
theorem raise_any' (n : Nat) (W : Int → Wi) (x : Int) (L : List It) (ys : List Int) (z : Int) (hz : ors x ys = z) : raise ⟨false, true, false, x, L, W⟩ ys =
    (⟨false, true, false, z, L.filter (fun y => !met z (W y.1)), W⟩, (L.filter (fun y => met z (W y.1))).map fun y => (y.1, z)) := by
  unfold raise wake
  rw [show ors (St.x ⟨false, true, false, x, L, W⟩) ys = z from hz]
  rw [if_neg (by intro h; cases h)]
  rfl
theorem raise_all {n : Nat} {W : Int → Wi} {v : Nat → Wi} (hW : Wants W n v) (hu : ∀ j, j < n → U (v j).1) (ys : List Int) (z : Int) (hz : ors 0 ys = z) :
    ∃ o, raise ⟨false, true, false, 0, row n, W⟩ ys = (Sx n W z, o) ∧ o.length = kx n W z := by
  refine ⟨_, raise_any' n W 0 (row n) ys z hz, ?_⟩
  rw [List.length_map]
  have := cnt (row n) (fun y => met z (W y.1))
  rw [row_len] at this
  unfold kx Lx; omega
theorem lx_next {n : Nat} {W : Int → Wi} {v : Nat → Wi} (hW : Wants W n v) (hu : ∀ j, j < n → U (v j).1) {x y : Int} (hx : U x) (hy : U y) :
    (Lx n W x).filter (fun z => !met (bits .or .u32 x y) (W z.1)) = Lx n W (bits .or .u32 x y) := by
  unfold Lx
  rw [List.filter_filter]
  refine List.filter_congr fun z hz => ?_
  obtain ⟨j, hj, rfl⟩ := row_mem hz
  show (!met (bits .or .u32 x y) (W ((j + 1 : Nat) : Int)) && !met x (W ((j + 1 : Nat) : Int))) = !met (bits .or .u32 x y) (W ((j + 1 : Nat) : Int))
  rw [hW j hj]
  cases h : met x (v j) with
  | false => simp
  | true => rw [met_or hx hy (hu j hj) h]; rfl
theorem raise_step {n : Nat} {W : Int → Wi} {v : Nat → Wi} (hW : Wants W n v) (hu : ∀ j, j < n → U (v j).1) {x y : Int} (hx : U x) (hy : U y) :
    ∃ o, raise (Sx n W x) [y] = (Sx n W (bits .or .u32 x y), o) ∧ kx n W x + o.length = kx n W (bits .or .u32 x y) := by
  refine ⟨_, (raise_any' n W x (Lx n W x) [y] (bits .or .u32 x y) rfl).trans (by rw [lx_next hW hu hx hy]; rfl), ?_⟩
  rw [List.length_map]
  have h1 := cnt (Lx n W x) (fun z => met (bits .or .u32 x y) (W z.1))
  rw [lx_next hW hu hx hy] at h1
  have h2 := lx_le n W x
  unfold kx; omega
theorem fine_sx {n : Nat} {W : Int → Wi} {v : Nat → Wi} (hW : Wants W n v) (hn : n ≤ 16) (hp : ∀ j, j < n → perm (v j) = true) (x : Int) : Fine (Sx n W x) :=
  (wants_fine (m := true) (c := false) (x := x) hW hn hp).sub List.filter_sublist
theorem u_ors {x : Int} : ∀ {ys : List Int}, U x → (∀ y, y ∈ ys → U y) → U (ors x ys)
  | [], hx, _ => hx
  | y :: ys, hx, h => u_ors (x := bits .or .u32 x y) (ys := ys) (hx.or (h y (by simp))) (fun z hz => h z (by simp [hz]))
theorem ors_append (x : Int) (ys : List Int) (y : Int) : ors x (ys ++ [y]) = bits .or .u32 (ors x ys) y := by unfold ors; rw [List.foldl_append]; rfl

theorem two_below {w : World} {a b : Addr} {x y : Value} {W W' : World} (hb : Below W.heap.size W W') (h : W.cell? a = some x ∧ W.cell? b = some y ∧ Below w.heap.size w W) :
    W'.cell? a = some x ∧ W'.cell? b = some y ∧ Below w.heap.size w W' :=
  ⟨(hb.cell (p := a) (block_lt_of_cell h.1)).trans h.1, (hb.cell (p := b) (block_lt_of_cell h.2.1)).trans h.2.1, h.2.2.trans (hb.mono h.2.2.size)⟩
/-- both lie apart -/
structure Ap (B sa pa sb pb : Nat) : Prop where
  a : sa < B
  b : pa < B
  c : B ≤ sb
  d : B ≤ pb

set_option maxHeartbeats 1600000 in
theorem walkOut (A : Option Addr) (n cap : Nat) (A1 : Option Addr) (m cap1 : Nat) (A2 : Option Addr) (l cap2 : Nat) (w : World) (h0 : n ≤ 9223372036854775807) (h1 : m ≤ 9223372036854775807) (h2 : l ≤ 9223372036854775807) (h : 16 < n ∨ m < n ∨ 20 < l) :
    Calls Try.prog 4 #[.slice A n cap, .slice A1 m cap1, .slice A2 l cap2] w (Post w) := by
  by_cases c1 : 16 < n
  · have t1 : decide ((16 : Int) < (n : Int)) = true := by simp; omega
    clear h
    go_enter Try.func4, Try.ntmps4
    go_wp2_with fail
    refine (known_ok w).mono ?_
    rintro e w0 ⟨rfl, hb0⟩
    go_wp2
    go_ret
    exact ⟨rfl, hb0⟩
  · have t1 : decide ((16 : Int) < (n : Int)) = false := by simp; omega
    by_cases c2 : m < n
    · have t2 : decide ((m : Int) < (n : Int)) = true := by simp; omega
      clear h
      go_enter Try.func4, Try.ntmps4
      go_wp2_with fail
      refine (known_ok w).mono ?_
      rintro e w0 ⟨rfl, hb0⟩
      go_wp2
      go_ret
      exact ⟨rfl, hb0⟩
    · have t2 : decide ((m : Int) < (n : Int)) = false := by simp; omega
      have t3 : decide ((20 : Int) < (l : Int)) = true := by simp; omega
      clear h
      go_enter Try.func4, Try.ntmps4
      go_wp2_with fail
      refine (known_ok w).mono ?_
      rintro e w0 ⟨rfl, hb0⟩
      go_wp2
      go_ret
      exact ⟨rfl, hb0⟩

set_option maxHeartbeats 8000000 in
theorem walkIn (A : Option Addr) (n cap : Nat) (q : Nat → Int) (A1 : Option Addr) (m cap1 : Nat) (C : Nat → Bool) (A2 : Option Addr) (l cap2 : Nat) (q2 : Nat → Int) (w : World) (hA : Uf w A n q) (hC : Bin w A1 m C) (hA2 : Uf w A2 l q2) (hn : n ≤ 16) (hnm : n ≤ m) (hl : l ≤ 20) (hm : m ≤ 9223372036854775807) :
    Calls Try.prog 4 #[.slice A n cap, .slice A1 m cap1, .slice A2 l cap2] w (Post w) := by
  have HA := Lib.hid hA
  have HC := Lib.hid hC
  have HA2 := Lib.hid hA2
  have t1 : decide ((16 : Int) < (n : Int)) = false := by simp; omega
  have t2 : decide ((m : Int) < (n : Int)) = false := by simp; omega
  have t3 : decide ((20 : Int) < (l : Int)) = false := by simp; omega
  clear hA hC hA2
  go_enter Try.func4, Try.ntmps4
  go_wp2_with fail
  refine (known_ok w).mono ?_
  rintro e w0 ⟨rfl, hb0⟩
  go_wp2_with fail
  refine (new_at w w0 false true false 0 hb0).mono ?_
  rintro e w1 ⟨sa, pa, rfl, ha1, _, _, _⟩
  go_wp2_with fail
  refine (new_at w w1 false true false 0 ha1.b).mono ?_
  rintro e w2 ⟨sb, pb, rfl, hb1, hsb, hpb, hb2⟩
  have hAp : Ap w1.heap.size sa pa sb pb := ⟨ha1.sq.lts, ha1.sq.ltp, hsb, hpb⟩
  obtain ⟨BB, hBB⟩ : ∃ BB, w1.heap.size = BB := ⟨_, rfl⟩
  rw [hBB] at hAp
  have HAP := Lib.hid hAp
  have H1 := Lib.hid (ha1.below hb2)
  have H2 := Lib.hid hb1
  clear hb0 ha1 hb1 hsb hpb hb2 hAp hBB t1 t2 t3
  go_wp2
  go_loopw [9] (fun i wr => ∃ (t : Nat) (W : Int → Wi), t ≤ n ∧ i = .int .i64 (t : Int) ∧ Hid (∀ j, j < t → q j ≠ 0) ∧ Hid (Wants W t (vm q C)) ∧ At w sa pa ⟨false, true, false, 0, row t, W⟩ wr ∧ At w sb pb ⟨false, true, false, 0, row t, W⟩ wr) (fun i _ => n - (intOf i).toNat)
  case atStart => exact ⟨0, _, Nat.zero_le _, rfl, Lib.hid (fun j hj => absurd hj (by omega)), Lib.hid (fun j hj => absurd hj (by omega)), H1.out, H2.out⟩
  case round =>
    clear H1 H2
    obtain ⟨t, W, ht, rfl, HZ, HW, ha, hb⟩ := hrel
    by_cases hlt : t < n
    · have hlt' : (t : Int) < (n : Int) := by omega
      have hlm : (t : Int) < (m : Int) := by omega
      obtain ⟨b, o, rfl, hb1, hb3⟩ := (HA.out.below ha.b) (by omega)
      obtain ⟨b2, o2, rfl, hb4, hb5⟩ := (HC.out.below ha.b) (by omega)
      obtain ⟨hc, hu⟩ := hb3 t hlt
      have hc2 := hb5 t (by omega)
      have HU := Lib.hid hu
      obtain ⟨v, hv⟩ : ∃ v, q t = v := ⟨_, rfl⟩
      rw [hv] at hc
      have HV := Lib.hid hv
      have HAT := Lib.hid ha
      have HBT := Lib.hid hb
      obtain ⟨cc, hcc⟩ : ∃ cc, C t = cc := ⟨_, rfl⟩
      rw [hcc] at hc2
      have HCC := Lib.hid hcc
      clear hb3 hb5 hu ha hb hv hb1 hb4 hcc
      by_cases hq0 : v = 0
      · have t1 : (v == 0) = true := by simpa using hq0
        clear hq0
        cases cc with
        | true =>
          go_wp2
          go_ret
          exact ⟨rfl, HAT.out.b⟩
        | false =>
          go_wp2
          go_ret
          exact ⟨rfl, HAT.out.b⟩
      · have t1 : (v == 0) = false := by simpa using hq0
        have hp : perm (vm q C t) = true := vm_perm (by rw [HV.out]; exact hq0)
        have hf : Fine ⟨false, true, false, 0, row t, W⟩ := wants_fine HW.out (by omega) (fun j hj => vm_perm (HZ.out j hj))
        obtain ⟨e1, e2⟩ := wait_next (m := true) (c := false) rfl HW.out (by omega) hp HU.out
        obtain ⟨km, hkm⟩ : ∃ km : Int, (if C t then (1 : Int) else 0) = km := ⟨_, rfl⟩
        have hvk : vm q C t = (v, km) := by unfold vm; rw [HV.out, hkm]
        rw [hvk] at e1 e2
        have HW2 := Lib.hid e2
        have HE1 := Lib.hid e1
        have HFI := Lib.hid hf
        have HZ2 : Hid (∀ j, j < t + 1 → q j ≠ 0) := Lib.hid (fun j hj => by
          by_cases e : j = t
          · subst e; rw [HV.out]; exact hq0
          · exact HZ.out j (by omega))
        have HKM := Lib.hid hkm
        clear hq0 hp hf e1 e2 hkm hvk
        cases cc with
        | true =>
          obtain rfl : km = 1 := by rw [← HKM.out, HCC.out]; rfl
          go_wp2_with fail
          refine (wait_to ((t : Int) + 1) v (by omega) rfl HAT.out HFI.out HE1.out).mono ?_
          rintro e w3 ⟨rfl, ha3, oa⟩
          have hb3 := HBT.out.apart ha3 oa (by have := HAP.out.a; have := HAP.out.c; omega) (by have := HAP.out.b; have := HAP.out.c; omega) (by have := HAP.out.a; have := HAP.out.d; omega) (by have := HAP.out.b; have := HAP.out.d; omega)
          obtain ⟨b3, o3, e3, _, hb6⟩ := (HA.out.below ha3.b) (by omega)
          injection e3 with e3; injection e3 with e3 e4
          subst e3 e4
          have hc3 := (hb6 t hlt).1
          rw [HV.out] at hc3
          have HA3 := Lib.hid ha3
          have HB3 := Lib.hid hb3
          clear hb6 ha3 hb3 oa hc hc2 HAT HBT
          go_wp2_with fail
          refine (wait_to ((t : Int) + 1) v (by omega) rfl HB3.out HFI.out HE1.out).mono ?_
          rintro e w4 ⟨rfl, hb4, ob⟩
          have HA4 := Lib.hid (HA3.out.apart hb4 ob (by have := HAP.out.a; have := HAP.out.c; omega) (by have := HAP.out.a; have := HAP.out.d; omega) (by have := HAP.out.b; have := HAP.out.c; omega) (by have := HAP.out.b; have := HAP.out.d; omega))
          have HB4 := Lib.hid hb4
          clear hb4 ob hc3 HA3 HB3
          go_wp2
          exact ⟨⟨t + 1, _, by omega, by go_num, HZ2, HW2, HA4.out, HB4.out⟩, by simp [intOf]; omega⟩
        | false =>
          obtain rfl : km = 0 := by rw [← HKM.out, HCC.out]; rfl
          go_wp2_with fail
          refine (wait_to ((t : Int) + 1) v (by omega) rfl HAT.out HFI.out HE1.out).mono ?_
          rintro e w3 ⟨rfl, ha3, oa⟩
          have hb3 := HBT.out.apart ha3 oa (by have := HAP.out.a; have := HAP.out.c; omega) (by have := HAP.out.b; have := HAP.out.c; omega) (by have := HAP.out.a; have := HAP.out.d; omega) (by have := HAP.out.b; have := HAP.out.d; omega)
          obtain ⟨b3, o3, e3, _, hb6⟩ := (HA.out.below ha3.b) (by omega)
          injection e3 with e3; injection e3 with e3 e4
          subst e3 e4
          have hc3 := (hb6 t hlt).1
          rw [HV.out] at hc3
          have HA3 := Lib.hid ha3
          have HB3 := Lib.hid hb3
          clear hb6 ha3 hb3 oa hc hc2 HAT HBT
          go_wp2_with fail
          refine (wait_to ((t : Int) + 1) v (by omega) rfl HB3.out HFI.out HE1.out).mono ?_
          rintro e w4 ⟨rfl, hb4, ob⟩
          have HA4 := Lib.hid (HA3.out.apart hb4 ob (by have := HAP.out.a; have := HAP.out.c; omega) (by have := HAP.out.a; have := HAP.out.d; omega) (by have := HAP.out.b; have := HAP.out.c; omega) (by have := HAP.out.b; have := HAP.out.d; omega))
          have HB4 := Lib.hid hb4
          clear hb4 ob hc3 HA3 HB3
          go_wp2
          exact ⟨⟨t + 1, _, by omega, by go_num, HZ2, HW2, HA4.out, HB4.out⟩, by simp [intOf]; omega⟩
    · obtain rfl : t = n := by omega
      have HUV : Hid (∀ j, j < t → U (vm q C j).1) := Lib.hid (fun j hj => by
        obtain ⟨b, o, _, _, hb3⟩ := HA.out (by omega)
        exact (hb3 j hj).2)
      have HPV : Hid (∀ j, j < t → perm (vm q C j) = true) := Lib.hid (fun j hj => vm_perm (HZ.out j hj))
      obtain ⟨z, hz⟩ : ∃ z, ors 0 (ful q2 l) = z := ⟨_, rfl⟩
      obtain ⟨ro, e1, e2⟩ := raise_all HW.out HUV.out (ful q2 l) z hz
      have HR1 := Lib.hid e1
      have HR2 := Lib.hid e2
      have HZ0 := Lib.hid hz
      have HUS := Lib.hid (HA2.out.us2 ha)
      have HF0 : Hid (Fine ⟨false, true, false, 0, row t, W⟩) := Lib.hid (wants_fine HW.out hn HPV.out)
      have HAA := Lib.hid ha
      have HBB := Lib.hid hb
      obtain ⟨kz, hkz⟩ : ∃ kz, kx t W z = kz := ⟨_, rfl⟩
      have HKZ := Lib.hid hkz
      clear e1 e2 hz ha hb HZ hkz
      go_wp2_with fail
      refine (raise_at HAA.out HF0.out HUS.out (ful_len _ _) (by omega) HR1.out (c := kz) (HR2.out.trans HKZ.out)).mono ?_
      rintro e w5 ⟨X, k, rfl, _, ha5, oa⟩
      have HB5 := Lib.hid (HBB.out.apart ha5 oa (by have := HAP.out.a; have := HAP.out.c; omega) (by have := HAP.out.b; have := HAP.out.c; omega) (by have := HAP.out.a; have := HAP.out.d; omega) (by have := HAP.out.b; have := HAP.out.d; omega))
      have HA5 := Lib.hid ha5
      clear ha5 oa HAA HBB
      go_wp2
      go_loopw [12, 13] (fun kk i wr => ∃ u : Nat, u ≤ l ∧ kk = .int .i64 ((kx t W (ors 0 (ful q2 u)) : Nat) : Int) ∧ i = .int .i64 (u : Int) ∧ At w sa pa (Sx t W z) wr ∧ At w sb pb (Sx t W (ors 0 (ful q2 u))) wr) (fun _ i _ => l - (intOf i).toNat)
      case atStart =>
        refine ⟨0, Nat.zero_le _, ?_, rfl, HA5.out, ?_⟩
        · show _ = Value.int .i64 ((kx t W 0 : Nat) : Int)
          unfold kx; rw [lx_zero HW.out HUV.out, row_len, Nat.sub_self]; rfl
        · show At w sb pb ⟨false, true, false, 0, Lx t W 0, W⟩ w5
          rw [lx_zero HW.out HUV.out]; exact HB5.out
      case round =>
        clear HA5 HB5
        obtain ⟨u, hu, rfl, rfl, ha, hb⟩ := hrel
        have hkk : kx t W (ors 0 (ful q2 u)) ≤ 16 := by unfold kx; omega
        by_cases hlt : u < l
        · have hlt' : (u : Int) < (l : Int) := by omega
          obtain ⟨b, o, rfl, hb1, hb3⟩ := (HA2.out.below ha.b) (by omega)
          obtain ⟨hc, huu⟩ := hb3 u hlt
          have HUX : Hid (U (ors 0 (ful q2 u))) := Lib.hid (u_ors ⟨by omega, by omega⟩ (fun y hy => by
            simp [ful] at hy
            obtain ⟨j, hj, rfl⟩ := hy
            exact (hb3 j (by omega)).2))
          have hsx : ors 0 (ful q2 (u + 1)) = bits .or .u32 (ors 0 (ful q2 u)) (q2 u) := by rw [ful_succ, ors_append]
          obtain ⟨y, hy⟩ : ∃ y, q2 u = y := ⟨_, rfl⟩
          rw [hy] at hc huu hsx
          have HSX := Lib.hid hsx
          obtain ⟨x1, hx1⟩ : ∃ x1, ors 0 (ful q2 u) = x1 := ⟨_, rfl⟩
          rw [hx1] at hkk hb HUX HSX ⊢
          obtain ⟨ro2, r1, r2⟩ := raise_step HW.out HUV.out HUX.out huu
          have HR3 := Lib.hid r1
          obtain ⟨c2, hc2⟩ : ∃ c2, ro2.length = c2 := ⟨_, rfl⟩
          have HC2 := Lib.hid hc2
          rw [hc2] at r2
          obtain ⟨k1, hk1⟩ : ∃ k1, kx t W x1 = k1 := ⟨_, rfl⟩
          rw [hk1] at hkk r2 ⊢
          have hk2 : kx t W (bits .or .u32 x1 y) ≤ 16 := by unfold kx; omega
          have HK2 := Lib.hid r2
          have hcs : k1 + c2 ≤ 16 := by omega
          have HFS := Lib.hid (fine_sx HW.out hn HPV.out x1)
          have HAL := Lib.hid (hb.alloc (.cells #[.int .u32 y] 22))
          have HU1 := Lib.hid (us_one wr sb y hb.sq.lts)
          have HAW := Lib.hid (ha.alloc (.cells #[.int .u32 y] 22))
          clear hb3 huu hsx hy hx1 r1 r2 hc2 hk1 hk2 ha hb hb1
          go_wp2_with fail
          refine (raise_at HAL.out HFS.out HU1.out (n := 1) (cap := 1) rfl (by omega) HR3.out (c := c2) HC2.out).mono ?_
          rintro e w6 ⟨X6, k6, rfl, _, hb6, ob⟩
          have HA6 := Lib.hid (HAW.out.apart hb6 ob (by have := HAP.out.a; have := HAP.out.c; omega) (by have := HAP.out.a; have := HAP.out.d; omega) (by have := HAP.out.b; have := HAP.out.c; omega) (by have := HAP.out.b; have := HAP.out.d; omega))
          have HB6 := Lib.hid hb6
          clear hb6 ob HAL HU1 HAW hc
          go_wp2
          refine ⟨⟨u + 1, by omega, ?_, by go_num, HA6.out, ?_⟩, by simp [intOf]; omega⟩
          · rw [HSX.out, ← HK2.out]; go_num
          · rw [HSX.out]; exact HB6.out
        · obtain rfl : u = l := by omega
          rw [HZ0.out] at hb hkk ⊢
          have HKK := Lib.hid HKZ.out
          rw [HKZ.out] at hkk ⊢
          have HLA : Hid (∀ d, Calls Try.prog 26 #[.pointer (some ⟨pa, 0, none⟩)] (wr.drewN d) fun e w' => e = .returned (.int .i64 ((Lx t W z).length : Int)) ∧ w' = wr.drewN d) := Lib.hid (fun d => call_sym (len_at (ha.drewN d) rfl))
          have HLB : Hid (∀ d, Calls Try.prog 26 #[.pointer (some ⟨pb, 0, none⟩)] (wr.drewN d) fun e w' => e = .returned (.int .i64 ((Lx t W z).length : Int)) ∧ w' = wr.drewN d) := Lib.hid (fun d => call_sym (len_at (hb.drewN d) rfl))
          obtain ⟨ln, hln⟩ : ∃ ln, (Lx t W z).length = ln := ⟨_, rfl⟩
          rw [hln] at HLA HLB
          have a0 := ha.c0
          have b0 := hb.c0
          have a1 : wr.cell? ⟨sa, 1, none⟩ = some (.int .u32 z) := ha.c1
          have b1 : wr.cell? ⟨sb, 1, none⟩ = some (.int .u32 z) := hb.c1
          have HA7 := Lib.hid ha
          have HB7 := Lib.hid hb
          clear ha hb hln hkk
          go_wp2_with fail
          go_big_quiet (first | (go_at_call 26; exact Calls.quiet_of_same (HLA.out _)) | (go_at_call 26; exact Calls.quiet_of_same (HLB.out _)))
          go_wp2
          have HA8 := Lib.hid (HA7.out.drewN nq)
          have HB8 := Lib.hid (HB7.out.drewN nq)
          generalize wr.drewN nq = wz at *
          clear HA7 HB7 a0 b0 a1 b1 HLA HLB HKK
          go_loopw [14] (fun i wr => ∃ j : Nat, 1 ≤ j ∧ j ≤ 17 ∧ i = .int .i64 (j : Int) ∧ At w sa pa (Sx t W z) wr ∧ At w sb pb (Sx t W z) wr) (fun i _ => 17 - (intOf i).toNat)
          case atStart => exact ⟨1, by omega, by omega, rfl, HA8.out, HB8.out⟩
          case round =>
            clear HA8 HB8
            obtain ⟨j, hj1, hj2, rfl, ha, hb⟩ := hrel
            by_cases hlt : j ≤ 16
            · have hlt' : (j : Int) ≤ 16 := by omega
              have a0 := ha.c0
              have b0 := hb.c0
              obtain ⟨r, hr⟩ : ∃ r, decide (pos (Lx t W z) (j : Int) < (Lx t W z).length) = r := ⟨_, rfl⟩
              have hg : Good false (Lx t W z) := (fine_sx HW.out hn HPV.out z).q
              have HH : Hid (∀ W1, Below wr.heap.size wr W1 → ∀ pp, pp = pa ∨ pp = pb → Calls Try.prog 27 #[.pointer (some ⟨pp, 0, none⟩), .int .i64 (j : Int)] W1 fun e w' => e = .returned (.bool r) ∧ Below W1.heap.size W1 w') := Lib.hid (fun W1 k pp h => by
                rcases h with rfl | rfl
                · exact (has_at (ha.below k) hg (j : Int) hr).mono fun e w' h => ⟨h.1, h.2.2⟩
                · exact (has_at (hb.below k) hg (j : Int) hr).mono fun e w' h => ⟨h.1, h.2.2⟩)
              have HA9 := Lib.hid ha
              have HB9 := Lib.hid hb
              clear ha hb hr hg
              go_wp2_with fail
              go_region_held3 (fun W1 => W1.cell? ⟨sa, 0, none⟩ = some (.pointer (some ⟨pa, 0, none⟩)) ∧ W1.cell? ⟨sb, 0, none⟩ = some (.pointer (some ⟨pb, 0, none⟩)) ∧ Below wr.heap.size wr W1)
                (first | exact ⟨a0, b0, (Below.refl _ _).drew⟩ | exact ⟨a0, b0, Below.refl _ _⟩ | exact two_below hb5 (by assumption) | assumption)
                (first
                  | (go_at_call 27; refine (HH.out _ (And.right (And.right (by assumption))) _ (by first | exact .inl rfl | exact .inr rfl)).mono ?_; rintro e w5 ⟨rfl, hb5⟩))
              all_goals
                have hb9 : Below wr.heap.size wr w5 := And.right (And.right (by assumption))
                have HA10 := Lib.hid (HA9.out.below hb9)
                have HB10 := Lib.hid (HB9.out.below hb9)
                clear hb9 hb5 a0 b0 HH HA9 HB9
                go_wp2
                exact ⟨⟨j + 1, by omega, by omega, by go_num, HA10.out, HB10.out⟩, by simp [intOf]; omega⟩
            · obtain rfl : j = 17 := by omega
              go_wp2
              go_ret
              exact ⟨rfl, ha.b⟩

set_option maxRecDepth 100000 in
theorem lifted (os : Os) (started : os.Started) (H : Type) (enc : TypeId × Value → H) :
    ReturnsInHanded {} Try.checked os 4 .any (Rows.flagPartsSpec.pre6 enc Try.prog Try.f4 Rows.flagPartsRow.domain false) (Rows.flagPartsSpec.post enc Try.prog Try.f4 false true false false) := by
  refine returnsInHanded_of_change (C := Try.checked) own started (by kernel_rfl) Try.func4
    (ChangeSpec.witness6 (enc := enc) (C := Try.checked) false ⟨#[], #[.slice none 0 0, .slice none 0 0, .slice none 0 0], []⟩ 8 (by kernel_rfl) (by kernel_rfl) (by kernel_rfl) (by kernel_rfl)) ?_
  intro W base args ds gs before hval0 hW hcnd _
  have hval : ∀ (j : Nat) t v, Try.f4.params[j]? = some t → args[j]? = some v → Value.okWide Try.prog W .any base t v := hval0
  have hW' := hW
  obtain ⟨p, q, hA0, hV, rfl, hfz, hnd⟩ := hW
  have hA : DataW.TrodAll enc Try.prog W 0 (fun _ => true) true Try.f4.params.toList args.toList ds p := hA0
  rw [Try.params4] at hA hval
  obtain ⟨v0, vs0, d0, ds0, p0, q0, hargs, rfl, rfl, h0, r0⟩ := trodAll_cons hA
  obtain ⟨v1, vs1, d1, ds1, p1, q1, rfl, rfl, rfl, h1, r1⟩ := trodAll_cons r0
  obtain ⟨v2, vs2, d2, ds2, p2, q2, rfl, rfl, rfl, h2, r2⟩ := trodAll_cons r1
  obtain ⟨rfl, rfl, rfl⟩ := trodAll_nil r2
  obtain rfl : args = #[v0, v1, v2] := by cases args; simp_all
  obtain ⟨rfl, rfl⟩ := trodVars_none hV
  obtain ⟨a0, len0, cap0, rfl⟩ := okWide_slice Try.underlying29 (hval 0 29 v0 rfl rfl)
  obtain ⟨a1, len1, cap1, rfl⟩ := okWide_slice Try.underlying62 (hval 1 62 v1 rfl rfl)
  obtain ⟨a2, len2, cap2, rfl⟩ := okWide_slice Try.underlying29 (hval 2 29 v2 rfl rfl)
  have k0 := h0
  have k1 := h1
  have k2 := h2
  have lt0 : ∀ x ∈ p0, x.block < W.heap.size := by obtain ⟨m, hm⟩ := k0; exact DataW.trod_lt m _ _ _ hm
  have lt1 : ∀ x ∈ p1, x.block < W.heap.size := by obtain ⟨m, hm⟩ := k1; exact DataW.trod_lt m _ _ _ hm
  have lt2 : ∀ x ∈ p2, x.block < W.heap.size := by obtain ⟨m, hm⟩ := k2; exact DataW.trod_lt m _ _ _ hm
  obtain ⟨hl0, qa, hA⟩ : len0 ≤ 9223372036854775807 ∧ ∃ q, Uf W a0 len0 q := by
    obtain ⟨fuel, hf⟩ := h0
    rcases open_ints Try.underlying29 Try.underlying22 (by kernel_rfl) hf with ⟨hcs, _⟩ | ⟨x, l, c, zs, hcs, _, hl, hm, hz, _, hcell, hwz⟩
    · simp [Value.cells] at hcs
      obtain ⟨rfl, rfl, rfl⟩ := hcs
      exact uf_of (cap := 0) (zs := []) (.inl ⟨rfl, rfl, rfl, rfl⟩)
    · simp [Value.cells] at hcs
      obtain ⟨rfl, rfl, rfl⟩ := hcs
      exact uf_of (zs := zs) (.inr ⟨_, rfl, hl, hm, by simpa using hz, hcell, hwz⟩)
  obtain ⟨hl1, C, hC⟩ : len1 ≤ 9223372036854775807 ∧ ∃ C, Bin W a1 len1 C := by
    obtain ⟨fuel, hf⟩ := h1
    rcases Go.Deep.open_bools Try.underlying62 Try.underlying4 (by kernel_rfl) hf with ⟨hcs, _⟩ | ⟨x, l, c, B, hcs, _, hl, hm, _, hcell⟩
    · simp [Value.cells] at hcs
      obtain ⟨rfl, rfl, rfl⟩ := hcs
      exact ⟨by omega, fun _ => false, fun h => absurd h (by omega)⟩
    · simp [Value.cells] at hcs
      obtain ⟨rfl, rfl, rfl⟩ := hcs
      refine ⟨by unfold maxLen at hm; omega, B, fun h0 => ?_⟩
      obtain ⟨b, o, s⟩ := x
      have hc0 := hcell 0 (by omega)
      have hs : s = none := by
        cases s with
        | none => rfl
        | some q => simp [Addr.add, World.cell?] at hc0; split at hc0 <;> simp at hc0
      subst hs
      have hb : b < W.heap.size := by have := block_lt_of_cell hc0; simpa [Addr.add] using this
      exact ⟨b, o, rfl, hb, fun j hj => by have := hcell j (by omega); rw [addr_add] at this; exact this⟩
  obtain ⟨hl2, qb, hA2⟩ : len2 ≤ 9223372036854775807 ∧ ∃ q, Uf W a2 len2 q := by
    obtain ⟨fuel, hf⟩ := h2
    rcases open_ints Try.underlying29 Try.underlying22 (by kernel_rfl) hf with ⟨hcs, _⟩ | ⟨x, l, c, zs, hcs, _, hl, hm, hz, _, hcell, hwz⟩
    · simp [Value.cells] at hcs
      obtain ⟨rfl, rfl, rfl⟩ := hcs
      exact uf_of (cap := 0) (zs := []) (.inl ⟨rfl, rfl, rfl, rfl⟩)
    · simp [Value.cells] at hcs
      obtain ⟨rfl, rfl, rfl⟩ := hcs
      exact uf_of (zs := zs) (.inr ⟨_, rfl, hl, hm, by simpa using hz, hcell, hwz⟩)
  clear hA0 hval0
  have hwalk : Calls Try.prog 4 #[.slice a0 len0 cap0, .slice a1 len1 cap1, .slice a2 len2 cap2] W fun e w' => e = .returned (.bool true) ∧ Below W.heap.size W w' := by
    by_cases h : 16 < len0 ∨ len1 < len0 ∨ 20 < len2
    · exact walkOut a0 len0 cap0 a1 len1 cap1 a2 len2 cap2 W hl0 hl1 hl2 h
    · exact walkIn a0 len0 cap0 qa a1 len1 cap1 C a2 len2 cap2 qb W hA hC hA2 (by omega) (by omega) (by omega) hl1
  refine hwalk.mono fun e W' ⟨he, bel⟩ => ?_
  subst he
  exact ⟨_, rfl, _, _, _, [], _, [], hW', trodAll_mk1 (shut_bool Try.underlying4 _), (trodAll_cons_mk (Below.trod laidOut (by kernel_rfl) (of_decide_eq_true (by kernel_rfl)) k0 bel lt0) (trodAll_cons_mk (Below.trod laidOut (by kernel_rfl) (of_decide_eq_true (by kernel_rfl)) k1 bel lt1) (trodAll_cons_mk (Below.trod laidOut (by kernel_rfl) (of_decide_eq_true (by kernel_rfl)) k2 bel lt2) trodAll_mk0))), rfl, bel.frame _, fun h => by cases h⟩

theorem over : Rows.flagPartsRow.holds Try.pinned (OpenSpec.ofChange Rows.flagPartsSpec) :=
  OpenClaim.holds_of_wide 4 Try.f4 rfl rfl rfl rfl rfl rfl rfl ⟨rfl, rfl, rfl, rfl, rfl⟩ rfl rfl rfl rfl rfl (by kernel_rfl) Try.func4 (by kernel_rfl)
    (of_decide_eq_true (by kernel_rfl)) (by unfold Func.isWrapper; first | (rw [if_pos (by decide +kernel)]; kernel_rfl) | (rw [if_neg (by decide +kernel)]; exact ⟨rfl, rfl⟩))
    (fun os started H enc _ => lifted os started H enc)

theorem proved : Rows.FlagPartsSaid := over
#print axioms proved
end Go.Proofs.Ythgcmjiebdnnfaa.flagParts
namespace Go.Proofs.Ythgcmjiebdnnfaa
theorem flagParts_holds : Rows.FlagPartsSaid := flagParts.proved
end Go.Proofs.Ythgcmjiebdnnfaa
