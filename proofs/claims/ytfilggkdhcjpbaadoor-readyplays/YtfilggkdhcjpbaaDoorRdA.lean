/- Contracts of package ready: isTask, isPri, a row's inUse, add, remove; of the library: slices.IndexFunc, slices.DeleteFunc with remove's own predicate. -/
import Derived.Test.YtfilggkdhcjpbaaDoorConC
import Derived.Test.YtfilggkdhcjpbaaDoorQue
import Derived.Lib.SliceRun
import Derived.Laws.OwnMore
import Derived.BigRegion
namespace Go.Proofs.YtfilggkdhcjpbaaDoor
open Go.RowKit
variable {X : Nat → Int} {B : Nat → Bool}

theorem isTask_any (x : Int) (w : World) (r : Bool) (hr : decide (inR x) = r) :
    Calls Tryd.prog 25 #[.int .i64 x] w fun e w' => e = .returned (.bool r) ∧ w = w' := by
  subst hr
  by_cases c1 : 1 ≤ x
  · have e2 : decide (inR x) = decide (x ≤ 16) := by simp [inR, c1]
    rw [e2]
    go_enter Tryd.func25, Tryd.ntmps25
    go_wp2
    go_ret
    exact ⟨rfl, rfl⟩
  · have e : decide (inR x) = false := by simp [inR, c1]
    have t1 : decide (1 ≤ x) = false := by simpa using c1
    rw [e]
    go_enter Tryd.func25, Tryd.ntmps25
    go_wp2
    go_ret
    exact ⟨rfl, rfl⟩
theorem isPri_any (x : Int) (w : World) (r : Bool) (hr : decide (inR x) = r) :
    Calls Tryd.prog 26 #[.int .i64 x] w fun e w' => e = .returned (.bool r) ∧ w = w' := by
  subst hr
  by_cases c1 : 1 ≤ x
  · have e2 : decide (inR x) = decide (x ≤ 16) := by simp [inR, c1]
    rw [e2]
    go_enter Tryd.func26, Tryd.ntmps26
    go_wp2
    go_ret
    exact ⟨rfl, rfl⟩
  · have e : decide (inR x) = false := by simp [inR, c1]
    have t1 : decide (1 ≤ x) = false := by simpa using c1
    rw [e]
    go_enter Tryd.func26, Tryd.ntmps26
    go_wp2
    go_ret
    exact ⟨rfl, rfl⟩

theorem und55 : Tryd.prog.underlying 55 = some (.array (Tryd.prog.arrayLen 55) (Tryd.prog.elem 55)) := by kernel_rfl
theorem arr55 : Tryd.prog.arrayLen 55 = 16 := by kernel_rfl
theorem elem55 : Tryd.prog.elem 55 = 3 := by kernel_rfl
theorem info3 : (Tryd.prog.info? 3).map (fun i => (i.zero, i.size, i.bytes)) = some (some (.int .i64 0), 1, 8) := by kernel_rfl
theorem size3 (W : World) : (sizeOf 3).run Tryd.prog W = .ok 1 W := by
  obtain ⟨i0, hi, hz0, hz1, hz2⟩ := info_parts info3
  simp [sizeOf, typeInfo, hi, hz1]
/-- the array's first n -/
theorem cut_h (p o n : Nat) (hn : n ≤ 16) (W : World) : (Instr.sliceAt 55 (.pointer (some ⟨p, o, none⟩)) none (some (.int .i64 (n : Int))) none).run Tryd.prog W = .ok (.slice (some ⟨p, o, none⟩) n 16) W := by
  rw [run_sliceAt_array_h W 55 _ und55 .i64 (n : Int) (by omega) (by rw [arr55]; omega), elem55, arr55, size3]
  simp [slicedAt, Result.andThen, addr_add]

/-- inUse: the row at cell o -/
theorem inUse_any (p o n : Nat) (w : World) (hm : Mp w p X B) (h4 : 4 ≤ o) (ho : o + 17 ≤ 310) (hc : X (o + 16) = (n : Int)) (hn : n ≤ 16) :
    Calls Tryd.prog 36 #[.pointer (some ⟨p, o, none⟩)] w fun e w' => e = .returned (.slice (some ⟨p, o, none⟩) n 16) ∧ ∃ d, w' = w.drewN d := by
  have c1 := hm.ix (j := o + 16) (by omega) (by omega)
  rw [hc] at c1
  have hcut := cut_h p o n hn
  clear hm hc
  go_enter Tryd.func36, Tryd.ntmps36
  go_wp2
  go_quiet (fail)
  go_wp2
  go_ret
  exact ⟨rfl, nq, rfl⟩

/-- a row's cells behind its add -/
def addX (X : Nat → Int) (o n : Nat) (x : Int) : Nat → Int := fun j => if j = o + 16 then (n : Int) + 1 else if j = o + n then x else X j

set_option maxHeartbeats 1000000 in
theorem radd_any (p o n : Nat) (x : Int) (w : World) (hm : Mp w p X B) (h4 : 4 ≤ o) (ho : o + 17 ≤ 310) (hc : X (o + 16) = (n : Int)) (hn : n < 16) :
    Calls Tryd.prog 44 #[.pointer (some ⟨p, o, none⟩), .int .i64 x] w fun e w' => e = .returned (.tuple #[]) ∧ Mp w' p (addX X o n x) B ∧ Only p w w' := by
  have c1 := hm.ix (j := o + 16) (by omega) (by omega)
  rw [hc] at c1
  have c2 := hm.ix (j := o + n) (by omega) (by omega)
  have f1 := hm.frozen (o + n)
  have hn1 : (n : Int) < 16 := by omega
  have HM := Lib.hid hm
  have HC := Lib.hid hc
  clear hm hc
  go_enter Tryd.func44, Tryd.ntmps44
  go_wp2
  go_still_tail 9, (by kernel_rfl)
  change wpList _ _ _ _ _ w.drew
  have hm1 := Lib.hid (HM.out.drew.put (o + n) x (by omega) (by omega))
  have ho1 := Lib.hid ((Only.refl p w).drew.setCell (q := ⟨p, o + n, none⟩) (.inl rfl) (.int .i64 x))
  have c3 := hm1.out.ix (j := o + 16) (by omega) (by omega)
  rw [if_neg (by omega), HC.out] at c3
  have f3 := hm1.out.frozen (o + 16)
  have c2' : w.drew.cell? ⟨p, o + n, none⟩ = some (.int .i64 (X (o + n))) := c2
  have f1' : w.drew.frozen? ⟨p, o + n, none⟩ = false := f1
  clear c1 c2 f1
  generalize X (o + n) = y at *
  generalize w.drew = wd at *
  generalize hW : wd.setCell ⟨p, o + n, none⟩ (.int .i64 x) = w1 at *
  go_wp2
  go_end0
  refine ⟨rfl, (hm1.out.put (o + 16) ((n : Int) + 1) (by omega) (by omega)).congr fun j _ _ => ?_, ho1.out.setCell (q := ⟨p, o + 16, none⟩) (.inl rfl) _⟩
  rfl

theorem clo_any (x y : Int) (b : Nat) (w : World) (hc : w.cell? ⟨b, 0, none⟩ = some (.int .i64 x)) (r : Bool) (hr : (y == x) = r) :
    Calls Tryd.prog 47 #[.int .i64 y, .pointer (some ⟨b, 0, none⟩)] w fun e w' => e = .returned (.bool r) ∧ w = w' := by
  subst hr
  go_enter Tryd.func47, Tryd.ntmps47
  go_wp2
  go_ret
  exact ⟨rfl, rfl⟩

/-- IndexFunc: k is the first place of x -/
theorem index_any (p o n k b cap : Nat) (x : Int) (w : World) (hm : Mp w p X B) (h4 : 4 ≤ o) (ho : o + n ≤ 310) (hk : k < n) (hno : ∀ i, i < k → X (o + i) ≠ x) (hyes : X (o + k) = x) (hc : w.cell? ⟨b, 0, none⟩ = some (.int .i64 x)) :
    Calls Tryd.prog 48 #[.slice (some ⟨p, o, none⟩) n cap, .func (.func 47) #[] #[.pointer (some ⟨b, 0, none⟩)]] w fun e w' => e = .returned (.int .i64 (k : Int)) ∧ w = w' := by
  have HM := Lib.hid hm
  have HN := Lib.hid hno
  have HY := Lib.hid hyes
  have HC := Lib.hid hc
  clear hm hno hyes hc
  go_enter Tryd.func48, Tryd.ntmps48
  go_wp2
  go_loop [5, 8] (fun _ i => ∃ t : Nat, t ≤ k ∧ i = .int .i64 (t : Int)) (fun _ i => n - (intOf i).toNat)
  case atStart => exact ⟨0, Nat.zero_le _, rfl⟩
  case round =>
    obtain ⟨t, ht, rfl⟩ := hrel
    have hti : (t : Int) < (n : Int) := by omega
    have hc0 := HM.out.ix (j := o + t) (by omega) (by omega)
    by_cases e : t = k
    · have hr : (X (o + t) == x) = true := by rw [e, HY.out]; simp
      have HA := Lib.hid (clo_any x (X (o + t)) b w HC.out true hr)
      clear hr
      have HE := Lib.hid e
      clear e
      generalize X (o + t) = y at *
      go_wp2_with fail
      refine HA.out.mono ?_
      rintro e w' ⟨rfl, rfl⟩
      go_wp2
      go_ret
      exact ⟨by rw [HE.out]; rfl, rfl⟩
    · have hr : (X (o + t) == x) = false := by simpa using HN.out t (by omega)
      have HA := Lib.hid (clo_any x (X (o + t)) b w HC.out false hr)
      clear hr
      generalize X (o + t) = y at *
      go_wp2_with fail
      refine HA.out.mono ?_
      rintro e w' ⟨rfl, rfl⟩
      go_wp2
      go_round
      case rel => exact ⟨t + 1, by omega, by go_num⟩
      case measure => simp [intOf]; omega

/-- a row's cells while DeleteFunc goes on: j is looked at next; behind it -/
def midX (X : Nat → Int) (o k j : Nat) : Nat → Int := fun m => if o + k ≤ m ∧ m + 1 < o + j then X (m + 1) else X m
def delX (X : Nat → Int) (o k n : Nat) : Nat → Int := fun m => if o + k ≤ m ∧ m + 1 < o + n then X (m + 1) else if m + 1 = o + n then 0 else X m

set_option maxHeartbeats 2000000 in
theorem delete_any (p o n k b : Nat) (x : Int) (w : World) (hm : Mp w p X B) (h4 : 4 ≤ o) (ho : o + 16 ≤ 310) (hn : n ≤ 16) (hk : k < n) (hno : ∀ i, i < n → i ≠ k → X (o + i) ≠ x) (hyes : X (o + k) = x) (hc : w.cell? ⟨b, 0, none⟩ = some (.int .i64 x)) (hb : b ≠ p) :
    Calls Tryd.prog 46 #[.slice (some ⟨p, o, none⟩) n 16, .func (.func 47) #[] #[.pointer (some ⟨b, 0, none⟩)]] w fun e w' => e = .returned (.slice (some ⟨p, o, none⟩) (n - 1) 16) ∧ Mp w' p (delX X o k n) B ∧ Only p w w' := by
  have HI := Lib.hid (index_any p o n k b 16 x w hm h4 (by omega) hk (fun i hi => hno i (by omega) (by omega)) hyes hc)
  have HM := Lib.hid hm
  have HN := Lib.hid hno
  have HC := Lib.hid hc
  clear hm hno hyes hc
  go_enter Tryd.func46, Tryd.ntmps46
  go_wp2_with fail
  refine HI.out.mono ?_
  rintro e w' ⟨rfl, rfl⟩
  have t0 : ((k : Int) == -1) = false := by simp
  go_wp2
  go_loopw [5, 6, 7] (fun i j _ wr => ∃ t : Nat, k < t ∧ t ≤ n ∧ i = .int .i64 ((t : Int) - 1) ∧ j = .int .i64 (t : Int) ∧ Mp wr p (midX X o k t) B ∧ Only p w wr) (fun _ j _ _ => n - (intOf j).toNat)
  case atStart => exact ⟨k + 1, by omega, by omega, by go_num, by go_num, HM.out.congr fun m _ _ => by unfold midX; rw [if_neg (by omega)], Only.refl _ _⟩
  case round =>
    obtain ⟨t, ht0, ht, rfl, rfl, hm, hO⟩ := hrel
    have hM := Lib.hid hm
    have HO := Lib.hid hO
    clear hm hO
    have hcw : wr.cell? ⟨b, 0, none⟩ = some (.int .i64 x) := by rw [HO.out.cell (q := ⟨b, 0, none⟩) (lt_of_cell HC.out) hb]; exact HC.out
    by_cases hlt : t < n
    · have hti : (t : Int) < (n : Int) := by omega
      have ht1 : (0 : Int) ≤ (t : Int) - 1 := by omega
      obtain ⟨u, hu⟩ : ∃ u, t = u + 1 := ⟨t - 1, by omega⟩
      subst hu
      have eu : ((u + 1 : Nat) : Int) - 1 = (u : Int) := by omega
      have hc1 := hM.out.ix (j := o + (u + 1)) (by omega) (by omega)
      have hc2 := hM.out.ix (j := o + u) (by omega) (by omega)
      have hf2 := hM.out.frozen (o + u)
      have e1 : midX X o k (u + 1) (o + (u + 1)) = X (o + (u + 1)) := by unfold midX; rw [if_neg (by omega)]
      rw [e1] at hc1
      have hr : (X (o + (u + 1)) == x) = false := by simpa using HN.out (u + 1) (by omega) (by omega)
      have HA := Lib.hid (clo_any x (X (o + (u + 1))) b wr hcw false hr)
      have hm2 := Lib.hid (hM.out.put (o + u) (X (o + (u + 1))) (by omega) (by omega))
      have ho2 := Lib.hid (HO.out.setCell (q := ⟨p, o + u, none⟩) (.inl rfl) (.int .i64 (X (o + (u + 1)))))
      clear hr e1
      obtain ⟨y, hy⟩ : ∃ y, X (o + (u + 1)) = y := ⟨_, rfl⟩
      rw [hy] at hc1 HA hm2 ho2
      have HY := Lib.hid hy
      clear hy
      generalize midX X o k (u + 1) (o + u) = z at *
      rw [eu]
      have hui : (u : Int) < (n : Int) := by omega
      clear eu ht1
      go_wp2_with fail
      refine HA.out.mono ?_
      rintro e w' ⟨rfl, rfl⟩
      go_wp2
      go_roundw
      case rel =>
        refine ⟨u + 2, by omega, by omega, by go_num, by go_num, hm2.out.congr fun m _ _ => ?_, ho2.out⟩
        unfold midX
        by_cases c : m = o + u
        · subst c; rw [if_pos (by omega), if_pos rfl, ← HY.out]; rfl
        · rw [if_neg c]
          by_cases c2 : o + k ≤ m ∧ m + 1 < o + (u + 1)
          · rw [if_pos (by omega), if_pos c2]
          · rw [if_neg (by omega), if_neg c2]
      case measure => simp [intOf]; omega
    · obtain rfl : t = n := by omega
      obtain ⟨m, hm⟩ : ∃ m, t = m + 1 := ⟨t - 1, by omega⟩
      subst hm
      have em : ((m + 1 : Nat) : Int) - 1 = (m : Int) := by omega
      rw [em]
      have hmi : (m : Int) ≤ (m : Int) + 1 := by omega
      have hcl : ∀ ty, (Builtin.clear_ #[27] ty #[.slice (some ⟨p, o + m, none⟩) 1 (16 - m)]).run Tryd.prog wr = .ok (.tuple #[]) (wr.setCell ⟨p, o + m, none⟩ (.int .i64 0)) := fun ty => by
        have := Lib.run_clear_slice (P := Tryd.prog) wr 27 3 ty (.int .i64 0) Tryd.underlying27 (fun _ => Tryd.zeroValue3 _) rfl rfl p (o + m) 1 (16 - m) (by omega) (fun j hj => by
          obtain rfl : j = 0 := by omega
          rw [hM.out.ix (j := o + m + 0) (by omega) (by omega)]; rfl) (fun j _ => hM.out.frozen _)
        rw [this]; rfl
      have hm2 := Lib.hid (hM.out.put (o + m) 0 (by omega) (by omega))
      have ho2 := Lib.hid (HO.out.setCell (q := ⟨p, o + m, none⟩) (.inl rfl) (.int .i64 0))
      have hm16 : m ≤ 16 := by omega
      clear em
      go_wp2
      go_ret
      refine ⟨rfl, hm2.out.congr fun j _ _ => ?_, ho2.out⟩
      unfold delX midX
      by_cases c : j = o + m
      · subst c; rw [if_neg (by omega), if_pos (by omega), if_pos rfl]
      · rw [if_neg c]
        by_cases c2 : o + k ≤ j ∧ j + 1 < o + (m + 1)
        · rw [if_pos c2, if_pos c2]
        · rw [if_neg c2, if_neg c2, if_neg (by omega)]

/-- a row's remove: x stood at place k -/
theorem rremove_any (p o n k : Nat) (x : Int) (w : World) (hm : Mp w p X B) (h4 : 4 ≤ o) (ho : o + 17 ≤ 310) (hc : X (o + 16) = (n : Int)) (hn : n ≤ 16) (hk : k < n) (hno : ∀ i, i < n → i ≠ k → X (o + i) ≠ x) (hyes : X (o + k) = x) :
    Calls Tryd.prog 38 #[.pointer (some ⟨p, o, none⟩), .int .i64 x] w fun e w' => e = .returned (.tuple #[]) ∧ Mp w' p (fun j => if j = o + 16 then (n : Int) - 1 else delX X o k n j) B ∧ Only p w w' := by
  have hlt := hm.lt
  have hm0 := hm.alloc (.cells #[.int .i64 x] 3)
  have HU := Lib.hid (inUse_any p o n _ hm0 h4 ho hc hn)
  have HD := Lib.hid (fun d => delete_any p o n k w.heap.size x _ (hm0.drewN d) h4 (by omega) hn hk hno hyes (by simp) (by omega))
  have ho0 := Lib.hid ((Only.refl p w).alloc (.cells #[.int .i64 x] 3))
  clear hm hm0 hno hyes hc hlt
  go_enter Tryd.func38, Tryd.ntmps38
  go_wp2_with fail
  refine HU.out.mono ?_
  rintro e w1 ⟨rfl, d, rfl⟩
  go_wp2_with fail
  refine (HD.out d).mono ?_
  rintro e w2 ⟨rfl, hm2, ho2⟩
  have HM2 := Lib.hid hm2
  have HO2 := Lib.hid (ho0.out.trans ((Only.refl p _).drewN d |>.trans ho2))
  have c1 := hm2.ix (j := o + 16) (by omega) (by omega)
  have f1 := hm2.frozen (o + 16)
  generalize delX X o k n (o + 16) = z at c1
  clear hm2 ho2
  go_wp2
  go_end0
  refine ⟨rfl, ?_, HO2.out.setCell (q := ⟨p, o + 16, none⟩) (.inl rfl) _⟩
  rw [show ((n - 1 : Nat) : Int) = (n : Int) - 1 by omega]
  exact HM2.out.put (o + 16) ((n : Int) - 1) (by omega) (by omega)
end Go.Proofs.YtfilggkdhcjpbaaDoor
