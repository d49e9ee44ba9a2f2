/-
  PROVED: the Go function detentlaw13.DataDrops returns true for every input, and each argument reads behind the call as it read before (Rows.DataDropsSaid). No condition.
-/
import Derived.Test.YtnbepahanhcmeaaRows
import Derived.Test.YtnbepahanhcmeaaDqO
import Derived.WalkKit
import Derived.ProofKit
import Derived.OpenShut
import Derived.ShutString
import Derived.ChangeOld
import Derived.Below
namespace Go.Proofs.Ytnbepahanhcmeaa.dataDrops
open Go.ChangeShapes Go.WideShapes Go.ChangeAt Go.RowKit
open Go.ChangeMaps (open_string shut_string)
set_option linter.unusedVariables false      -- a walk need not use every 'w<i>' (that an integer argument fits its kind)

theorem own : ownKnob Try.prog.godebug = none := by kernel_rfl

/-- the numbers that came first -/
def dat (t : Nat) : List Int := (List.range t).map fun i : Nat => 100 + (i : Int)
theorem dat_len (t : Nat) : (dat t).length = t := by simp [dat]
theorem dat_succ (t : Nat) : dat (t + 1) = dat t ++ [100 + (t : Int)] := by simp [dat, List.range_succ]
/-- who is not dropped -/
def fl (u t : Nat) : List Int := ((row t).map Prod.fst).filter fun x => decide (x ≠ (u : Int))
theorem fl_succ (u t : Nat) : fl u (t + 1) = if t + 1 = u then fl u t else fl u t ++ [(t : Int) + 1] := by
  unfold fl
  rw [row_succ, List.map_append, List.filter_append]
  by_cases c : t + 1 = u
  · rw [if_pos c]
    have : decide (((t : Int) + 1) ≠ (u : Int)) = false := by simp; omega
    simp
    omega
  · rw [if_neg c]
    have : decide (((t : Int) + 1) ≠ (u : Int)) = true := by simp; omega
    simp
    omega
theorem fl_len (u t : Nat) : (fl u t).length ≤ t := by
  unfold fl
  refine Nat.le_trans (List.length_filter_le _ _) ?_
  rw [List.length_map, row_len]; exact Nat.le_refl _
theorem pos_row {n u : Nat} (h1 : 1 ≤ u) (h2 : u ≤ n) : pos (row n) (u : Int) = u - 1 := by
  refine pos_eq (row_get (t := n) (i := u - 1) (by omega)) (by simp only; omega) (fun j y hj hy => ?_)
  rw [row_get (by omega)] at hy
  injection hy with hy
  subst hy
  simp only; omega
theorem fl_erase {n u : Nat} (h1 : 1 ≤ u) (h2 : u ≤ n) : ((row n).eraseIdx (u - 1)).map Prod.fst = fl u n := by
  have e0 : row n = (row n).take (u - 1) ++ ((u : Int), 1) :: (row n).drop u := by
    have h := row_drop (n := n) (i := u - 1) (by omega)
    rw [show u - 1 + 1 = u by omega, show ((u - 1 : Nat) : Int) + 1 = (u : Int) by omega] at h
    rw [← h, List.take_append_drop]
  have e1 : (row n).eraseIdx (u - 1) = (row n).take (u - 1) ++ (row n).drop u := by
    rw [List.eraseIdx_eq_take_drop_succ, show u - 1 + 1 = u by omega]
  unfold fl
  rw [e1]
  conv => rhs; rw [e0]
  rw [List.map_append, List.map_append, List.filter_append, List.map_cons, List.filter_cons]
  have e2 : decide (((u : Int), (1 : Int)).1 ≠ (u : Int)) = false := by simp
  rw [e2]
  have a1 : (((row n).take (u - 1)).map Prod.fst).filter (fun x => decide (x ≠ (u : Int))) = ((row n).take (u - 1)).map Prod.fst := by
    rw [List.filter_eq_self]
    intro x hx
    obtain ⟨y, hy, rfl⟩ := List.mem_map.1 hx
    obtain ⟨j, hj, e⟩ := List.getElem_of_mem hy
    rw [List.length_take, row_len] at hj
    rw [List.getElem_take] at e
    have h := row_get (t := n) (i := j) (by omega)
    rw [List.getElem?_eq_getElem (by rw [row_len]; omega), e] at h
    injection h with h
    subst h
    simp; omega
  have a2 : (((row n).drop u).map Prod.fst).filter (fun x => decide (x ≠ (u : Int))) = ((row n).drop u).map Prod.fst := by
    rw [List.filter_eq_self]
    intro x hx
    obtain ⟨y, hy, rfl⟩ := List.mem_map.1 hx
    obtain ⟨j, hj, e⟩ := List.getElem_of_mem hy
    rw [List.length_drop, row_len] at hj
    rw [List.getElem_drop] at e
    have h := row_get (t := n) (i := u + j) (by omega)
    rw [List.getElem?_eq_getElem (by rw [row_len]; omega), e] at h
    injection h with h
    subst h
    simp; omega
  rw [a1, a2]
  simp
theorem row_put' {p : Nat} (h0 : 1 ≤ p) (h : p ≤ 16) : addC (row (p - 1)) (p : Int) 1 = 0 ∧ addL false (row (p - 1)) (p : Int) 1 = row p := by
  have := row_put (t := p - 1) (by omega)
  rw [show ((p - 1 : Nat) : Int) + 1 = (p : Int) by omega, show p - 1 + 1 = p by omega] at this
  exact this
/-- each sends its own number -/
def Own (W : Nat → Int) (p : Nat) : Prop := ∀ j : Nat, 1 ≤ j → j < p → W j = (j : Int)
theorem Own.next {W : Nat → Int} {p : Nat} (h : Own W p) : Own (setW W (p : Int).toNat (p : Int)) (p + 1) := by
  intro j h1 h2
  unfold setW
  rw [show (p : Int).toNat = p from rfl]
  by_cases c : j = p
  · subst c; rw [if_pos rfl]
  · rw [if_neg c]; exact h j h1 (by omega)
/-- one is dropped -/
theorem drop_one {k n u : Nat} {W : Nat → Int} {D : List Int} (h1 : 1 ≤ u) (h2 : u ≤ n) : drop ⟨false, k, row n, [], W, D⟩ (u : Int) = (⟨false, k, (row n).eraseIdx (u - 1), [], W, D⟩, true) := by
  unfold drop
  simp only
  rw [pos_row h1 h2, if_pos (by rw [row_len]; omega)]
theorem gone {n u : Nat} (h1 : 1 ≤ u) (h2 : u ≤ n) : ∀ y, y ∈ (row n).eraseIdx (u - 1) → y.1 ≠ (u : Int) := by
  intro y hy e
  have h3 : y.1 ∈ fl u n := by rw [← fl_erase h1 h2]; exact List.mem_map.2 ⟨y, hy, rfl⟩
  unfold fl at h3
  have := (List.mem_filter.1 h3).2
  rw [e] at this
  simp at this
theorem drop_two {k u : Nat} {S : List It} {W : Nat → Int} {D : List Int} (h : ∀ y, y ∈ S → y.1 ≠ (u : Int)) : drop ⟨false, k, S, [], W, D⟩ (u : Int) = (⟨false, k, S, [], W, D⟩, false) := by
  have hp : ¬ pos S (u : Int) < S.length := fun hp => by
    obtain ⟨y, hy, e⟩ := pos_lt.1 hp; exact h y hy e
  unfold drop
  simp only
  rw [if_neg hp]
  simp [pos]
theorem pipe_own {k n u : Nat} {W : Nat → Int} (h1 : 1 ≤ u) (h2 : u ≤ n) (hW : Own W (n + 1)) : pipe ⟨false, k, (row n).eraseIdx (u - 1), [], W, dat k⟩ = dat k ++ fl u n := by
  unfold pipe
  rw [← fl_erase h1 h2]
  simp only
  congr 1
  refine List.map_congr_left fun y hy => ?_
  obtain ⟨i, hi, rfl⟩ := row_mem (List.mem_of_mem_eraseIdx hy)
  rw [hW _ (by simp only; omega) (by simp only; omega)]
  simp only; omega

theorem own_to {w : World} {B n : Nat} {v : Value} {L M : List Int} {x : Int} (e : M = L ++ [x]) (hn : L.length = n) (h : w.ownsRow B 3 1 v (n + 1) (K.vals K.ci (L ++ [x]))) : Ow w B v M := by
  subst e
  unfold Ow
  rw [List.length_append, hn]; exact h

set_option maxRecDepth 100000 in
set_option maxHeartbeats 1000000 in
/-- nothing is asked -/
theorem walkOut (a0 a1 a2 : Int) (w : World) (h : ¬ ((1 ≤ a1 ∧ a1 ≤ 10) ∧ 1 ≤ a2 ∧ a2 ≤ a1)) :
    Calls Try.prog 7 #[.int .u8 a0, .int .i64 a1, .int .i64 a2] w fun e w' => e = .returned (.bool true) ∧ Below w.heap.size w w' := by
  obtain ⟨b1, hb1⟩ : ∃ b, decide (a1 < 1) = b := ⟨_, rfl⟩
  obtain ⟨b2, hb2⟩ : ∃ b, decide (10 < a1) = b := ⟨_, rfl⟩
  obtain ⟨b3, hb3⟩ : ∃ b, decide (a2 < 1) = b := ⟨_, rfl⟩
  obtain ⟨b4, hb4⟩ : ∃ b, decide (a1 < a2) = b := ⟨_, rfl⟩
  have hor : (b1 || b2 || b3 || b4) = true := by
    rw [← hb1, ← hb2, ← hb3, ← hb4]
    simp only [Bool.or_eq_true, decide_eq_true_eq]
    omega
  clear h
  cases b1 <;> cases b2 <;> cases b3 <;> cases b4 <;> first | (simp at hor; done) | (
    clear hor
    go_enter Try.func7, Try.ntmps7
    go_wp2_with fail
    refine (known_ok w).mono ?_
    rintro e w1 ⟨rfl, hb⟩
    go_wp2
    go_ret
    exact ⟨rfl, hb⟩)


/-! ### the walk -/
set_option maxRecDepth 100000 in
set_option maxHeartbeats 4000000 in
theorem walk (a0 : Int) (a1 : Int) (a2 : Int) (w0 : (Lit.int .u8 a0).wf = true) (w1 : (Lit.int .i64 a1).wf = true) (w2 : (Lit.int .i64 a2).wf = true) (w : World) :
    Calls Try.prog 7 #[.int .u8 a0, .int .i64 a1, .int .i64 a2] w fun e w' => e = .returned (.bool true) ∧ Below w.heap.size w w' := by
  by_cases hbad : ¬ ((1 ≤ a1 ∧ a1 ≤ 10) ∧ 1 ≤ a2 ∧ a2 ≤ a1)
  · exact walkOut a0 a1 a2 w hbad
  have hgood : (1 ≤ a1 ∧ a1 ≤ 10) ∧ 1 ≤ a2 ∧ a2 ≤ a1 := Classical.byContradiction hbad
  clear hbad
  have hk := bounds_u8 w0
  obtain ⟨a, rfl⟩ : ∃ a : Nat, a0 = (a : Int) := ⟨a0.toNat, by omega⟩
  obtain ⟨n, rfl⟩ : ∃ n : Nat, a1 = (n : Int) := ⟨a1.toNat, by omega⟩
  obtain ⟨u, rfl⟩ : ∃ u : Nat, a2 = (u : Int) := ⟨a2.toNat, by omega⟩
  obtain ⟨k, hk5⟩ : ∃ k, a % 5 = k := ⟨_, rfl⟩
  have hk4 : k ≤ 4 := by omega
  have hmod : (a : Int) % 5 = (k : Int) := by omega
  have hn1 : 1 ≤ n := by omega
  have hn10 : n ≤ 10 := by omega
  have hu1 : 1 ≤ u := by omega
  have hun : u ≤ n := by omega
  have s1 : decide ((n : Int) < 1) = false := by simp; omega
  have s2 : decide (10 < (n : Int)) = false := by simp; omega
  have s3 : decide ((u : Int) < 1) = false := by simp; omega
  have s4 : decide ((n : Int) < (u : Int)) = false := by simp; omega
  have s5 : decide (n < u) = false := by simp; omega
  have s6 : decide (10 < n) = false := by simp; omega
  have hn10i : (n : Int) ≤ 10 := by omega
  have hk4i : (k : Int) ≤ 4 := by omega
  have HG := Lib.hid hgood
  have HK := Lib.hid hk4
  have HN := Lib.hid (And.intro hn1 hn10)
  have HU := Lib.hid (And.intro hu1 hun)
  clear w0 w1 w2 hk hk5 hgood hk4 hn1 hn10 hu1 hun
  go_enter Try.func7, Try.ntmps7
  go_wp2_with fail
  refine (known_ok w).mono ?_
  rintro e w1 ⟨rfl, hb⟩
  have HNew := Lib.hid (new_at w w1 false k (by have := HK.out; omega) hb)
  clear hb
  go_wp2_with fail
  refine HNew.out.mono ?_
  rintro e w2 ⟨s, v, rfl, ha, _, _, _⟩
  have HA := Lib.hid ha
  clear ha HNew s1 s2 s3 s4 s5 s6
  go_wp2
  clear hmod
  go_loopw [10] (fun i wr => ∃ (t : Nat) (v : Value), t ≤ k ∧ i = .int .i64 (t : Int) ∧ At w s v ⟨false, k, [], [], fun _ => 0, dat t⟩ wr) (fun i _ => k - (intOf i).toNat)
  case atStart => exact ⟨0, v, Nat.zero_le _, rfl, HA.out⟩
  case round =>
    obtain ⟨t, v, ht, rfl, ha⟩ := hrel
    by_cases hlt : t < k
    · have hlt' : (t : Int) < (k : Int) := by omega
      have HT := Lib.hid (trySend_at ha (trySend_room (x := 100 + (t : Int)) rfl (by rw [dat_len]; exact hlt)))
      clear ha
      go_wp2_with fail
      refine HT.out.mono ?_
      rintro e w3 ⟨rfl, v3, ha, _⟩
      have HA3 := Lib.hid ha
      clear ha HT
      go_wp2
      refine ⟨⟨t + 1, v3, by omega, by go_num, ?_⟩, by simp [intOf]; omega⟩
      rw [dat_succ]; exact HA3.out
    · obtain rfl : t = k := by omega
      have HA3 := Lib.hid ha
      clear ha
      go_wp2
      go_loopw [11] (fun i wr => ∃ (p : Nat) (v : Value) (W : Nat → Int), 1 ≤ p ∧ p ≤ n + 1 ∧ i = .int .i64 (p : Int) ∧ Own W p ∧ At w s v ⟨false, t, row (p - 1), [], W, dat t⟩ wr) (fun i _ => n + 1 - (intOf i).toNat)
      case atStart => exact ⟨1, v, fun _ => 0, by omega, by omega, rfl, fun j h1 h2 => absurd h2 (by omega), HA3.out⟩
      case round =>
        obtain ⟨p, v, W, hp1, hp2, rfl, hown, ha⟩ := hrel
        have HO := Lib.hid hown
        clear hown
        by_cases hlt : p ≤ n
        · have hlt' : (p : Int) ≤ (n : Int) := by omega
          have hp := row_put' (p := p) hp1 (by omega)
          have HT := Lib.hid (send_at ha (send_wait (x := (p : Int)) rfl (by rw [dat_len]; simp) hp.1 hp.2))
          clear ha hp
          go_wp2_with fail
          refine HT.out.mono ?_
          rintro e w3 ⟨rfl, v3, ha, _⟩
          have HA4 := Lib.hid ha
          clear ha HT
          go_wp2
          refine ⟨⟨p + 1, v3, _, by omega, by omega, by go_num, HO.out.next, ?_⟩, by simp [intOf]; omega⟩
          rw [show p + 1 - 1 = p by omega]; exact HA4.out
        · obtain rfl : p = n + 1 := by omega
          rw [show n + 1 - 1 = n by omega] at ha
          have HD := Lib.hid (drop_at ha (drop_one HU.out.1 HU.out.2))
          clear ha
          go_wp2_with fail
          refine HD.out.mono ?_
          rintro e w4 ⟨rfl, ha, _⟩
          have HD2 := Lib.hid (drop_at ha (drop_two (gone HU.out.1 HU.out.2)))
          clear ha HD
          go_wp2_with fail
          refine HD2.out.mono ?_
          rintro e w5 ⟨rfl, ha, _⟩
          have hpipe := pipe_own (k := t) HU.out.1 HU.out.2 HO.out
          have hflow : Flow ⟨false, t, (row n).eraseIdx (u - 1), [], W, dat t⟩ := ⟨rfl, rfl, fun _ => by rw [dat_len]; exact Nat.le_refl _⟩
          have hgone := gone HU.out.1 HU.out.2
          obtain ⟨T, hT⟩ : ∃ T : St, (⟨false, t, (row n).eraseIdx (u - 1), [], W, dat t⟩ : St) = T := ⟨_, rfl⟩
          have hgone' : ∀ y, y ∈ T.S → y.1 ≠ (u : Int) := by rw [← hT]; exact hgone
          rw [hT] at ha hpipe hflow
          have HA5 := Lib.hid ha
          have HP := Lib.hid hpipe
          have HFL := Lib.hid hflow
          have HGO := Lib.hid hgone'
          clear ha HD2 hpipe hflow hgone hgone' hT
          go_wp2
          go_loopw [13, 12] (fun i o wr => ∃ (j : Nat) (uw : Value), j ≤ t ∧ i = .int .i64 (j : Int) ∧ uw = o ∧ At w s v T wr ∧ Side wr w.heap.size v uw (dat j)) (fun i _ _ => t - (intOf i).toNat)
          case atStart => exact ⟨0, _, Nat.zero_le _, rfl, rfl, HA5.out, Side.nil _ _ _⟩
          case round =>
            obtain ⟨j, uw, hj, rfl, rfl, ha, hsd⟩ := hrel
            by_cases hlt : j < t
            · have hlt' : (j : Int) < (t : Int) := by omega
              have HSL := Lib.hid (dat_len j)
              have HSU := Lib.hid (dat_succ j)
              have HWB := Lib.hid (show Below wr.heap.size wr (wr.alloc (.cells #[.int .i64 (100 + (j : Int))] 3)) from (Below.refl _ _).alloc (Nat.le_refl _) _)
              have src := K.sr_one K.ci wr 3 (100 + (j : Int))
              rw [show (K.ci (100 + (j : Int))).toArray = #[.int .i64 (100 + (j : Int))] from rfl] at src
              have HAB := Lib.hid (ha.below HWB.out)
              have HSB := Lib.hid (hsd.below HWB.out)
              have hownb := HSB.out.o
              unfold Ow at hownb
              rw [HSL.out] at hownb
              have HBS := Lib.hid HAB.out.b.size
              have b2 : j + 1 ≤ 100000 := by omega
              clear ha hsd
              go_wp2_with (first
                | (refine K.wpList_append_one K.ki (by decide) rfl _ _ rfl w.heap.size uw (dat j) (100 + (j : Int)) j HSL.out rfl hownb _ 1 rfl src b2 HBS.out ?_
                   intro X7 k7 w7 hown7 hgr7 hwh7
                   have hOw : Ow w7 w.heap.size (.slice X7 (j + 1) k7) _ := own_to HSU.out HSL.out hown7
                   have HA7 := Lib.hid (HAB.out.grown hgr7 HSB.out)
                   have HS7 := Lib.hid (HSB.out.app HAB.out.row hOw hwh7)
                   clear hown7 hgr7 hwh7 hownb src hOw))
              exact ⟨⟨j + 1, _, by omega, by go_num, rfl, HA7.out, HS7.out⟩, by simp [intOf]; omega⟩
            · obtain rfl : j = t := by omega
              have HA6 := Lib.hid ha
              have HS6 := Lib.hid hsd
              clear ha hsd
              go_wp2
              go_loopw [14, 12] (fun i o wr => ∃ (p : Nat) (uw : Value), 1 ≤ p ∧ p ≤ n + 1 ∧ i = .int .i64 (p : Int) ∧ uw = o ∧ At w s v T wr ∧ Side wr w.heap.size v uw (dat j ++ fl u (p - 1))) (fun i _ _ => n + 1 - (intOf i).toNat)
              case atStart => exact ⟨1, _, by omega, by omega, rfl, rfl, HA6.out, by rw [show fl u (1 - 1) = [] from rfl, List.append_nil]; exact HS6.out⟩
              case round =>
                obtain ⟨p, uw, hp1, hp2, rfl, rfl, ha, hsd⟩ := hrel
                by_cases hlt : p ≤ n
                · have hlt' : (p : Int) ≤ (n : Int) := by omega
                  by_cases hpu : p = u
                  · have tpu : ((p : Int) != (u : Int)) = false := by simp; omega
                    have HPU := Lib.hid hpu
                    have HA7 := Lib.hid ha
                    have HS7 := Lib.hid hsd
                    clear ha hsd hpu
                    go_wp2
                    refine ⟨⟨p + 1, _, by omega, by omega, by go_num, rfl, HA7.out, ?_⟩, by simp [intOf]; omega⟩
                    have e := fl_succ u (p - 1)
                    rw [show p - 1 + 1 = p by omega, if_pos HPU.out] at e
                    rw [show p + 1 - 1 = p by omega, e]
                    exact HS7.out
                  · have tpu : ((p : Int) != (u : Int)) = true := by simp; omega
                    have hfs : fl u p = fl u (p - 1) ++ [(p : Int)] := by
                      have e := fl_succ u (p - 1)
                      rw [show p - 1 + 1 = p by omega, if_neg hpu, show ((p - 1 : Nat) : Int) + 1 = (p : Int) by omega] at e
                      exact e
                    have hl2 : dat j ++ fl u p = (dat j ++ fl u (p - 1)) ++ [(p : Int)] := by rw [hfs, List.append_assoc]
                    obtain ⟨q, hq⟩ : ∃ q, (dat j ++ fl u (p - 1)).length = q := ⟨_, rfl⟩
                    have hq100 : q ≤ 100 := by rw [← hq, List.length_append, dat_len]; have := fl_len u (p - 1); have := HK.out; have := HN.out; omega
                    clear hpu hfs
                    have HSL := Lib.hid (hq)
                    have HSU := Lib.hid (hl2)
                    have HWB := Lib.hid (show Below wr.heap.size wr (wr.alloc (.cells #[.int .i64 (p : Int)] 3)) from (Below.refl _ _).alloc (Nat.le_refl _) _)
                    have src := K.sr_one K.ci wr 3 (p : Int)
                    rw [show (K.ci (p : Int)).toArray = #[.int .i64 (p : Int)] from rfl] at src
                    have HAB := Lib.hid (ha.below HWB.out)
                    have HSB := Lib.hid (hsd.below HWB.out)
                    have hownb := HSB.out.o
                    unfold Ow at hownb
                    rw [HSL.out] at hownb
                    have HBS := Lib.hid HAB.out.b.size
                    have b2 : q + 1 ≤ 100000 := by omega
                    clear ha hsd
                    go_wp2_with (first
                      | (refine K.wpList_append_one K.ki (by decide) rfl _ _ rfl w.heap.size uw (dat j ++ fl u (p - 1)) (p : Int) q HSL.out rfl hownb _ 1 rfl src b2 HBS.out ?_
                         intro X7 k7 w7 hown7 hgr7 hwh7
                         have hOw : Ow w7 w.heap.size (.slice X7 (q + 1) k7) _ := own_to HSU.out HSL.out hown7
                         have HA7 := Lib.hid (HAB.out.grown hgr7 HSB.out)
                         have HS7 := Lib.hid (HSB.out.app HAB.out.row hOw hwh7)
                         clear hown7 hgr7 hwh7 hownb src hOw))
                    exact ⟨⟨p + 1, _, by omega, by omega, by go_num, rfl, HA7.out, by rw [show p + 1 - 1 = p by omega]; exact HS7.out⟩, by simp [intOf]; omega⟩
                · rw [show p - 1 = n by omega] at hsd
                  obtain ⟨wl, hwl⟩ : ∃ wl, dat j ++ fl u n = wl := ⟨_, rfl⟩
                  have hwl30 : wl.length ≤ 14 := by rw [← hwl, List.length_append, dat_len]; have := fl_len u n; have := HK.out; have := HN.out; omega
                  rw [hwl] at hsd HP
                  have HA6 := Lib.hid ha
                  have HS6 := Lib.hid hsd
                  have HWL := Lib.hid hwl30
                  clear ha hsd hwl hwl30
                  go_wp2
                  go_loopw [16, 15] (fun i o wr => ∃ (q : Nat) (ug v : Value) (T : St), q ≤ 30 ∧ i = .int .i64 (q : Int) ∧ ug = o ∧ At w s v T wr ∧ Flow T ∧ pipe T = wl.drop q ∧ (∀ y, y ∈ T.S → y.1 ≠ (u : Int)) ∧ Side wr w.heap.size v ug (wl.take q) ∧ Side wr w.heap.size v uw wl ∧ Side wr w.heap.size ug uw wl) (fun i _ _ => 30 - (intOf i).toNat)
                  case atStart => exact ⟨0, _, v, T, Nat.zero_le _, rfl, rfl, HA6.out, HFL.out, HP.out, HGO.out, by rw [List.take_zero]; exact Side.nil _ _ _, HS6.out, ⟨HS6.out.o, fun g _ e => by cases e⟩⟩
                  case round =>
                    obtain ⟨q, ug, v, T, hq, rfl, rfl, ha, hf, hp, hgo, sg, sw, swg⟩ := hrel
                    have SWG := Lib.hid swg
                    by_cases hlt : q < 30
                    · have hlt' : (q : Int) < 30 := by omega
                      cases hd : wl.drop q with
                      | nil =>
                        have tz : ((0 : Int) == (u : Int)) = false := by have := HU.out.1; simp; omega
                        have HT := Lib.hid (tryRecv_at ha (pipe_none (hp.trans hd)))
                        have HA7 := Lib.hid ha
                        have SG := Lib.hid sg
                        have SW := Lib.hid sw
                        have HF7 := Lib.hid hf
                        have HP7 := Lib.hid hp
                        have HG7 := Lib.hid hgo
                        have HD7 := Lib.hid hd
                        clear ha hf hp hgo sg sw swg hd
                        go_wp2_with fail
                        refine HT.out.mono ?_
                        rintro e w3 ⟨rfl, v3, ha, hk⟩
                        have SG3 := SG.out.dt HA7.out hk
                        have SW3 := SW.out.dt HA7.out hk
                        have HB3 := Lib.hid (show Below w3.heap.size w3 (w3.alloc (.cells #[.int .i64 0, .bool false, .int .i64 0] 44)) from (Below.refl _ _).alloc (Nat.le_refl _) _)
                        have bx := box3_new w3 44 (.int .i64 0) (.bool false) (.int .i64 0)
                        have HA8 := Lib.hid (ha.below HB3.out)
                        have SG8 := Lib.hid (SG3.below HB3.out)
                        have SW8 := Lib.hid (SW3.below HB3.out)
                        have b1 := bx.c1
                        have b2 := bx.c2
                        clear ha hk SG3 SW3 bx HT
                        go_wp2
                        have hl : wl.length ≤ q := List.drop_eq_nil_iff.1 HD7.out
                        refine ⟨⟨q + 1, _, v3, T, by omega, by go_num, rfl, HA8.out, HF7.out, ?_, HG7.out, ?_, SW8.out, ⟨SW8.out.o, SWG.out.a⟩⟩, by simp [intOf]; omega⟩
                        · rw [HP7.out, HD7.out, List.drop_of_length_le (by omega)]
                        · have e : wl.take (q + 1) = wl.take q := by rw [List.take_of_length_le (by omega), List.take_of_length_le hl]
                          rw [e]; exact SG8.out
                      | cons d P =>
                        obtain ⟨T', k', hr, hp', hf', hm', hcase⟩ := pipe_some (hp.trans hd) hf
                        have tz : (k' == (u : Int)) = false := by
                          rcases hcase with ⟨_, _, e⟩ | ⟨y, hy, e⟩
                          · subst e; have := HU.out.1; simp; omega
                          · subst e; have := hgo y (by rw [hy]; simp); simpa using this
                        have hgo' : ∀ y, y ∈ T'.S → y.1 ≠ (u : Int) := by
                          rcases hcase with ⟨_, e, _⟩ | ⟨y, hy, _⟩
                          · rw [e]; intro y hy; simp at hy
                          · intro z hz; exact hgo z (by rw [hy]; exact List.mem_cons_of_mem _ hz)
                        have hlq : q < wl.length := by
                          have h := congrArg List.length hd
                          rw [List.length_drop, List.length_cons] at h; omega
                        have hdq : wl[q]? = some d := by
                          have h := congrArg (fun l => l[0]?) hd
                          simpa using h
                        have hdp : wl.drop (q + 1) = P := by
                          have h := congrArg List.tail hd
                          rw [List.tail_drop] at h; exact h
                        have HSU := Lib.hid (take_next hdq)
                        have HSL := Lib.hid (show (wl.take q).length = q by rw [List.length_take]; omega)
                        have HT := Lib.hid (tryRecv_at ha hr)
                        have HA7 := Lib.hid ha
                        have SG := Lib.hid sg
                        have SW := Lib.hid sw
                        have HF7 := Lib.hid hf'
                        have HP7 := Lib.hid (hp'.trans hdp.symm)
                        have HG7 := Lib.hid hgo'
                        clear ha hf hp hgo sg sw swg hd hr hp' hf' hm' hcase hgo' hdq hdp hlq
                        go_wp2_with fail
                        refine HT.out.mono ?_
                        rintro e w3 ⟨rfl, v3, ha, hk⟩
                        have SG3 := SG.out.dt HA7.out hk
                        have SW3 := SW.out.dt HA7.out hk
                        have bx := box3_new w3 44 (.int .i64 d) (.bool true) (.int .i64 k')
                        have HB3 := Lib.hid (show Below w3.heap.size w3 (w3.alloc (.cells #[.int .i64 d, .bool true, .int .i64 k'] 44)) from (Below.refl _ _).alloc (Nat.le_refl _) _)
                        have HA8 := Lib.hid (ha.below HB3.out)
                        have SG8 := Lib.hid (SG3.below HB3.out)
                        have SW8 := Lib.hid (SW3.below HB3.out)
                        have b0 := bx.c0
                        have b1 := bx.c1
                        have b2 := bx.c2
                        clear ha hk SG3 SW3 bx HT HB3
                        obtain ⟨wx, hwx⟩ : ∃ wx, w3.alloc (.cells #[.int .i64 d, .bool true, .int .i64 k'] 44) = wx := ⟨_, rfl⟩
                        rw [hwx] at HA8 SG8 SW8 b0 b1 b2
                        have HWB := Lib.hid (show Below wx.heap.size wx (wx.alloc (.cells #[.int .i64 d] 3)) from (Below.refl _ _).alloc (Nat.le_refl _) _)
                        have src := K.sr_one K.ci wx 3 d
                        rw [show (K.ci d).toArray = #[.int .i64 d] from rfl] at src
                        have HAB := Lib.hid (HA8.out.below HWB.out)
                        have HSB := Lib.hid (SG8.out.below HWB.out)
                        have HWS := Lib.hid (SW8.out.below HWB.out)
                        have HGS : Hid (Side (wx.alloc (.cells #[.int .i64 d] 3)) w.heap.size ug uw wl) := Lib.hid ⟨HWS.out.o, SWG.out.a⟩
                        have hownb := HSB.out.o
                        unfold Ow at hownb
                        rw [HSL.out] at hownb
                        have HBS := Lib.hid HAB.out.b.size
                        have bb : q + 1 ≤ 100000 := by omega
                        go_wp2_with (first
                          | (refine K.wpList_append_one K.ki (by decide) rfl _ _ rfl w.heap.size ug (wl.take q) d q HSL.out rfl hownb _ 1 rfl src bb HBS.out ?_
                             intro X7 k7 w7 hown7 hgr7 hwh7
                             have hOw : Ow w7 w.heap.size (.slice X7 (q + 1) k7) _ := own_to HSU.out HSL.out hown7
                             have HA9 := Lib.hid (HAB.out.grown hgr7 HSB.out)
                             have SG9 := Lib.hid (HSB.out.app HAB.out.row hOw hwh7)
                             have GW9 := Lib.hid (HGS.out.grown hgr7 hwh7)
                             clear hown7 hgr7 hwh7 hownb src hOw b0 b1 b2 hwx))
                        exact ⟨⟨q + 1, _, v3, T', by omega, by go_num, rfl, HA9.out, HF7.out, HP7.out, HG7.out, SG9.out, ⟨GW9.out.o, HWS.out.a⟩, GW9.out⟩, by simp [intOf]; omega⟩
                    · obtain rfl : q = 30 := by omega
                      rw [List.take_of_length_le (by have := HWL.out; omega)] at sg
                      have HS := Lib.hid (same_true _ _ _ _ wr (Nr.of_own sg.o) (Nr.of_own sw.o) rfl)
                      have HB := Lib.hid ha.b
                      clear ha hf hp hgo sg sw swg
                      go_wp2_with fail
                      refine HS.out.mono ?_
                      rintro e w9 ⟨rfl, hb⟩
                      have HB9 := Lib.hid (below_trans HB.out hb)
                      clear hb HS
                      go_wp2
                      go_ret
                      exact ⟨rfl, HB9.out⟩

/-! ### THE ROW's STEP: WRITTEN OUT: LEAVE IT -/
set_option maxRecDepth 100000 in
theorem lifted (os : Os) (started : os.Started) (H : Type) (enc : TypeId × Value → H) :
    ReturnsInHanded {} Try.checked os 7 .any (Rows.dataDropsSpec.pre6 enc Try.prog Try.f7 Rows.dataDropsRow.domain false) (Rows.dataDropsSpec.post enc Try.prog Try.f7 false true false false) := by
  refine returnsInHanded_of_change (C := Try.checked) own started (by kernel_rfl) Try.func7
    (ChangeSpec.witness6 (enc := enc) (C := Try.checked) false ⟨#[], #[.int .u8 0, .int .i64 0, .int .i64 0], []⟩ 8 (by kernel_rfl) (by kernel_rfl) (by kernel_rfl) (by kernel_rfl)) ?_
  intro W base args ds gs before hval0 hW hcnd _
  have hval : ∀ (j : Nat) t v, Try.f7.params[j]? = some t → args[j]? = some v → Value.okWide Try.prog W .any base t v := hval0
  have hW' := hW
  obtain ⟨p, q, hA0, hV, rfl, hfz, hnd⟩ := hW
  have hA : DataW.TrodAll enc Try.prog W 0 (fun _ => true) true Try.f7.params.toList args.toList ds p := hA0
  rw [Try.params7] at hA hval
  obtain ⟨v0, vs0, d0, ds0, p0, q0, hargs, rfl, rfl, h0, r0⟩ := trodAll_cons hA
  obtain ⟨v1, vs1, d1, ds1, p1, q1, rfl, rfl, rfl, h1, r1⟩ := trodAll_cons r0
  obtain ⟨v2, vs2, d2, ds2, p2, q2, rfl, rfl, rfl, h2, r2⟩ := trodAll_cons r1
  obtain ⟨rfl, rfl, rfl⟩ := trodAll_nil r2
  obtain rfl : args = #[v0, v1, v2] := by cases args; simp_all
  obtain ⟨rfl, rfl⟩ := trodVars_none hV
  obtain ⟨a0, rfl, rfl, rfl, w0⟩ := open_int Try.underlying5 (hval 0 5 v0 rfl rfl) h0
  obtain ⟨a1, rfl, rfl, rfl, w1⟩ := open_int Try.underlying3 (hval 1 3 v1 rfl rfl) h1
  obtain ⟨a2, rfl, rfl, rfl, w2⟩ := open_int Try.underlying3 (hval 2 3 v2 rfl rfl) h2
  clear hA0 hval0
  simp only [List.append_nil] at hW'
  refine (walk a0 a1 a2 w0 w1 w2 W).mono fun e W' ⟨he, hg⟩ => ?_
  subst he
  exact ⟨_, rfl, _, _, _, [], [], [], hW', (trodAll_cons_mk (shut_bool Try.underlying4 _) trodAll_mk0), (trodAll_cons_mk (shut_int Try.underlying5 w0) (trodAll_cons_mk (shut_int Try.underlying3 w1) (trodAll_cons_mk (shut_int Try.underlying3 w2) trodAll_mk0))), rfl, hg.frame _, fun h => by cases h⟩

theorem over : Rows.dataDropsRow.holds Try.pinned (OpenSpec.ofChange Rows.dataDropsSpec) :=
  OpenClaim.holds_of_wide 7 Try.f7 rfl rfl rfl rfl rfl rfl rfl ⟨rfl, rfl, rfl, rfl, rfl⟩ rfl rfl rfl rfl rfl (by kernel_rfl) Try.func7 (by kernel_rfl)
    (of_decide_eq_true (by kernel_rfl)) (by unfold Func.isWrapper; first | (rw [if_pos (by decide +kernel)]; kernel_rfl) | (rw [if_neg (by decide +kernel)]; exact ⟨rfl, rfl⟩))
    (fun os started H enc _ => lifted os started H enc)

/-- ████ THE STATEMENT ████ -/
theorem proved : Rows.DataDropsSaid :=
  over
#print axioms proved
end Go.Proofs.Ytnbepahanhcmeaa.dataDrops
namespace Go.Proofs.Ytnbepahanhcmeaa
theorem dataDrops_holds : Rows.DataDropsSaid := dataDrops.proved
end Go.Proofs.Ytnbepahanhcmeaa
