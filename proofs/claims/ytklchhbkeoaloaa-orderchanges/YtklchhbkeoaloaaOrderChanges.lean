/-
  PROVED: the Go function detentlaw4.OrderChanges returns true for every input, and each argument reads behind the call as it read before (Rows.OrderChangesSaid). No condition.
-/
import Derived.Test.YtklchhbkeoaloaaRows
import Derived.Test.YtklchhbkeoaloaaConL
import Derived.WalkKit
import Derived.ProofKit
import Derived.OpenShut
import Derived.ShutString
import Derived.ChangeOld
import Derived.Below
namespace Go.Proofs.Ytklchhbkeoaloaa.orderChanges
open Go.ChangeShapes Go.WideShapes Go.ChangeAt Go.RowKit
open Go.ChangeMaps (open_string shut_string)
set_option linter.unusedVariables false

theorem own : ownKnob Try.prog.godebug = none := by kernel_rfl
theorem laidOut : laidOutB Try.prog = true := by kernel_rfl

/-- WHAT THE WALK IS TOLD OF A SLICE OF INTEGERS THAT CAME IN: it is nil; or it leads to a row of 'cap' cells, the numbers 'zs' (the first 'len' are its elements, the rest its spare room), each fitting its kind. -/
def IsRow (k : IntKind) (w : World) (a : Option Addr) (len cap : Nat) (zs : List Int) : Prop :=
  (a = none ∧ len = 0 ∧ cap = 0 ∧ zs = []) ∨
  ∃ x, a = some x ∧ len ≤ cap ∧ cap ≤ maxLen ∧ zs.length = cap ∧ (∀ i, i < zs.length → w.cell? (x.add i) = some (.int k (zs.getD i 0))) ∧ ∀ n ∈ zs, (Lit.int k n).wf = true

def Post (w : World) (e : Ending) (w' : World) : Prop := e = .returned (.bool true) ∧ Below w.heap.size w w'

/-- the priorities -/
def pr (q : Nat → Nat) (j : Nat) : Int := ((1 + q j % 16 : Nat) : Int)
theorem pr_in (q : Nat → Nat) (j : Nat) : 1 ≤ pr q j ∧ pr q j ≤ 16 := by unfold pr; omega

/-- as far as the elder row is gone over when t of the newer one are -/
def kx (a c t : Nat) : Nat := if (if t ≤ c then t else t - 1) ≤ a then (if t ≤ c then t else t - 1) else (if t ≤ c then t else t - 1) + 1

structure Chg (F N : List It) (who pri : Int) (a c : Nat) : Prop where
  len : N.length = F.length
  ord : ∀ (i : Nat) (x y : It), N[i]? = some x → N[i + 1]? = some y → x.2 ≤ y.2
  one : ∀ (t : Nat) (x : It), N[t]? = some x → x.1 = who → x.2 = pri ∧ (∀ y : It, N[t + 1]? = some y → y.2 ≠ pri) ∧ kx a c (t + 1) = kx a c t
  two : ∀ (t : Nat) (x : It), N[t]? = some x → x.1 ≠ who → ∃ y : It, F[kx a c t]? = some y ∧ ((y.1 = who ∧ F[kx a c t + 1]? = some x ∧ kx a c (t + 1) = kx a c t + 2) ∨ (y.1 ≠ who ∧ y = x ∧ kx a c (t + 1) = kx a c t + 1))

theorem chg_of {F : List It} {who pri : Int} (hG : Good true F) (hp : pos F who < F.length) (hpri : 1 ≤ pri ∧ pri ≤ 16) :
    ∃ a c, Chg F (chgL true F who pri) who pri a c := by
  obtain ⟨q, hq⟩ := pos_at hp
  obtain ⟨a, ha⟩ : ∃ a, pos F who = a := ⟨_, rfl⟩
  obtain ⟨c, hc⟩ : ∃ c, plc true (F.eraseIdx a) pri = c := ⟨_, rfl⟩
  have hG' := hG.chgL who pri
  have hN : chgL true F who pri = ins (F.eraseIdx a) c (who, pri) := by
    unfold chgL; rw [if_pos ⟨hp, hpri⟩, if_pos rfl, ha, hc]
  rw [ha] at hq hp
  have hout := hG.out hq
  have hM := hG.erase a
  have hcl : c ≤ (F.eraseIdx a).length := by rw [← hc]; exact plc_le _ _ _
  have hlen : (F.eraseIdx a).length = F.length - 1 := List.length_eraseIdx_of_lt hp
  have hF : ∀ (j : Nat) (y : It), F[j]? = some y → y.1 = who → j = a := fun j y hy he => by
    by_cases e : j = a
    · exact e
    · exfalso
      have : y ∈ F.eraseIdx a := List.mem_eraseIdx_iff_getElem?.2 ⟨j, e, hy⟩
      exact hout y this he
  refine ⟨a, c, ?_⟩
  rw [hN] at hG' ⊢
  refine ⟨by rw [ins_len hcl, hlen]; omega, fun i x y hx hy => ?_, fun t x hx he => ?_, fun t x hx he => ?_⟩
  · obtain ⟨h1, e1⟩ := List.getElem?_eq_some_iff.1 hx
    obtain ⟨h2, e2⟩ := List.getElem?_eq_some_iff.1 hy
    have := (List.pairwise_iff_getElem.1 (hG'.ord rfl)) i (i + 1) h1 h2 (by omega)
    rwa [e1, e2] at this
  · rw [getElem?_ins hcl] at hx
    have htc : t = c := by
      by_cases e : t < c
      · rw [if_pos e] at hx; exact absurd he (hout x (List.mem_of_getElem? hx))
      · rw [if_neg e] at hx
        by_cases e2 : t = c
        · exact e2
        · rw [if_neg e2] at hx; exact absurd he (hout x (List.mem_of_getElem? hx))
    subst htc
    rw [if_neg (by omega), if_pos rfl] at hx
    injection hx with hx
    subst hx
    refine ⟨rfl, fun y hy => ?_, ?_⟩
    · rw [getElem?_ins hcl, if_neg (by omega), if_neg (by omega), Nat.add_sub_cancel] at hy
      have := plc_at (L := F.eraseIdx a) (pri := pri) (y := y) (by rw [hc]; exact hy)
      omega
    · unfold kx; rw [if_neg (show ¬ t + 1 ≤ t by omega), if_pos (Nat.le_refl t), Nat.add_sub_cancel]
  · rw [getElem?_ins hcl] at hx
    have htc : t ≠ c := by
      rintro rfl
      rw [if_neg (by omega), if_pos rfl] at hx
      injection hx with hx
      subst hx; exact he rfl
    obtain ⟨j, hj, hj2, hx2⟩ : ∃ j, (if t ≤ c then t else t - 1) = j ∧ (if t + 1 ≤ c then t + 1 else t + 1 - 1) = j + 1 ∧ (F.eraseIdx a)[j]? = some x := by
      by_cases e : t < c
      · rw [if_pos e] at hx; exact ⟨t, by rw [if_pos (by omega)], by rw [if_pos (by omega)], hx⟩
      · rw [if_neg e, if_neg htc] at hx
        exact ⟨t - 1, by rw [if_neg (by omega)], by rw [if_neg (by omega)]; omega, hx⟩
    unfold kx
    rw [hj, hj2]
    rw [List.getElem?_eraseIdx] at hx2
    by_cases e : j < a
    · rw [if_pos e] at hx2
      rw [if_pos (by omega), if_pos (by omega)]
      exact ⟨x, hx2, .inr ⟨fun h => by have := hF j x hx2 h; omega, rfl, rfl⟩⟩
    · rw [if_neg e] at hx2
      by_cases e2 : j = a
      · subst e2
        rw [if_pos (by omega), if_neg (by omega)]
        exact ⟨_, hq, .inl ⟨rfl, hx2, rfl⟩⟩
      · rw [if_neg (by omega), if_neg (by omega)]
        exact ⟨x, hx2, .inr ⟨fun h => by have := hF (j + 1) x hx2 h; omega, rfl, rfl⟩⟩

theorem sl_open {w : World} {v : Value} {L : List It} (h : Sl w 37 v L) (h0 : 0 < L.length) : ∃ g o k : Nat, v = .slice (some ⟨g, o, none⟩) L.length k ∧ L.length ≤ k ∧ k ≤ 9223372036854775807 ∧ ∀ (j : Nat) (x : It), L[j]? = some x → w.cell? ⟨g, o + j * 2, none⟩ = some (.int .i64 x.1) ∧ w.cell? ⟨g, o + j * 2 + 1, none⟩ = some (.int .i64 x.2) := by
  rcases h with ⟨_, h⟩ | ⟨g, o, k, cs, h1, h2, h3, h4, h5⟩
  · subst h; simp at h0
  · exact ⟨g, o, k, h1, h2, h3, fun j x hx => Sl.cell h4 h5 hx⟩

theorem dd (w : World) (d e : Nat) : (w.drewN d).drewN e = w.drewN (d + e) := by
  simp [World.drewN, Nat.add_assoc]

def FillRel (p n : Nat) (q : Nat → Nat) (w : World) (i : Value) (wr : World) : Prop :=
  ∃ t : Nat, t ≤ n ∧ i = .int .i64 (t : Int) ∧ Ln wr p 42 true (fil true (pr q) t) ∧ Below w.heap.size w wr
def LookRel (n a c : Nat) (W : World) (k i : Value) (wr : World) : Prop :=
  ∃ t d : Nat, t ≤ n ∧ i = .int .i64 (t : Int) ∧ k = .int .i64 (kx a c t : Int) ∧ wr = W.drewN d

set_option maxHeartbeats 800000 in
theorem walkOut (A : Option Addr) (n cap : Nat) (who pri : Int) (w : World) (hn0 : n ≤ 9223372036854775807) (hn : ¬ ((1 ≤ n ∧ n ≤ 16) ∧ (1 ≤ who ∧ who ≤ n) ∧ 1 ≤ pri ∧ pri ≤ 16)) : Calls Try.prog 7 #[.slice A n cap, .int .i64 who, .int .i64 pri] w (Post w) := by
  by_cases c1 : n = 0
  · subst c1
    clear hn
    go_enter Try.func7, Try.ntmps7
    go_wp2_with fail
    refine (known_ok _).mono ?_
    rintro e w0 ⟨rfl, hb0⟩
    go_wp2
    go_ret
    exact ⟨rfl, hb0⟩
  have t1 : ((n : Int) == 0) = false := by simp; omega
  by_cases c2 : 16 < n
  · have t2 : (16 : Int) < (n : Int) := by omega
    clear hn
    go_enter Try.func7, Try.ntmps7
    go_wp2_with fail
    refine (known_ok _).mono ?_
    rintro e w0 ⟨rfl, hb0⟩
    go_wp2
    go_ret
    exact ⟨rfl, hb0⟩
  have t2 : decide ((16 : Int) < (n : Int)) = false := by simp; omega
  have t2' : decide (16 < n) = false := by simp; omega
  by_cases c3 : who < 1
  · clear hn
    go_enter Try.func7, Try.ntmps7
    go_wp2_with fail
    refine (known_ok _).mono ?_
    rintro e w0 ⟨rfl, hb0⟩
    go_wp2
    go_ret
    exact ⟨rfl, hb0⟩
  have t3 : decide (who < 1) = false := by simpa using c3
  by_cases c4 : (n : Int) < who
  · clear hn
    go_enter Try.func7, Try.ntmps7
    go_wp2_with fail
    refine (known_ok _).mono ?_
    rintro e w0 ⟨rfl, hb0⟩
    go_wp2
    go_ret
    exact ⟨rfl, hb0⟩
  have t4 : decide ((n : Int) < who) = false := by simpa using c4
  by_cases c5 : pri < 1
  · clear hn
    go_enter Try.func7, Try.ntmps7
    go_wp2_with fail
    refine (known_ok _).mono ?_
    rintro e w0 ⟨rfl, hb0⟩
    go_wp2
    go_ret
    exact ⟨rfl, hb0⟩
  have t5 : decide (pri < 1) = false := by simpa using c5
  have t6 : 16 < pri := by omega
  clear hn
  go_enter Try.func7, Try.ntmps7
  go_wp2_with fail
  refine (known_ok _).mono ?_
  rintro e w0 ⟨rfl, hb0⟩
  go_wp2
  go_ret
  exact ⟨rfl, hb0⟩

set_option maxHeartbeats 3200000 in
set_option maxRecDepth 100000 in
theorem walkIn (A : Option Addr) (n cap : Nat) (q : Nat → Nat) (who pri : Int) (w : World) (hs : Src w A n q) (hn : 1 ≤ n ∧ n ≤ 16) (hwho : 1 ≤ who ∧ who ≤ n) (hpri : 1 ≤ pri ∧ pri ≤ 16) : Calls Try.prog 7 #[.slice A n cap, .int .i64 who, .int .i64 pri] w (Post w) := by
  have HP := Lib.hid hpri
  have HW := Lib.hid hwho
  have t1 : ((n : Int) == 0) = false := by simp; omega
  have t2 : decide ((16 : Int) < (n : Int)) = false := by simp; omega
  have t2' : decide (16 < n) = false := by simp; omega
  have t3 : decide (who < 1) = false := by simp; omega
  have t4 : decide ((n : Int) < who) = false := by simp; omega
  have t5 : decide (pri < 1) = false := by simp; omega
  have t6 : decide (16 < pri) = false := by simp; omega
  clear hpri hwho
  obtain ⟨hn1, hn⟩ := hn
  go_enter Try.func7, Try.ntmps7
  go_wp2_with fail
  refine (known_ok _).mono ?_
  rintro e w0 ⟨rfl, hb0⟩
  go_wp2_with fail
  refine (new_ok true w0).mono ?_
  rintro e w1 ⟨p, hp, rfl, hl1, hk1⟩
  have hpw : w.heap.size ≤ p := Nat.le_trans hb0.size hp
  have hb1 := hb0.trans (hk1.mono hb0.size)
  clear hb0 hk1 hp t1 t2 t2' t3 t4 t5 t6
  go_wp2
  go_loopw [8] (fun i wr => FillRel p n q w i wr) (fun i _ => n - (intOf i).toNat)
  case atStart => exact ⟨0, Nat.zero_le _, rfl, hl1, hb1⟩
  case round =>
    obtain ⟨t, ht, rfl, hl2, hb2⟩ := hrel
    clear hl1 hb1
    by_cases hlt : t < n
    · obtain ⟨b, o, rfl, hbl, hcl⟩ := hs (by omega)
      obtain ⟨hc, hq⟩ := hcl t hlt
      have hct : wr.cell? ⟨b, o + t, none⟩ = _ := (hb2.cell (p := ⟨b, o + t, none⟩) hbl).trans hc
      have HC := Lib.hid hcl
      clear hc hcl
      go_wp2_with fail
      refine (add_fil p true (pr q) (pr_in q) t (by omega) wr hl2 _ _ (by omega) (by unfold pr; omega)).mono ?_
      rintro e w3 ⟨rfl, hl3, ho3⟩
      have hb3 := hb2.trans (ho3.below hb2.size hpw)
      clear hl2 hb2 ho3 hct
      go_wp2
      go_roundw
      case rel => exact ⟨t + 1, by omega, by go_num, hl3, hb3⟩
      case measure => simp [intOf]; omega
    · obtain rfl : t = n := by omega
      have hG := fil_good (b := true) (pr_in q) hn
      have hfl := fil_len true (pr q) t
      have hpo : pos (fil true (pr q) t) who < (fil true (pr q) t).length := by
        obtain ⟨k, hk⟩ : ∃ k : Nat, who = ((k + 1 : Nat) : Int) := ⟨(who - 1).toNat, by have := HW.out; omega⟩
        exact pos_lt.2 ⟨_, fil_in (j := k) (by have := HW.out; omega), hk.symm⟩
      obtain ⟨a, c, hch⟩ := chg_of hG hpo HP.out
      have hcl := chgL_len (b := true) (L := fil true (pr q) t) who pri
      have hok : chgOk (fil true (pr q) t) who pri = true := by unfold chgOk; exact decide_eq_true ⟨hpo, HP.out⟩
      have HK := Lib.hid (fun W hW => change_to p true _ _ true W hW hG who pri hok rfl)
      clear hpo hok
      generalize chgL true (fil true (pr q) t) who pri = N at *
      generalize fil true (pr q) t = F at *
      rw [hfl] at hcl
      have HCH := Lib.hid hch
      have HFL := Lib.hid hfl
      have HNL := Lib.hid hcl
      clear hch hG hfl hcl hlt ht
      have HR1 := Lib.hid (row_ok p 42 true F wr hl2 (by rw [HFL.out]; exact hn))
      go_wp2_with fail
      refine HR1.out.mono ?_
      rintro e w3 ⟨v, rfl, hs3, hk3⟩
      have hl3 := hl2.below hk3
      have hb3 := hb2.trans (hk3.mono hb2.size)
      clear hl2 hb2 hk3 HR1
      go_wp2_with fail
      refine (HK.out w3 hl3).mono ?_
      rintro e w4 ⟨rfl, hl4, ho4⟩
      have hs4 := hs3.only ho4 (hl3.type (by decide))
      have hb4 := hb3.trans (ho4.below hb3.size hpw)
      clear hl3 hb3 hs3 ho4 HK
      have HR2 := Lib.hid (row_ok p 42 true N w4 hl4 (by rw [HNL.out]; exact hn))
      go_wp2_with fail
      refine HR2.out.mono ?_
      rintro e w5 ⟨v5, rfl, hs5, hk5⟩
      have hs6 := hs4.below hk5
      have hb5 := hb4.trans (hk5.mono hb4.size)
      clear hl4 hb4 hk5 hs4 HR2
      obtain ⟨g, o, k1, rfl, k11, k12, hc1⟩ := sl_open hs6 (by rw [HFL.out]; exact hn1)
      obtain ⟨g', o', k2, rfl, k21, k22, hc2⟩ := sl_open hs5 (by rw [HNL.out]; exact hn1)
      rw [HFL.out] at k11 ⊢
      rw [HNL.out] at k21 ⊢
      have HC1 := Lib.hid hc1
      have HC2 := Lib.hid hc2
      clear hs5 hs6 hc1 hc2
      go_wp2
      go_loopw [11, 12] (fun k i wr => LookRel t a c w5 k i wr) (fun _ i _ => t - (intOf i).toNat)
      case atStart => exact ⟨0, 0, Nat.zero_le _, rfl, by unfold kx; simp, rfl⟩
      case round =>
        obtain ⟨s, d, hs1, rfl, rfl, hW0⟩ := hrel
        have HW0 : Hid (∃ d, wr = w5.drewN d) := ⟨d, hW0⟩
        have HB : Hid (Below w.heap.size w wr) := by rw [hW0]; exact ⟨hb5.os, hb5.tape, hb5.output, hb5.size, hb5.block⟩
        by_cases hlt : s < t
        · obtain ⟨x, hx⟩ : ∃ x, N[s]? = some x := ⟨_, List.getElem?_eq_getElem (by rw [HNL.out]; exact hlt)⟩
          have hx0 : wr.cell? ⟨g', o' + s * 2, none⟩ = some (.int .i64 x.1) := by rw [hW0]; exact (HC2.out s x hx).1
          have hx1 : wr.cell? ⟨g', o' + s * 2 + 1, none⟩ = some (.int .i64 x.2) := by rw [hW0]; exact (HC2.out s x hx).2
          have HX := Lib.hid hx
          clear hx
          have is : (s : Int) < (t : Int) := by omega
          by_cases h0 : s = 0
          · have p1 : decide ((0 : Int) < (s : Int)) = false := by simp; omega
            have p2 : decide (0 < s) = false := by simp; omega
            have HPREV := p1
            clear h0 hW0
            go_wp2
            go_quiet (fail)
            obtain ⟨d1, hd1⟩ : ∃ d1, wr.drewN nq = w5.drewN d1 := by obtain ⟨d0, e0⟩ := HW0.out; exact ⟨d0 + nq, by rw [e0, dd]⟩
            generalize wr.drewN nq = W1 at *
            have HW1 : Hid (∃ d, W1 = w5.drewN d) := ⟨d1, hd1⟩
            clear hx0 hx1 HPREV HW0 HB
            have hx0 : W1.cell? ⟨g', o' + s * 2, none⟩ = some (.int .i64 x.1) := by rw [hd1]; exact (HC2.out s x HX.out).1
            have hx1 : W1.cell? ⟨g', o' + s * 2 + 1, none⟩ = some (.int .i64 x.2) := by rw [hd1]; exact (HC2.out s x HX.out).2
            by_cases he : x.1 = who
            · obtain ⟨e1, e2, e3⟩ := HCH.out.one s x HX.out he
              rw [he] at hx0
              rw [e1] at hx1
              have E3 := Lib.hid e3
              have E2 := Lib.hid e2
              clear he e1 e2 e3 HX
              by_cases hs2 : s + 1 < t
              · obtain ⟨y, hy⟩ : ∃ y, N[s + 1]? = some y := ⟨_, List.getElem?_eq_getElem (by rw [HNL.out]; exact hs2)⟩
                have hy1 : W1.cell? ⟨g', o' + (s + 1) * 2 + 1, none⟩ = some (.int .i64 y.2) := by rw [hd1]; exact (HC2.out (s + 1) y hy).2
                have hyp : (y.2 == pri) = false := by simpa using E2.out y hy
                have i2 : (s : Int) + 1 < (t : Int) := by omega
                clear hy hd1
                go_wp2
                go_roundw
                case rel => obtain ⟨d9, e9⟩ := HW1.out; exact ⟨s + 1, d9, by omega, by go_num, by rw [E3.out], e9⟩
                case measure => simp [intOf]; omega
              · have i2 : decide ((s : Int) + 1 < (t : Int)) = false := by simp; omega
                have i3 : decide (s + 1 < t) = false := by simp; omega
                clear hd1
                go_wp2
                go_roundw
                case rel => obtain ⟨d9, e9⟩ := HW1.out; exact ⟨s + 1, d9, by omega, by go_num, by rw [E3.out], e9⟩
                case measure => simp [intOf]; omega
            · have hne : (x.1 == who) = false := by simpa using he
              obtain ⟨y, hy, hyy⟩ := HCH.out.two s x HX.out he
              have hky : kx a c s < t := by have := (List.getElem?_eq_some_iff.1 hy).1; rwa [HFL.out] at this
              have hy0 : W1.cell? ⟨g, o + kx a c s * 2, none⟩ = some (.int .i64 y.1) := by rw [hd1]; exact (HC1.out _ y hy).1
              have hy1 : W1.cell? ⟨g, o + kx a c s * 2 + 1, none⟩ = some (.int .i64 y.2) := by rw [hd1]; exact (HC1.out _ y hy).2
              have iky : (kx a c s : Int) < (t : Int) := by omega
              clear he
              rcases hyy with ⟨e1, e2, e3⟩ | ⟨e1, rfl, e3⟩
              · have hkz : kx a c s + 1 < t := by have := (List.getElem?_eq_some_iff.1 e2).1; rwa [HFL.out] at this
                have hz0 : W1.cell? ⟨g, o + (kx a c s + 1) * 2, none⟩ = some (.int .i64 x.1) := by rw [hd1]; exact (HC1.out _ x e2).1
                have hz1 : W1.cell? ⟨g, o + (kx a c s + 1) * 2 + 1, none⟩ = some (.int .i64 x.2) := by rw [hd1]; exact (HC1.out _ x e2).2
                have ikz : (kx a c s : Int) + 1 < (t : Int) := by omega
                rw [e1] at hy0
                have E3 := Lib.hid e3
                clear hy e1 e2 e3 HX hd1
                generalize kx a c s = kk at *
                go_wp2
                go_quiet (fail)
                go_wp2
                go_roundw
                case rel => obtain ⟨d9, e9⟩ := HW1.out; exact ⟨s + 1, d9 + nq, by omega, by go_num, by rw [E3.out]; go_num, by rw [e9, dd]⟩
                case measure => simp [intOf]; omega
              · have E3 := Lib.hid e3
                have hyw : (y.1 == who) = false := by simpa using e1
                clear hy e1 e3 HX hd1
                generalize kx a c s = kk at *
                go_wp2
                go_quiet (fail)
                go_wp2
                go_roundw
                case rel => obtain ⟨d9, e9⟩ := HW1.out; exact ⟨s + 1, d9 + nq, by omega, by go_num, by rw [E3.out]; go_num, by rw [e9, dd]⟩
                case measure => simp [intOf]; omega
          · obtain ⟨u, hu⟩ : ∃ u, s = u + 1 := ⟨s - 1, by omega⟩
            obtain ⟨z, hz⟩ : ∃ z, N[u]? = some z := ⟨_, List.getElem?_eq_getElem (by rw [HNL.out]; omega)⟩
            have p1 : (0 : Int) < (s : Int) := by omega
            have p2 : 0 < s := by omega
            have p3 : IntKind.i64.wrap ((s : Int) - 1) = (u : Int) := by rw [IntWalk.i64_in _ (by omega)]; omega
            have p4 : (s : Int) - 1 = (u : Int) := by omega
            have p5 : (u : Int) < (t : Int) := by omega
            have HPREV : wr.cell? ⟨g', o' + u * 2 + 1, none⟩ = some (.int .i64 z.2) := by rw [hW0]; exact (HC2.out u z hz).2
            have p6 : decide (x.2 < z.2) = false := by have := HCH.out.ord u z x hz (by rw [← hu]; exact HX.out); simp; omega
            clear hz h0 hu hW0
            go_wp2
            go_quiet (fail)
            obtain ⟨d1, hd1⟩ : ∃ d1, wr.drewN nq = w5.drewN d1 := by obtain ⟨d0, e0⟩ := HW0.out; exact ⟨d0 + nq, by rw [e0, dd]⟩
            generalize wr.drewN nq = W1 at *
            have HW1 : Hid (∃ d, W1 = w5.drewN d) := ⟨d1, hd1⟩
            clear hx0 hx1 HPREV HW0 HB
            have hx0 : W1.cell? ⟨g', o' + s * 2, none⟩ = some (.int .i64 x.1) := by rw [hd1]; exact (HC2.out s x HX.out).1
            have hx1 : W1.cell? ⟨g', o' + s * 2 + 1, none⟩ = some (.int .i64 x.2) := by rw [hd1]; exact (HC2.out s x HX.out).2
            by_cases he : x.1 = who
            · obtain ⟨e1, e2, e3⟩ := HCH.out.one s x HX.out he
              rw [he] at hx0
              rw [e1] at hx1
              have E3 := Lib.hid e3
              have E2 := Lib.hid e2
              clear he e1 e2 e3 HX
              by_cases hs2 : s + 1 < t
              · obtain ⟨y, hy⟩ : ∃ y, N[s + 1]? = some y := ⟨_, List.getElem?_eq_getElem (by rw [HNL.out]; exact hs2)⟩
                have hy1 : W1.cell? ⟨g', o' + (s + 1) * 2 + 1, none⟩ = some (.int .i64 y.2) := by rw [hd1]; exact (HC2.out (s + 1) y hy).2
                have hyp : (y.2 == pri) = false := by simpa using E2.out y hy
                have i2 : (s : Int) + 1 < (t : Int) := by omega
                clear hy hd1
                go_wp2
                go_roundw
                case rel => obtain ⟨d9, e9⟩ := HW1.out; exact ⟨s + 1, d9, by omega, by go_num, by rw [E3.out], e9⟩
                case measure => simp [intOf]; omega
              · have i2 : decide ((s : Int) + 1 < (t : Int)) = false := by simp; omega
                have i3 : decide (s + 1 < t) = false := by simp; omega
                clear hd1
                go_wp2
                go_roundw
                case rel => obtain ⟨d9, e9⟩ := HW1.out; exact ⟨s + 1, d9, by omega, by go_num, by rw [E3.out], e9⟩
                case measure => simp [intOf]; omega
            · have hne : (x.1 == who) = false := by simpa using he
              obtain ⟨y, hy, hyy⟩ := HCH.out.two s x HX.out he
              have hky : kx a c s < t := by have := (List.getElem?_eq_some_iff.1 hy).1; rwa [HFL.out] at this
              have hy0 : W1.cell? ⟨g, o + kx a c s * 2, none⟩ = some (.int .i64 y.1) := by rw [hd1]; exact (HC1.out _ y hy).1
              have hy1 : W1.cell? ⟨g, o + kx a c s * 2 + 1, none⟩ = some (.int .i64 y.2) := by rw [hd1]; exact (HC1.out _ y hy).2
              have iky : (kx a c s : Int) < (t : Int) := by omega
              clear he
              rcases hyy with ⟨e1, e2, e3⟩ | ⟨e1, rfl, e3⟩
              · have hkz : kx a c s + 1 < t := by have := (List.getElem?_eq_some_iff.1 e2).1; rwa [HFL.out] at this
                have hz0 : W1.cell? ⟨g, o + (kx a c s + 1) * 2, none⟩ = some (.int .i64 x.1) := by rw [hd1]; exact (HC1.out _ x e2).1
                have hz1 : W1.cell? ⟨g, o + (kx a c s + 1) * 2 + 1, none⟩ = some (.int .i64 x.2) := by rw [hd1]; exact (HC1.out _ x e2).2
                have ikz : (kx a c s : Int) + 1 < (t : Int) := by omega
                rw [e1] at hy0
                have E3 := Lib.hid e3
                clear hy e1 e2 e3 HX hd1
                generalize kx a c s = kk at *
                go_wp2
                go_quiet (fail)
                go_wp2
                go_roundw
                case rel => obtain ⟨d9, e9⟩ := HW1.out; exact ⟨s + 1, d9 + nq, by omega, by go_num, by rw [E3.out]; go_num, by rw [e9, dd]⟩
                case measure => simp [intOf]; omega
              · have E3 := Lib.hid e3
                have hyw : (y.1 == who) = false := by simpa using e1
                clear hy e1 e3 HX hd1
                generalize kx a c s = kk at *
                go_wp2
                go_quiet (fail)
                go_wp2
                go_roundw
                case rel => obtain ⟨d9, e9⟩ := HW1.out; exact ⟨s + 1, d9 + nq, by omega, by go_num, by rw [E3.out]; go_num, by rw [e9, dd]⟩
                case measure => simp [intOf]; omega
        · clear hW0
          go_wp2
          go_ret
          exact ⟨rfl, HB.out⟩


/-! ### the walk -/
theorem walk (a0 : Option Addr) (len0 cap0 : Nat) (z0 : List Int) (a1 : Int) (a2 : Int) (w : World) (w0 : IsRow .u8 w a0 len0 cap0 z0) (w1 : (Lit.int .i64 a1).wf = true) (w2 : (Lit.int .i64 a2).wf = true) :
    Calls Try.prog 7 #[.slice a0 len0 cap0, .int .i64 a1, .int .i64 a2] w fun e w' => e = .returned (.bool true) ∧ Below w.heap.size w w' := by
  obtain ⟨h1, q, h2⟩ := src_of w0
  by_cases h : (1 ≤ len0 ∧ len0 ≤ 16) ∧ (1 ≤ a1 ∧ a1 ≤ len0) ∧ 1 ≤ a2 ∧ a2 ≤ 16
  · exact walkIn a0 len0 cap0 q a1 a2 w h2 h.1 h.2.1 h.2.2
  · exact walkOut a0 len0 cap0 a1 a2 w h1 h

/-! ### THE ROW's STEP: WRITTEN OUT: LEAVE IT -/
set_option maxRecDepth 100000 in
theorem lifted (os : Os) (started : os.Started) (H : Type) (enc : TypeId × Value → H) :
    ReturnsInHanded {} Try.checked os 7 .any (Rows.orderChangesSpec.pre6 enc Try.prog Try.f7 Rows.orderChangesRow.domain false) (Rows.orderChangesSpec.post enc Try.prog Try.f7 false true false false) := by
  refine returnsInHanded_of_change (C := Try.checked) own started (by kernel_rfl) Try.func7
    (ChangeSpec.witness6 (enc := enc) (C := Try.checked) false ⟨#[], #[.slice none 0 0, .int .i64 0, .int .i64 0], []⟩ 8 (by kernel_rfl) (by kernel_rfl) (by kernel_rfl) (by kernel_rfl)) ?_
  intro W base args ds gs before hval0 hW hcnd _
  have hval : ∀ (j : Nat) t v, Try.f7.params[j]? = some t → args[j]? = some v → Value.okWide Try.prog W .any base t v := hval0
  have hW' := hW
  obtain ⟨p, q, hA0, hV, rfl, hfz, hnd⟩ := hW
  have hA : DataW.TrodAll enc Try.prog W 0 (fun _ => true) true Try.f7.params.toList args.toList ds p := hA0
  rw [Try.params7] at hA hval
  obtain ⟨v0, vs0, d0, ds0, p0, q0, hargs, rfl, rfl, h0, r0⟩ := trodAll_cons hA
  obtain ⟨v1, vs1, d1, ds1, p1, q1, rfl, rfl, rfl, h1, r1⟩ := trodAll_cons r0
  obtain ⟨v2, vs2, d2, ds2, p2, q2, rfl, rfl, rfl, h2, r2⟩ := trodAll_cons r1
  obtain ⟨rfl, rfl, rfl⟩ := trodAll_nil r2
  obtain rfl : args = #[v0, v1, v2] := by cases args; simp_all
  obtain ⟨rfl, rfl⟩ := trodVars_none hV
  obtain ⟨a0, len0, cap0, rfl⟩ := okWide_slice Try.underlying53 (hval 0 53 v0 rfl rfl)
  have k0 := h0
  have lt0 : ∀ x ∈ p0, x.block < W.heap.size := by obtain ⟨m, hm⟩ := k0; exact DataW.trod_lt m _ _ _ hm
  obtain ⟨z0, w0⟩ : ∃ zs, IsRow .u8 W a0 len0 cap0 zs := by
    obtain ⟨fuel, hf⟩ := h0
    rcases open_ints Try.underlying53 Try.underlying5 (by kernel_rfl) hf with ⟨hcs, _⟩ | ⟨x, l, c, zs, hcs, _, hl, hm, hz, _, hcell, hwz⟩
    · simp [Value.cells] at hcs
      obtain ⟨rfl, rfl, rfl⟩ := hcs
      exact ⟨[], .inl ⟨rfl, rfl, rfl, rfl⟩⟩
    · simp [Value.cells] at hcs
      obtain ⟨rfl, rfl, rfl⟩ := hcs
      exact ⟨zs, .inr ⟨_, rfl, hl, hm, by simpa using hz, hcell, hwz⟩⟩
  obtain ⟨a1, rfl, rfl, rfl, w1⟩ := open_int Try.underlying3 (hval 1 3 v1 rfl rfl) h1
  obtain ⟨a2, rfl, rfl, rfl, w2⟩ := open_int Try.underlying3 (hval 2 3 v2 rfl rfl) h2
  clear hA0 hval0
  refine (walk a0 len0 cap0 z0 a1 a2 W w0 w1 w2).mono fun e W' ⟨he, bel⟩ => ?_
  subst he
  exact ⟨_, rfl, _, _, _, [], _, [], hW', trodAll_mk1 (shut_bool Try.underlying4 _), (trodAll_cons_mk (Below.trod laidOut (by kernel_rfl) (of_decide_eq_true (by kernel_rfl)) k0 bel lt0) (trodAll_cons_mk (shut_int Try.underlying3 w1) (trodAll_cons_mk (shut_int Try.underlying3 w2) trodAll_mk0))), rfl, bel.frame _, fun h => by cases h⟩

theorem over : Rows.orderChangesRow.holds Try.pinned (OpenSpec.ofChange Rows.orderChangesSpec) :=
  OpenClaim.holds_of_wide 7 Try.f7 rfl rfl rfl rfl rfl rfl rfl ⟨rfl, rfl, rfl, rfl, rfl⟩ rfl rfl rfl rfl rfl (by kernel_rfl) Try.func7 (by kernel_rfl)
    (of_decide_eq_true (by kernel_rfl)) (by unfold Func.isWrapper; first | (rw [if_pos (by decide +kernel)]; kernel_rfl) | (rw [if_neg (by decide +kernel)]; exact ⟨rfl, rfl⟩))
    (fun os started H enc _ => lifted os started H enc)

/-- ████ THE STATEMENT ████ -/
theorem proved : Rows.OrderChangesSaid := over
#print axioms proved
end Go.Proofs.Ytklchhbkeoaloaa.orderChanges
namespace Go.Proofs.Ytklchhbkeoaloaa
theorem orderChanges_holds : Rows.OrderChangesSaid := orderChanges.proved
end Go.Proofs.Ytklchhbkeoaloaa
