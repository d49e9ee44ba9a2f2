/-
  PROVED: the Go function detentlaw13.DataOrder returns true for every input, and each argument reads behind the call as it read before (Rows.DataOrderSaid). No condition.
-/
import Derived.Test.YtnbepahanhcmeaaRows
import Derived.Test.YtnbepahanhcmeaaDqO
import Derived.WalkKit
import Derived.ProofKit
import Derived.OpenShut
import Derived.ShutString
import Derived.ChangeOld
import Derived.Below
import Derived.Deep.Grids
namespace Go.Proofs.Ytnbepahanhcmeaa.dataOrder
open Go.ChangeShapes Go.WideShapes Go.ChangeAt Go.RowKit
open Go.ChangeMaps (open_string shut_string)
set_option linter.unusedVariables false

theorem own : ownKnob Try.prog.godebug = none := by kernel_rfl
theorem laidOut : laidOutB Try.prog = true := by kernel_rfl

/-- bools that came in -/
def Bin (w : World) (A : Option Addr) (n : Nat) (C : Nat → Bool) : Prop :=
  0 < n → ∃ b o : Nat, A = some ⟨b, o, none⟩ ∧ b < w.heap.size ∧ ∀ j, j < n → w.cell? ⟨b, o + j, none⟩ = some (.bool (C j))
theorem Bin.at_ {w w' : World} {A : Option Addr} {n : Nat} {C : Nat → Bool} (h : Bin w A n C) (k : Below w.heap.size w w') {j : Nat} (hj : j < n) : ∃ b o : Nat, A = some ⟨b, o, none⟩ ∧ w'.cell? ⟨b, o + j, none⟩ = some (.bool (C j)) := by
  obtain ⟨b, o, h1, h2, h3⟩ := h (by omega)
  exact ⟨b, o, h1, (k.cell (p := ⟨b, o + j, none⟩) h2).trans (h3 j hj)⟩
theorem own_to {w : World} {B n : Nat} {v : Value} {L M : List Int} {x : Int} (e : M = L ++ [x]) (hn : L.length = n) (h : w.ownsRow B 3 1 v (n + 1) (K.vals K.ci (L ++ [x]))) : Ow w B v M := by
  subst e
  unfold Ow
  rw [List.length_append, hn]; exact h
theorem cell_keep {A : Addr} {x : Value} {W W' : World} (hb : Below W.heap.size W W') (h : W.cell? A = some x ∧ A.block < W.heap.size) : W'.cell? A = some x ∧ A.block < W'.heap.size :=
  ⟨(hb.cell (p := A) h.2).trans h.1, Nat.lt_of_lt_of_le h.2 hb.size⟩
theorem at_keep {A : Addr} {x : Value} {W W' : World} (h : W.cell? A = some x ∧ A.block < W.heap.size) (k : Below W.heap.size W W') : W'.cell? A = some x ∧ A.block < W'.heap.size := cell_keep k h
theorem box3_type {w : World} {g : Nat} {a b c : Value} (h : Box3 w g 44 a b c) {e : TypeId} (he : e ≠ 44) : ∀ cs fr, w.heap[g]? ≠ some (.cells cs e fr) := by
  intro cs fr h2
  unfold Box3 at h
  rw [h] at h2; injection h2 with h2; injection h2 with _ h3; exact he h3.symm
theorem box3_grown {w w' : World} {g B n : Nat} {u a b c : Value} {xs : List Value} (h : Box3 w g 44 a b c) (k : w.grownBy w' u.ownBlock) (hu : w.ownsRow B 3 1 u n xs) : Box3 w' g 44 a b c :=
  h.keep (k.block g h.lt (fun e => own_ne hu (box3_type h (by decide)) e.symm))
theorem take_len {out P L : List Int} {n : Nat} (h : out ++ P = L.take n) : out.length + P.length ≤ n := by
  have := congrArg List.length h
  rw [List.length_append, List.length_take] at this; omega

set_option maxRecDepth 100000 in
set_option maxHeartbeats 1000000 in
/-- nothing is asked -/
theorem walkOut (a0 : Int) (a1 : Option Addr) (len1 cap1 : Nat) (a2 : Option Addr) (len2 cap2 : Nat) (w : World) (h : 100 < len1 ∨ 300 < len2) :
    Calls Try.prog 4 #[.int .u8 a0, .slice a1 len1 cap1, .slice a2 len2 cap2] w fun e w' => e = .returned (.bool true) ∧ Below w.heap.size w w' := by
  by_cases c : 100 < len1
  · have t1 : decide ((100 : Int) < (len1 : Int)) = true := by simp; omega
    have t2 : decide (100 < len1) = true := by simpa using c
    clear h c
    go_enter Try.func4, Try.ntmps4
    go_wp2_with fail
    refine (known_ok w).mono ?_
    rintro e w1 ⟨rfl, hb⟩
    go_wp2
    go_ret
    exact ⟨rfl, hb⟩
  · have t1 : decide ((100 : Int) < (len1 : Int)) = false := by simp; omega
    have t2 : decide (100 < len1) = false := by simpa using c
    have t3 : decide ((300 : Int) < (len2 : Int)) = true := by simp; omega
    have t4 : decide (300 < len2) = true := by simp; omega
    clear h c
    go_enter Try.func4, Try.ntmps4
    go_wp2_with fail
    refine (known_ok w).mono ?_
    rintro e w1 ⟨rfl, hb⟩
    go_wp2
    go_ret
    exact ⟨rfl, hb⟩

set_option maxRecDepth 100000 in
set_option maxHeartbeats 4000000 in
theorem walkIn (a : Nat) (a1 : Option Addr) (len1 cap1 : Nat) (L : List Int) (a2 : Option Addr) (len2 cap2 : Nat) (C : Nat → Bool) (w : World) (hnr : Nr w (.slice a1 len1 cap1) L) (hL : L.length = len1) (hc1 : len1 ≤ cap1) (hc2 : cap1 ≤ 9223372036854775807)
    (hC : Bin w a2 len2 C) (h1 : len1 ≤ 100) (h2 : len2 ≤ 300) :
    Calls Try.prog 4 #[.int .u8 (a : Int), .slice a1 len1 cap1, .slice a2 len2 cap2] w fun e w' => e = .returned (.bool true) ∧ Below w.heap.size w w' := by
  have HL := Lib.hid hL
  have HNR := Lib.hid hnr
  have HC := Lib.hid hC
  have t1 : decide ((100 : Int) < (len1 : Int)) = false := by simp; omega
  have t2 : decide (100 < len1) = false := by simp; omega
  have t3 : decide ((300 : Int) < (len2 : Int)) = false := by simp; omega
  have t4 : decide (300 < len2) = false := by simp; omega
  obtain ⟨m, hm⟩ : ∃ m, a % 65 = m := ⟨_, rfl⟩
  have hm64 : m ≤ 64 := by omega
  have hmod : (a : Int) % 65 = (m : Int) := by omega
  have HM := Lib.hid hm64
  have h1i : (len1 : Int) ≤ 100 := by omega
  have h2i : (len2 : Int) ≤ 300 := by omega
  clear hL hnr hC hm hm64
  go_enter Try.func4, Try.ntmps4
  go_wp2_with fail
  refine (known_ok w).mono ?_
  rintro e w1 ⟨rfl, hb⟩
  have HNew := Lib.hid (new_at w w1 false m HM.out hb)
  clear hb
  go_wp2_with fail
  refine HNew.out.mono ?_
  rintro e w2 ⟨s, v, rfl, ha, _, _, _⟩
  have HA := Lib.hid ha
  clear ha HNew t1 t2 t3 t4
  go_wp2
  clear hmod
  go_loopw [12, 9, 10, 11] (fun i xs xw o wr => ∃ (t se wa : Nat) (uo v : Value) (T : St) (out : List Int), t ≤ len2 ∧ i = .int .i64 (t : Int) ∧ xs = .int .i64 (se : Int) ∧ xw = .int .i64 (wa : Int) ∧ uo = o ∧ se ≤ len1 ∧ T.S.length = wa ∧ wa ≤ 16 ∧ At w s v T wr ∧ Flow T ∧ out ++ pipe T = L.take se ∧ Side wr w.heap.size v uo out) (fun i _ _ _ _ => len2 - (intOf i).toNat)
  case atStart => exact ⟨0, 0, 0, _, v, _, [], Nat.zero_le _, rfl, rfl, rfl, rfl, Nat.zero_le _, rfl, by omega, HA.out, ⟨rfl, rfl, fun e => absurd rfl e⟩, rfl, Side.nil _ _ _⟩
  case round =>
    obtain ⟨t, se, wa, uo, v, T, out, ht, rfl, rfl, rfl, rfl, hse, hsl, hwa, ha, hf, hpi, sg⟩ := hrel
    by_cases hlt : t < len2
    · have hlt' : (t : Int) < (len2 : Int) := by omega
      have hsei : (se : Int) ≤ 100 := by omega
      have hwai : (wa : Int) ≤ 16 := by omega
      obtain ⟨gb, ob, rfl, hcb⟩ := HC.out.at_ ha.b hlt
      obtain ⟨c, hc⟩ : ∃ c, C t = c := ⟨_, rfl⟩
      rw [hc] at hcb
      clear hc
      by_cases hA : c = true ∧ se < len1 ∧ wa < 16
      · obtain ⟨rfl, hse2, hwa2⟩ := hA
        have g2 : decide ((se : Int) < (len1 : Int)) = true := by simp; omega
        have g2' : decide (se < len1) = true := by simpa using hse2
        have g3 : decide ((wa : Int) < 16) = true := by simp; omega
        have g3' : decide (wa < 16) = true := by simpa using hwa2
        obtain ⟨x, hx⟩ : ∃ x, L[se]? = some x := ⟨_, List.getElem?_eq_getElem (by rw [HL.out]; exact hse2)⟩
        obtain ⟨g, o, rfl, hg, hcx⟩ := HNR.out.at_ hx
        have HC0 := Lib.hid (show w.cell? ⟨g, o + se, none⟩ = some (.int .i64 x) ∧ (⟨g, o + se, none⟩ : Addr).block < w.heap.size from ⟨hcx, hg⟩)
        have hcy := at_keep HC0.out ha.b
        have HTK := Lib.hid (take_next hx)
        have hseI : (se : Int) < (len1 : Int) := by omega
        have HFR := Lib.hid (free_any ha.drew (by omega))
        have HA7 := Lib.hid ha
        have SG := Lib.hid sg
        have HF7 := Lib.hid hf
        have HP7 := Lib.hid hpi
        have HL7 := Lib.hid hsl
        have HW2 := Lib.hid hwa2
        have HS2 := Lib.hid hse2
        clear ha hf hpi sg hsl hx hwa2 hse2
        go_wp2
        go_region_held3 (fun W => W.cell? ⟨g, o + se, none⟩ = some (.int .i64 x) ∧ (⟨g, o + se, none⟩ : Addr).block < W.heap.size)
          (first | exact at_keep HC0.out ha6.b | exact at_keep HC0.out ha5.b | exact hcy | assumption)
          (first
            | (go_at_call 12; obtain ⟨T', k', hsd, hpp, hff, hmm, hcase⟩ := pipe_send (x := x) HF7.out HA7.out.f.d hid hnot (fun y hy => (HA7.out.f.s.rng y hy).1); refine (send_at ha5 hsd).mono ?_; rintro en w6 ⟨rfl, v6, ha6, hk6⟩)
            | (go_at_call 29; refine HFR.out.mono ?_; rintro en w5 ⟨id, rfl, hid, hnot, hb5⟩; have ha5 := HA7.out.drew.below hb5))
        all_goals
          have SG6 := Lib.hid ((((SG.out.drewN 1).below hb5)).dt ha5 hk6)
          have HA6 := Lib.hid ha6
          have HPP := Lib.hid (show out ++ pipe T' = L.take (se + 1) by rw [hpp, ← List.append_assoc, HP7.out, HTK.out])
          have HFF := Lib.hid hff
          rcases hcase with ⟨rfl, e1⟩ | ⟨rfl, e1⟩
          · have HL8 := Lib.hid (show T'.S.length = wa by rw [e1]; exact HL7.out)
            clear ha5 ha6 hk6 hb5 hpp hff hmm hsd e1 hid hnot hcx hcy hcb
            go_wp2
            exact ⟨⟨t + 1, se + 1, wa, _, v6, T', out, by omega, by go_num, by go_num, rfl, rfl, by have := HS2.out; omega, HL8.out, by omega, HA6.out, HFF.out, HPP.out, SG6.out⟩, by simp [intOf]; omega⟩
          · have HL8 := Lib.hid (show T'.S.length = wa + 1 by rw [e1, List.length_append, HL7.out]; rfl)
            clear ha5 ha6 hk6 hb5 hpp hff hmm hsd e1 hid hnot hcx hcy hcb
            go_wp2
            exact ⟨⟨t + 1, se + 1, wa + 1, _, v6, T', out, by omega, by go_num, by go_num, by go_num, rfl, by have := HS2.out; omega, HL8.out, by have := HW2.out; omega, HA6.out, HFF.out, HPP.out, SG6.out⟩, by simp [intOf]; omega⟩
      · have hg : c = false ∨ (c = true ∧ decide ((se : Int) < (len1 : Int)) = false) ∨ (c = true ∧ decide ((se : Int) < (len1 : Int)) = true ∧ decide ((wa : Int) < 16) = false) := by
          cases c with
          | false => exact .inl rfl
          | true =>
            by_cases c1 : se < len1
            · have h16 : ¬ wa < 16 := fun h => hA ⟨rfl, c1, h⟩
              exact .inr (.inr ⟨rfl, by simp; omega, by simp; omega⟩)
            · exact .inr (.inl ⟨rfl, by simp; omega⟩)
        clear hA
        rcases hg with rfl | ⟨rfl, g2⟩ | ⟨rfl, g2, g3⟩
        · cases hpp : pipe T with
          | nil =>
            have HT := Lib.hid (tryRecv_at ha (pipe_none hpp))
            have HA7 := Lib.hid ha
            have SG := Lib.hid sg
            have HF7 := Lib.hid hf
            have HP7 := Lib.hid hpi
            have HL7 := Lib.hid hsl
            clear ha hf hpi sg hpp hsl
            go_wp2_with fail
            refine HT.out.mono ?_
            rintro e w3 ⟨rfl, v3, ha, hk⟩
            have SG3 := SG.out.dt HA7.out hk
            have HB3 := Lib.hid (show Below w3.heap.size w3 (w3.alloc (.cells #[.int .i64 0, .bool false, .int .i64 0] 44)) from (Below.refl _ _).alloc (Nat.le_refl _) _)
            have bx := box3_new w3 44 (.int .i64 0) (.bool false) (.int .i64 0)
            have HA8 := Lib.hid (ha.below HB3.out)
            have SG8 := Lib.hid (SG3.below HB3.out)
            have b1 := bx.c1
            have b2 := bx.c2
            clear ha hk SG3 bx HT HB3
            go_wp2
            exact ⟨⟨t + 1, se, wa, _, v3, T, out, by omega, by go_num, rfl, rfl, rfl, by omega, HL7.out, by omega, HA8.out, HF7.out, HP7.out, SG8.out⟩, by simp [intOf]; omega⟩
          | cons d P =>
            obtain ⟨T', k', hr, hp', hf', hm', hcase⟩ := pipe_some hpp hf
            rw [hpp] at hpi
            have hql := take_len hpi
            obtain ⟨q, hq⟩ : ∃ q, out.length = q := ⟨_, rfl⟩
            have HQ := Lib.hid hq
            have hq100 : q ≤ 100 := by rw [hq] at hql; omega
            have hpi' : (out ++ [d]) ++ pipe T' = L.take se := by rw [hp', List.append_assoc]; exact hpi
            have HP7 := Lib.hid hpi'
            have HF7 := Lib.hid hf'
            have HT := Lib.hid (tryRecv_at ha hr)
            have HA7 := Lib.hid ha
            have SG := Lib.hid sg
            rcases hcase with ⟨e1, e2, e3⟩ | ⟨y, e1, e2⟩
            · have hwa0 : wa = 0 := by rw [e1] at hsl; simpa using hsl.symm
              have HL7 := Lib.hid (show T'.S.length = wa by rw [e2, hwa0]; rfl)
              have tk : (k' != 0) = false := by rw [e3]; rfl
              clear ha hf hpi sg hpp hsl hr hp' hf' hm' hql hq hpi' e1 e2 e3 hwa0
              go_wp2_with fail
              refine HT.out.mono ?_
              rintro e w3 ⟨rfl, v3, ha, hk⟩
              have SG3 := SG.out.dt HA7.out hk
              have HB3 := Lib.hid (show Below w3.heap.size w3 (w3.alloc (.cells #[.int .i64 d, .bool true, .int .i64 k'] 44)) from (Below.refl _ _).alloc (Nat.le_refl _) _)
              have BX := Lib.hid (box3_new w3 44 (.int .i64 d) (.bool true) (.int .i64 k'))
              have HA8 := Lib.hid (ha.below HB3.out)
              have SG8 := Lib.hid (SG3.below HB3.out)
              have b0 := BX.out.c0
              have b1 := BX.out.c1
              clear ha hk SG3 HT HB3
              obtain ⟨wx, hwx⟩ : ∃ wx, w3.alloc (.cells #[.int .i64 d, .bool true, .int .i64 k'] 44) = wx := ⟨_, rfl⟩
              rw [hwx] at HA8 SG8 BX b0 b1
              have HWB := Lib.hid (show Below wx.heap.size wx (wx.alloc (.cells #[.int .i64 d] 3)) from (Below.refl _ _).alloc (Nat.le_refl _) _)
              have src := K.sr_one K.ci wx 3 d
              rw [show (K.ci d).toArray = #[.int .i64 d] from rfl] at src
              have BXB := Lib.hid (BX.out.below HWB.out)
              have HAB := Lib.hid (HA8.out.below HWB.out)
              have HSB := Lib.hid (SG8.out.below HWB.out)
              have hownb := HSB.out.o
              unfold Ow at hownb
              rw [HQ.out] at hownb
              have HBS := Lib.hid HAB.out.b.size
              have bb : q + 1 ≤ 100000 := by omega
              go_wp2_with (first
                | (refine K.wpList_append_one K.ki (by decide) rfl _ _ rfl w.heap.size uo out d q HQ.out rfl hownb _ 1 rfl src bb HBS.out ?_
                   intro X7 k7 w7 hown7 hgr7 hwh7
                   have hOw : Ow w7 w.heap.size (.slice X7 (q + 1) k7) (out ++ [d]) := own_to rfl HQ.out hown7
                   have HA9 := Lib.hid (HAB.out.grown hgr7 HSB.out)
                   have SG9 := Lib.hid (HSB.out.app HAB.out.row hOw hwh7)
                   have b2 := (box3_grown BXB.out hgr7 HSB.out.o).c2
                   clear hown7 hgr7 hwh7 hownb src hOw b0 b1 hwx BX BXB))
              exact ⟨⟨t + 1, se, wa, _, v3, T', out ++ [d], by omega, by go_num, rfl, rfl, rfl, by omega, HL7.out, by omega, HA9.out, HF7.out, HP7.out, SG9.out⟩, by simp [intOf]; omega⟩
            · have hy := ha.f.s.rng y (by rw [e1]; simp)
              have tk : (k' != 0) = true := by rw [e2]; simp; omega
              obtain ⟨wb, hwb⟩ : ∃ wb, wa = wb + 1 := ⟨wa - 1, by rw [e1, List.length_cons] at hsl; omega⟩
              have HL7 := Lib.hid (show T'.S.length = wb by rw [e1, List.length_cons] at hsl; omega)
              have hwi : (wa : Int) - 1 = (wb : Int) := by omega
              have hwb16 : wb ≤ 16 := by omega
              clear ha hf hpi sg hpp hsl hr hp' hf' hm' hql hq hpi' e1 e2 hy hwb
              go_wp2_with fail
              refine HT.out.mono ?_
              rintro e w3 ⟨rfl, v3, ha, hk⟩
              have SG3 := SG.out.dt HA7.out hk
              have HB3 := Lib.hid (show Below w3.heap.size w3 (w3.alloc (.cells #[.int .i64 d, .bool true, .int .i64 k'] 44)) from (Below.refl _ _).alloc (Nat.le_refl _) _)
              have BX := Lib.hid (box3_new w3 44 (.int .i64 d) (.bool true) (.int .i64 k'))
              have HA8 := Lib.hid (ha.below HB3.out)
              have SG8 := Lib.hid (SG3.below HB3.out)
              have b0 := BX.out.c0
              have b1 := BX.out.c1
              clear ha hk SG3 HT HB3
              obtain ⟨wx, hwx⟩ : ∃ wx, w3.alloc (.cells #[.int .i64 d, .bool true, .int .i64 k'] 44) = wx := ⟨_, rfl⟩
              rw [hwx] at HA8 SG8 BX b0 b1
              have HWB := Lib.hid (show Below wx.heap.size wx (wx.alloc (.cells #[.int .i64 d] 3)) from (Below.refl _ _).alloc (Nat.le_refl _) _)
              have src := K.sr_one K.ci wx 3 d
              rw [show (K.ci d).toArray = #[.int .i64 d] from rfl] at src
              have BXB := Lib.hid (BX.out.below HWB.out)
              have HAB := Lib.hid (HA8.out.below HWB.out)
              have HSB := Lib.hid (SG8.out.below HWB.out)
              have hownb := HSB.out.o
              unfold Ow at hownb
              rw [HQ.out] at hownb
              have HBS := Lib.hid HAB.out.b.size
              have bb : q + 1 ≤ 100000 := by omega
              go_wp2_with (first
                | (refine K.wpList_append_one K.ki (by decide) rfl _ _ rfl w.heap.size uo out d q HQ.out rfl hownb _ 1 rfl src bb HBS.out ?_
                   intro X7 k7 w7 hown7 hgr7 hwh7
                   have hOw : Ow w7 w.heap.size (.slice X7 (q + 1) k7) (out ++ [d]) := own_to rfl HQ.out hown7
                   have HA9 := Lib.hid (HAB.out.grown hgr7 HSB.out)
                   have SG9 := Lib.hid (HSB.out.app HAB.out.row hOw hwh7)
                   have b2 := (box3_grown BXB.out hgr7 HSB.out.o).c2
                   clear hown7 hgr7 hwh7 hownb src hOw b0 b1 hwx BX BXB))
              exact ⟨⟨t + 1, se, wb, _, v3, T', out ++ [d], by omega, by go_num, rfl, rfl, rfl, by omega, HL7.out, by omega, HA9.out, HF7.out, HP7.out, SG9.out⟩, by simp [intOf]; omega⟩
        · have g2' : decide (se < len1) = false := by simp at g2 ⊢; omega
          cases hpp : pipe T with
          | nil =>
            have HT := Lib.hid (tryRecv_at ha (pipe_none hpp))
            have HA7 := Lib.hid ha
            have SG := Lib.hid sg
            have HF7 := Lib.hid hf
            have HP7 := Lib.hid hpi
            have HL7 := Lib.hid hsl
            clear ha hf hpi sg hpp hsl
            go_wp2_with fail
            refine HT.out.mono ?_
            rintro e w3 ⟨rfl, v3, ha, hk⟩
            have SG3 := SG.out.dt HA7.out hk
            have HB3 := Lib.hid (show Below w3.heap.size w3 (w3.alloc (.cells #[.int .i64 0, .bool false, .int .i64 0] 44)) from (Below.refl _ _).alloc (Nat.le_refl _) _)
            have bx := box3_new w3 44 (.int .i64 0) (.bool false) (.int .i64 0)
            have HA8 := Lib.hid (ha.below HB3.out)
            have SG8 := Lib.hid (SG3.below HB3.out)
            have b1 := bx.c1
            have b2 := bx.c2
            clear ha hk SG3 bx HT HB3
            go_wp2
            exact ⟨⟨t + 1, se, wa, _, v3, T, out, by omega, by go_num, rfl, rfl, rfl, by omega, HL7.out, by omega, HA8.out, HF7.out, HP7.out, SG8.out⟩, by simp [intOf]; omega⟩
          | cons d P =>
            obtain ⟨T', k', hr, hp', hf', hm', hcase⟩ := pipe_some hpp hf
            rw [hpp] at hpi
            have hql := take_len hpi
            obtain ⟨q, hq⟩ : ∃ q, out.length = q := ⟨_, rfl⟩
            have HQ := Lib.hid hq
            have hq100 : q ≤ 100 := by rw [hq] at hql; omega
            have hpi' : (out ++ [d]) ++ pipe T' = L.take se := by rw [hp', List.append_assoc]; exact hpi
            have HP7 := Lib.hid hpi'
            have HF7 := Lib.hid hf'
            have HT := Lib.hid (tryRecv_at ha hr)
            have HA7 := Lib.hid ha
            have SG := Lib.hid sg
            rcases hcase with ⟨e1, e2, e3⟩ | ⟨y, e1, e2⟩
            · have hwa0 : wa = 0 := by rw [e1] at hsl; simpa using hsl.symm
              have HL7 := Lib.hid (show T'.S.length = wa by rw [e2, hwa0]; rfl)
              have tk : (k' != 0) = false := by rw [e3]; rfl
              clear ha hf hpi sg hpp hsl hr hp' hf' hm' hql hq hpi' e1 e2 e3 hwa0
              go_wp2_with fail
              refine HT.out.mono ?_
              rintro e w3 ⟨rfl, v3, ha, hk⟩
              have SG3 := SG.out.dt HA7.out hk
              have HB3 := Lib.hid (show Below w3.heap.size w3 (w3.alloc (.cells #[.int .i64 d, .bool true, .int .i64 k'] 44)) from (Below.refl _ _).alloc (Nat.le_refl _) _)
              have BX := Lib.hid (box3_new w3 44 (.int .i64 d) (.bool true) (.int .i64 k'))
              have HA8 := Lib.hid (ha.below HB3.out)
              have SG8 := Lib.hid (SG3.below HB3.out)
              have b0 := BX.out.c0
              have b1 := BX.out.c1
              clear ha hk SG3 HT HB3
              obtain ⟨wx, hwx⟩ : ∃ wx, w3.alloc (.cells #[.int .i64 d, .bool true, .int .i64 k'] 44) = wx := ⟨_, rfl⟩
              rw [hwx] at HA8 SG8 BX b0 b1
              have HWB := Lib.hid (show Below wx.heap.size wx (wx.alloc (.cells #[.int .i64 d] 3)) from (Below.refl _ _).alloc (Nat.le_refl _) _)
              have src := K.sr_one K.ci wx 3 d
              rw [show (K.ci d).toArray = #[.int .i64 d] from rfl] at src
              have BXB := Lib.hid (BX.out.below HWB.out)
              have HAB := Lib.hid (HA8.out.below HWB.out)
              have HSB := Lib.hid (SG8.out.below HWB.out)
              have hownb := HSB.out.o
              unfold Ow at hownb
              rw [HQ.out] at hownb
              have HBS := Lib.hid HAB.out.b.size
              have bb : q + 1 ≤ 100000 := by omega
              go_wp2_with (first
                | (refine K.wpList_append_one K.ki (by decide) rfl _ _ rfl w.heap.size uo out d q HQ.out rfl hownb _ 1 rfl src bb HBS.out ?_
                   intro X7 k7 w7 hown7 hgr7 hwh7
                   have hOw : Ow w7 w.heap.size (.slice X7 (q + 1) k7) (out ++ [d]) := own_to rfl HQ.out hown7
                   have HA9 := Lib.hid (HAB.out.grown hgr7 HSB.out)
                   have SG9 := Lib.hid (HSB.out.app HAB.out.row hOw hwh7)
                   have b2 := (box3_grown BXB.out hgr7 HSB.out.o).c2
                   clear hown7 hgr7 hwh7 hownb src hOw b0 b1 hwx BX BXB))
              exact ⟨⟨t + 1, se, wa, _, v3, T', out ++ [d], by omega, by go_num, rfl, rfl, rfl, by omega, HL7.out, by omega, HA9.out, HF7.out, HP7.out, SG9.out⟩, by simp [intOf]; omega⟩
            · have hy := ha.f.s.rng y (by rw [e1]; simp)
              have tk : (k' != 0) = true := by rw [e2]; simp; omega
              obtain ⟨wb, hwb⟩ : ∃ wb, wa = wb + 1 := ⟨wa - 1, by rw [e1, List.length_cons] at hsl; omega⟩
              have HL7 := Lib.hid (show T'.S.length = wb by rw [e1, List.length_cons] at hsl; omega)
              have hwi : (wa : Int) - 1 = (wb : Int) := by omega
              have hwb16 : wb ≤ 16 := by omega
              clear ha hf hpi sg hpp hsl hr hp' hf' hm' hql hq hpi' e1 e2 hy hwb
              go_wp2_with fail
              refine HT.out.mono ?_
              rintro e w3 ⟨rfl, v3, ha, hk⟩
              have SG3 := SG.out.dt HA7.out hk
              have HB3 := Lib.hid (show Below w3.heap.size w3 (w3.alloc (.cells #[.int .i64 d, .bool true, .int .i64 k'] 44)) from (Below.refl _ _).alloc (Nat.le_refl _) _)
              have BX := Lib.hid (box3_new w3 44 (.int .i64 d) (.bool true) (.int .i64 k'))
              have HA8 := Lib.hid (ha.below HB3.out)
              have SG8 := Lib.hid (SG3.below HB3.out)
              have b0 := BX.out.c0
              have b1 := BX.out.c1
              clear ha hk SG3 HT HB3
              obtain ⟨wx, hwx⟩ : ∃ wx, w3.alloc (.cells #[.int .i64 d, .bool true, .int .i64 k'] 44) = wx := ⟨_, rfl⟩
              rw [hwx] at HA8 SG8 BX b0 b1
              have HWB := Lib.hid (show Below wx.heap.size wx (wx.alloc (.cells #[.int .i64 d] 3)) from (Below.refl _ _).alloc (Nat.le_refl _) _)
              have src := K.sr_one K.ci wx 3 d
              rw [show (K.ci d).toArray = #[.int .i64 d] from rfl] at src
              have BXB := Lib.hid (BX.out.below HWB.out)
              have HAB := Lib.hid (HA8.out.below HWB.out)
              have HSB := Lib.hid (SG8.out.below HWB.out)
              have hownb := HSB.out.o
              unfold Ow at hownb
              rw [HQ.out] at hownb
              have HBS := Lib.hid HAB.out.b.size
              have bb : q + 1 ≤ 100000 := by omega
              go_wp2_with (first
                | (refine K.wpList_append_one K.ki (by decide) rfl _ _ rfl w.heap.size uo out d q HQ.out rfl hownb _ 1 rfl src bb HBS.out ?_
                   intro X7 k7 w7 hown7 hgr7 hwh7
                   have hOw : Ow w7 w.heap.size (.slice X7 (q + 1) k7) (out ++ [d]) := own_to rfl HQ.out hown7
                   have HA9 := Lib.hid (HAB.out.grown hgr7 HSB.out)
                   have SG9 := Lib.hid (HSB.out.app HAB.out.row hOw hwh7)
                   have b2 := (box3_grown BXB.out hgr7 HSB.out.o).c2
                   clear hown7 hgr7 hwh7 hownb src hOw b0 b1 hwx BX BXB))
              exact ⟨⟨t + 1, se, wb, _, v3, T', out ++ [d], by omega, by go_num, rfl, rfl, rfl, by omega, HL7.out, by omega, HA9.out, HF7.out, HP7.out, SG9.out⟩, by simp [intOf]; omega⟩
        · have g2' : decide (se < len1) = true := by simp at g2 ⊢; omega
          have g3' : decide (wa < 16) = false := by simp at g3 ⊢; omega
          cases hpp : pipe T with
          | nil =>
            have HT := Lib.hid (tryRecv_at ha (pipe_none hpp))
            have HA7 := Lib.hid ha
            have SG := Lib.hid sg
            have HF7 := Lib.hid hf
            have HP7 := Lib.hid hpi
            have HL7 := Lib.hid hsl
            clear ha hf hpi sg hpp hsl
            go_wp2_with fail
            refine HT.out.mono ?_
            rintro e w3 ⟨rfl, v3, ha, hk⟩
            have SG3 := SG.out.dt HA7.out hk
            have HB3 := Lib.hid (show Below w3.heap.size w3 (w3.alloc (.cells #[.int .i64 0, .bool false, .int .i64 0] 44)) from (Below.refl _ _).alloc (Nat.le_refl _) _)
            have bx := box3_new w3 44 (.int .i64 0) (.bool false) (.int .i64 0)
            have HA8 := Lib.hid (ha.below HB3.out)
            have SG8 := Lib.hid (SG3.below HB3.out)
            have b1 := bx.c1
            have b2 := bx.c2
            clear ha hk SG3 bx HT HB3
            go_wp2
            exact ⟨⟨t + 1, se, wa, _, v3, T, out, by omega, by go_num, rfl, rfl, rfl, by omega, HL7.out, by omega, HA8.out, HF7.out, HP7.out, SG8.out⟩, by simp [intOf]; omega⟩
          | cons d P =>
            obtain ⟨T', k', hr, hp', hf', hm', hcase⟩ := pipe_some hpp hf
            rw [hpp] at hpi
            have hql := take_len hpi
            obtain ⟨q, hq⟩ : ∃ q, out.length = q := ⟨_, rfl⟩
            have HQ := Lib.hid hq
            have hq100 : q ≤ 100 := by rw [hq] at hql; omega
            have hpi' : (out ++ [d]) ++ pipe T' = L.take se := by rw [hp', List.append_assoc]; exact hpi
            have HP7 := Lib.hid hpi'
            have HF7 := Lib.hid hf'
            have HT := Lib.hid (tryRecv_at ha hr)
            have HA7 := Lib.hid ha
            have SG := Lib.hid sg
            rcases hcase with ⟨e1, e2, e3⟩ | ⟨y, e1, e2⟩
            · have hwa0 : wa = 0 := by rw [e1] at hsl; simpa using hsl.symm
              have HL7 := Lib.hid (show T'.S.length = wa by rw [e2, hwa0]; rfl)
              have tk : (k' != 0) = false := by rw [e3]; rfl
              clear ha hf hpi sg hpp hsl hr hp' hf' hm' hql hq hpi' e1 e2 e3 hwa0
              go_wp2_with fail
              refine HT.out.mono ?_
              rintro e w3 ⟨rfl, v3, ha, hk⟩
              have SG3 := SG.out.dt HA7.out hk
              have HB3 := Lib.hid (show Below w3.heap.size w3 (w3.alloc (.cells #[.int .i64 d, .bool true, .int .i64 k'] 44)) from (Below.refl _ _).alloc (Nat.le_refl _) _)
              have BX := Lib.hid (box3_new w3 44 (.int .i64 d) (.bool true) (.int .i64 k'))
              have HA8 := Lib.hid (ha.below HB3.out)
              have SG8 := Lib.hid (SG3.below HB3.out)
              have b0 := BX.out.c0
              have b1 := BX.out.c1
              clear ha hk SG3 HT HB3
              obtain ⟨wx, hwx⟩ : ∃ wx, w3.alloc (.cells #[.int .i64 d, .bool true, .int .i64 k'] 44) = wx := ⟨_, rfl⟩
              rw [hwx] at HA8 SG8 BX b0 b1
              have HWB := Lib.hid (show Below wx.heap.size wx (wx.alloc (.cells #[.int .i64 d] 3)) from (Below.refl _ _).alloc (Nat.le_refl _) _)
              have src := K.sr_one K.ci wx 3 d
              rw [show (K.ci d).toArray = #[.int .i64 d] from rfl] at src
              have BXB := Lib.hid (BX.out.below HWB.out)
              have HAB := Lib.hid (HA8.out.below HWB.out)
              have HSB := Lib.hid (SG8.out.below HWB.out)
              have hownb := HSB.out.o
              unfold Ow at hownb
              rw [HQ.out] at hownb
              have HBS := Lib.hid HAB.out.b.size
              have bb : q + 1 ≤ 100000 := by omega
              go_wp2_with (first
                | (refine K.wpList_append_one K.ki (by decide) rfl _ _ rfl w.heap.size uo out d q HQ.out rfl hownb _ 1 rfl src bb HBS.out ?_
                   intro X7 k7 w7 hown7 hgr7 hwh7
                   have hOw : Ow w7 w.heap.size (.slice X7 (q + 1) k7) (out ++ [d]) := own_to rfl HQ.out hown7
                   have HA9 := Lib.hid (HAB.out.grown hgr7 HSB.out)
                   have SG9 := Lib.hid (HSB.out.app HAB.out.row hOw hwh7)
                   have b2 := (box3_grown BXB.out hgr7 HSB.out.o).c2
                   clear hown7 hgr7 hwh7 hownb src hOw b0 b1 hwx BX BXB))
              exact ⟨⟨t + 1, se, wa, _, v3, T', out ++ [d], by omega, by go_num, rfl, rfl, rfl, by omega, HL7.out, by omega, HA9.out, HF7.out, HP7.out, SG9.out⟩, by simp [intOf]; omega⟩
            · have hy := ha.f.s.rng y (by rw [e1]; simp)
              have tk : (k' != 0) = true := by rw [e2]; simp; omega
              obtain ⟨wb, hwb⟩ : ∃ wb, wa = wb + 1 := ⟨wa - 1, by rw [e1, List.length_cons] at hsl; omega⟩
              have HL7 := Lib.hid (show T'.S.length = wb by rw [e1, List.length_cons] at hsl; omega)
              have hwi : (wa : Int) - 1 = (wb : Int) := by omega
              have hwb16 : wb ≤ 16 := by omega
              clear ha hf hpi sg hpp hsl hr hp' hf' hm' hql hq hpi' e1 e2 hy hwb
              go_wp2_with fail
              refine HT.out.mono ?_
              rintro e w3 ⟨rfl, v3, ha, hk⟩
              have SG3 := SG.out.dt HA7.out hk
              have HB3 := Lib.hid (show Below w3.heap.size w3 (w3.alloc (.cells #[.int .i64 d, .bool true, .int .i64 k'] 44)) from (Below.refl _ _).alloc (Nat.le_refl _) _)
              have BX := Lib.hid (box3_new w3 44 (.int .i64 d) (.bool true) (.int .i64 k'))
              have HA8 := Lib.hid (ha.below HB3.out)
              have SG8 := Lib.hid (SG3.below HB3.out)
              have b0 := BX.out.c0
              have b1 := BX.out.c1
              clear ha hk SG3 HT HB3
              obtain ⟨wx, hwx⟩ : ∃ wx, w3.alloc (.cells #[.int .i64 d, .bool true, .int .i64 k'] 44) = wx := ⟨_, rfl⟩
              rw [hwx] at HA8 SG8 BX b0 b1
              have HWB := Lib.hid (show Below wx.heap.size wx (wx.alloc (.cells #[.int .i64 d] 3)) from (Below.refl _ _).alloc (Nat.le_refl _) _)
              have src := K.sr_one K.ci wx 3 d
              rw [show (K.ci d).toArray = #[.int .i64 d] from rfl] at src
              have BXB := Lib.hid (BX.out.below HWB.out)
              have HAB := Lib.hid (HA8.out.below HWB.out)
              have HSB := Lib.hid (SG8.out.below HWB.out)
              have hownb := HSB.out.o
              unfold Ow at hownb
              rw [HQ.out] at hownb
              have HBS := Lib.hid HAB.out.b.size
              have bb : q + 1 ≤ 100000 := by omega
              go_wp2_with (first
                | (refine K.wpList_append_one K.ki (by decide) rfl _ _ rfl w.heap.size uo out d q HQ.out rfl hownb _ 1 rfl src bb HBS.out ?_
                   intro X7 k7 w7 hown7 hgr7 hwh7
                   have hOw : Ow w7 w.heap.size (.slice X7 (q + 1) k7) (out ++ [d]) := own_to rfl HQ.out hown7
                   have HA9 := Lib.hid (HAB.out.grown hgr7 HSB.out)
                   have SG9 := Lib.hid (HSB.out.app HAB.out.row hOw hwh7)
                   have b2 := (box3_grown BXB.out hgr7 HSB.out.o).c2
                   clear hown7 hgr7 hwh7 hownb src hOw b0 b1 hwx BX BXB))
              exact ⟨⟨t + 1, se, wb, _, v3, T', out ++ [d], by omega, by go_num, rfl, rfl, rfl, by omega, HL7.out, by omega, HA9.out, HF7.out, HP7.out, SG9.out⟩, by simp [intOf]; omega⟩
    · obtain rfl : t = len2 := by omega
      have hql := take_len hpi
      have HA7 := Lib.hid ha
      have SG := Lib.hid sg
      have HF7 := Lib.hid hf
      have HP7 := Lib.hid hpi
      have hse100 : se ≤ 100 := by omega
      have HSE := Lib.hid hse
      have hlen100 : 0 + (pipe T).length ≤ 100 := by omega
      have HLP := Lib.hid hlen100
      clear ha hf hpi sg hsl hql hlen100 hse100
      go_wp2
      go_loopw [17, 11] (fun i o wr => ∃ (k : Nat) (uo v : Value) (T : St) (out : List Int), i = .int .i64 (k : Int) ∧ uo = o ∧ k + (pipe T).length ≤ 100 ∧ At w s v T wr ∧ Flow T ∧ out ++ pipe T = L.take se ∧ Side wr w.heap.size v uo out) (fun i _ _ => 200 - (intOf i).toNat)
      case atStart => exact ⟨0, _, v, T, out, rfl, rfl, HLP.out, HA7.out, HF7.out, HP7.out, SG.out⟩
      case round =>
        obtain ⟨k, uo, v, T, out, rfl, rfl, hk100, ha, hf, hpi, sg⟩ := hrel
        have hlt' : (k : Int) < 200 := by omega
        have hk1 : (k : Int) ≤ 100 := by omega
        cases hpp : pipe T with
        | nil =>
          rw [hpp, List.append_nil] at hpi
          have HT := Lib.hid (tryRecv_at ha (pipe_none hpp))
          have HA8 := Lib.hid ha
          have SG2 := Lib.hid sg
          have HP8 := Lib.hid hpi
          clear ha hf hpi sg hpp
          go_wp2_with fail
          refine HT.out.mono ?_
          rintro e w3 ⟨rfl, v3, ha, hk⟩
          have SG3 := SG2.out.dt HA8.out hk
          have hB3 : Below w3.heap.size w3 (w3.alloc (.cells #[.int .i64 0, .bool false, .int .i64 0] 44)) := (Below.refl _ _).alloc (Nat.le_refl _) _
          have bx := box3_new w3 44 (.int .i64 0) (.bool false) (.int .i64 0)
          have SG8 := Lib.hid (SG3.below hB3)
          have HBB := Lib.hid (ha.below hB3).b
          have b1 := bx.c1
          obtain ⟨hcut, hnt⟩ := nr_cut_h (f := se) (HNR.out.below HBB.out) HL.out HSE.out hc1 hc2
          have hsl : ∀ W, (Instr.slice 58 (.slice a1 len1 cap1) none (some (.int .i64 (se : Int))) none).run Try.prog W = .ok (.slice a1 se cap1) W := fun W => hcut W _ rfl
          have HS := Lib.hid (same_true _ _ _ _ _ (Nr.of_own SG8.out.o) hnt HP8.out)
          clear ha hk SG3 bx HT hB3 hcut hnt
          go_wp2_with fail
          refine HS.out.mono ?_
          rintro e w9 ⟨rfl, hb⟩
          have HB9 := Lib.hid (below_trans HBB.out hb)
          clear hb HS
          go_wp2
          go_ret
          exact ⟨rfl, HB9.out⟩
        | cons d P =>
          obtain ⟨T', k', hr, hp', hf', hm', hcase⟩ := pipe_some hpp hf
          rw [hpp] at hpi hk100
          have hql := take_len hpi
          obtain ⟨q, hq⟩ : ∃ q, out.length = q := ⟨_, rfl⟩
          have HQ := Lib.hid hq
          have hq100 : q ≤ 100 := by have := HSE.out; rw [hq] at hql; omega
          have hpi' : (out ++ [d]) ++ pipe T' = L.take se := by rw [hp', List.append_assoc]; exact hpi
          have HP8 := Lib.hid hpi'
          have HF8 := Lib.hid hf'
          have HK8 := Lib.hid (show k + 1 + (pipe T').length ≤ 100 by rw [hp']; rw [List.length_cons] at hk100; omega)
          have HT := Lib.hid (tryRecv_at ha hr)
          have HA7 := Lib.hid ha
          have SG := Lib.hid sg
          clear ha hf hpi sg hpp hr hp' hf' hm' hql hq hpi' hcase hk100
          go_wp2_with fail
          refine HT.out.mono ?_
          rintro e w3 ⟨rfl, v3, ha, hk⟩
          have SG3 := SG.out.dt HA7.out hk
          have HB3 := Lib.hid (show Below w3.heap.size w3 (w3.alloc (.cells #[.int .i64 d, .bool true, .int .i64 k'] 44)) from (Below.refl _ _).alloc (Nat.le_refl _) _)
          have BX := Lib.hid (box3_new w3 44 (.int .i64 d) (.bool true) (.int .i64 k'))
          have HA8 := Lib.hid (ha.below HB3.out)
          have SG8 := Lib.hid (SG3.below HB3.out)
          have b0 := BX.out.c0
          have b1 := BX.out.c1
          clear ha hk SG3 HT HB3
          obtain ⟨wx, hwx⟩ : ∃ wx, w3.alloc (.cells #[.int .i64 d, .bool true, .int .i64 k'] 44) = wx := ⟨_, rfl⟩
          rw [hwx] at HA8 SG8 BX b0 b1
          have HWB := Lib.hid (show Below wx.heap.size wx (wx.alloc (.cells #[.int .i64 d] 3)) from (Below.refl _ _).alloc (Nat.le_refl _) _)
          have src := K.sr_one K.ci wx 3 d
          rw [show (K.ci d).toArray = #[.int .i64 d] from rfl] at src
          have BXB := Lib.hid (BX.out.below HWB.out)
          have HAB := Lib.hid (HA8.out.below HWB.out)
          have HSB := Lib.hid (SG8.out.below HWB.out)
          have hownb := HSB.out.o
          unfold Ow at hownb
          rw [HQ.out] at hownb
          have HBS := Lib.hid HAB.out.b.size
          have bb : q + 1 ≤ 100000 := by omega
          go_wp2_with (first
            | (refine K.wpList_append_one K.ki (by decide) rfl _ _ rfl w.heap.size uo out d q HQ.out rfl hownb _ 1 rfl src bb HBS.out ?_
               intro X7 k7 w7 hown7 hgr7 hwh7
               have hOw : Ow w7 w.heap.size (.slice X7 (q + 1) k7) (out ++ [d]) := own_to rfl HQ.out hown7
               have HA9 := Lib.hid (HAB.out.grown hgr7 HSB.out)
               have SG9 := Lib.hid (HSB.out.app HAB.out.row hOw hwh7)
               clear hown7 hgr7 hwh7 hownb src hOw b0 b1 hwx BX BXB))
          exact ⟨⟨k + 1, _, v3, T', out ++ [d], by go_num, rfl, HK8.out, HA9.out, HF8.out, HP8.out, SG9.out⟩, by simp [intOf]; omega⟩

/-! ### the row's step -/
set_option maxRecDepth 100000 in
theorem lifted (os : Os) (started : os.Started) (H : Type) (enc : TypeId × Value → H) :
    ReturnsInHanded {} Try.checked os 4 .any (Rows.dataOrderSpec.pre6 enc Try.prog Try.f4 Rows.dataOrderRow.domain false) (Rows.dataOrderSpec.post enc Try.prog Try.f4 false true false false) := by
  refine returnsInHanded_of_change (C := Try.checked) own started (by kernel_rfl) Try.func4
    (ChangeSpec.witness6 (enc := enc) (C := Try.checked) false ⟨#[], #[.int .u8 0, .slice none 0 0, .slice none 0 0], []⟩ 8 (by kernel_rfl) (by kernel_rfl) (by kernel_rfl) (by kernel_rfl)) ?_
  intro W base args ds gs before hval0 hW hcnd _
  have hval : ∀ (j : Nat) t v, Try.f4.params[j]? = some t → args[j]? = some v → Value.okWide Try.prog W .any base t v := hval0
  have hW' := hW
  obtain ⟨p, q, hA0, hV, rfl, hfz, hnd⟩ := hW
  have hA : DataW.TrodAll enc Try.prog W 0 (fun _ => true) true Try.f4.params.toList args.toList ds p := hA0
  rw [Try.params4] at hA hval
  obtain ⟨v0, vs0, d0, ds0, p0, q0, hargs, rfl, rfl, h0, r0⟩ := trodAll_cons hA
  obtain ⟨v1, vs1, d1, ds1, p1, q1, rfl, rfl, rfl, h1, r1⟩ := trodAll_cons r0
  obtain ⟨v2, vs2, d2, ds2, p2, q2, rfl, rfl, rfl, h2, r2⟩ := trodAll_cons r1
  obtain ⟨rfl, rfl, rfl⟩ := trodAll_nil r2
  obtain rfl : args = #[v0, v1, v2] := by cases args; simp_all
  obtain ⟨rfl, rfl⟩ := trodVars_none hV
  obtain ⟨a0, rfl, rfl, rfl, w0⟩ := open_int Try.underlying5 (hval 0 5 v0 rfl rfl) h0
  obtain ⟨a1, len1, cap1, rfl⟩ := okWide_slice Try.underlying58 (hval 1 58 v1 rfl rfl)
  obtain ⟨a2, len2, cap2, rfl⟩ := okWide_slice Try.underlying59 (hval 2 59 v2 rfl rfl)
  have k1 := h1
  have k2 := h2
  have lt1 : ∀ x ∈ p1, x.block < W.heap.size := by obtain ⟨m, hm⟩ := k1; exact DataW.trod_lt m _ _ _ hm
  have lt2 : ∀ x ∈ p2, x.block < W.heap.size := by obtain ⟨m, hm⟩ := k2; exact DataW.trod_lt m _ _ _ hm
  obtain ⟨L, hL, hc1, hc2, hnr⟩ : ∃ L : List Int, L.length = len1 ∧ len1 ≤ cap1 ∧ cap1 ≤ 9223372036854775807 ∧ Nr W (.slice a1 len1 cap1) L := by
    obtain ⟨fuel, hf⟩ := h1
    rcases open_ints Try.underlying58 Try.underlying3 (by kernel_rfl) hf with ⟨hcs, _⟩ | ⟨x, l, c, zs, hcs, _, hl, hm, hz, _, hcell, hwz⟩
    · simp [Value.cells] at hcs
      obtain ⟨rfl, rfl, rfl⟩ := hcs
      exact nr_of (zs := []) (.inl ⟨rfl, rfl, rfl, rfl⟩)
    · simp [Value.cells] at hcs
      obtain ⟨rfl, rfl, rfl⟩ := hcs
      exact nr_of (zs := zs) (.inr ⟨_, rfl, hl, hm, by simpa using hz, hcell, hwz⟩)
  obtain ⟨C, hC⟩ : ∃ C, Bin W a2 len2 C := by
    obtain ⟨fuel, hf⟩ := h2
    rcases Go.Deep.open_bools Try.underlying59 Try.underlying4 (by kernel_rfl) hf with ⟨hcs, _⟩ | ⟨x, l, c, B, hcs, _, hl, hm, _, hcell⟩
    · simp [Value.cells] at hcs
      obtain ⟨rfl, rfl, rfl⟩ := hcs
      exact ⟨fun _ => false, fun h => absurd h (by omega)⟩
    · simp [Value.cells] at hcs
      obtain ⟨rfl, rfl, rfl⟩ := hcs
      refine ⟨B, fun h0 => ?_⟩
      obtain ⟨b, o, s⟩ := x
      have hc0 := hcell 0 (by omega)
      have hs : s = none := by
        cases s with
        | none => rfl
        | some q => simp [Addr.add, World.cell?] at hc0; split at hc0 <;> simp at hc0
      subst hs
      have hb : b < W.heap.size := by have := block_lt_of_cell hc0; simpa [Addr.add] using this
      exact ⟨b, o, rfl, hb, fun j hj => by have := hcell j (by omega); rw [addr_add] at this; exact this⟩
  clear hA0 hval0
  have hwalk : Calls Try.prog 4 #[.int .u8 a0, .slice a1 len1 cap1, .slice a2 len2 cap2] W fun e w' => e = .returned (.bool true) ∧ Below W.heap.size W w' := by
    by_cases h : 100 < len1 ∨ 300 < len2
    · exact walkOut a0 a1 len1 cap1 a2 len2 cap2 W h
    · have hk := bounds_u8 w0
      obtain ⟨a, rfl⟩ : ∃ a : Nat, a0 = (a : Int) := ⟨a0.toNat, by omega⟩
      exact walkIn a a1 len1 cap1 L a2 len2 cap2 C W hnr hL hc1 hc2 hC (by omega) (by omega)
  refine hwalk.mono fun e W' ⟨he, bel⟩ => ?_
  subst he
  exact ⟨_, rfl, _, _, _, [], _, [], hW', trodAll_mk1 (shut_bool Try.underlying4 _), (trodAll_cons_mk (shut_int Try.underlying5 w0) (trodAll_cons_mk (Below.trod laidOut (by kernel_rfl) (of_decide_eq_true (by kernel_rfl)) k1 bel lt1) (trodAll_cons_mk (Below.trod laidOut (by kernel_rfl) (of_decide_eq_true (by kernel_rfl)) k2 bel lt2) trodAll_mk0))), rfl, bel.frame _, fun h => by cases h⟩

theorem over : Rows.dataOrderRow.holds Try.pinned (OpenSpec.ofChange Rows.dataOrderSpec) :=
  OpenClaim.holds_of_wide 4 Try.f4 rfl rfl rfl rfl rfl rfl rfl ⟨rfl, rfl, rfl, rfl, rfl⟩ rfl rfl rfl rfl rfl (by kernel_rfl) Try.func4 (by kernel_rfl)
    (of_decide_eq_true (by kernel_rfl)) (by unfold Func.isWrapper; first | (rw [if_pos (by decide +kernel)]; kernel_rfl) | (rw [if_neg (by decide +kernel)]; exact ⟨rfl, rfl⟩))
    (fun os started H enc _ => lifted os started H enc)

theorem proved : Rows.DataOrderSaid := over
#print axioms proved
end Go.Proofs.Ytnbepahanhcmeaa.dataOrder
namespace Go.Proofs.Ytnbepahanhcmeaa
theorem dataOrder_holds : Rows.DataOrderSaid := dataOrder.proved
end Go.Proofs.Ytnbepahanhcmeaa
