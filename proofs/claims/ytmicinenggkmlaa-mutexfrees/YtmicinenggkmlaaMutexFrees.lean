/-
  PROVED: the Go function detentlaw15.MutexFrees returns true for every input, and each argument reads behind the call as it read before (Rows.MutexFreesSaid). No condition.
-/
import Derived.Test.YtmicinenggkmlaaRows
import Derived.Test.YtmicinenggkmlaaMtQ
import Derived.WalkKit
import Derived.ProofKit
import Derived.OpenShut
import Derived.ShutString
import Derived.ChangeOld
import Derived.Below
import Derived.Deep.Grids
namespace Go.Proofs.Ytmicinenggkmlaa.mutexFrees
open Go.ChangeShapes Go.WideShapes Go.ChangeAt Go.RowKit
open Go.ChangeMaps (open_string shut_string)
set_option linter.unusedVariables false

theorem own : ownKnob Try.prog.godebug = none := by kernel_rfl
theorem laidOut : laidOutB Try.prog = true := by kernel_rfl

/-- bools that came in -/
def Bin (w : World) (A : Option Addr) (n : Nat) (C : Nat → Bool) : Prop :=
  0 < n → ∃ b o : Nat, A = some ⟨b, o, none⟩ ∧ b < w.heap.size ∧ ∀ j, j < n → w.cell? ⟨b, o + j, none⟩ = some (.bool (C j))

def A2 (_ : Nat) : Int := 2
def C0 (_ : Nat) : Int := 0
def kf (_ : Nat) : Int × Int := (2, 0)
def fO (v : Nat) (j : Nat) : Int := if j < v then 16 else 0
def fW (C : Nat → Bool) (v : Nat) (j : Nat) (s : Int) : Prop := j < v ∧ C j = true ∧ s = (j : Int) + 1
def cnt (C : Nat → Bool) : Nat → Nat
  | 0 => 0
  | v + 1 => if C v = true then cnt C v + 1 else cnt C v
def gl (C : Nat → Bool) : Nat → List Int
  | 0 => []
  | v + 1 => if C v = true then gl C v ++ [(v : Int) + 1] else gl C v
def uu (C : Nat → Bool) (i : Nat) : Int := if C i = true then (i : Int) + 1 else 0
theorem gl_len (C : Nat → Bool) : ∀ v, (gl C v).length = cnt C v
  | 0 => rfl
  | v + 1 => by
    unfold gl cnt
    split
    · rw [List.length_append, gl_len C v]; rfl
    · exact gl_len C v
theorem cnt_le (C : Nat → Bool) : ∀ v, cnt C v ≤ v
  | 0 => Nat.le_refl _
  | v + 1 => by
    have := cnt_le C v
    unfold cnt
    split <;> omega
theorem gl_at {C : Nat → Bool} {v : Nat} (hc : C v = true) : ∀ n, v < n → (gl C n)[cnt C v]? = some ((v : Int) + 1)
  | 0, h => absurd h (by omega)
  | n + 1, h => by
    unfold gl
    by_cases e : v = n
    · subst e
      rw [if_pos hc, List.getElem?_append_right (by rw [gl_len]; exact Nat.le_refl _), gl_len, Nat.sub_self]; rfl
    · have ih := gl_at hc n (by omega)
      split
      · have hl := (List.getElem?_eq_some_iff.1 ih).1
        rw [List.getElem?_append_left hl]; exact ih
      · exact ih
theorem gone_gl {C : Nat → Bool} {n : Nat} : ∀ k, k ≤ n → gone (fO n) (uu C) 16 k = gl C k
  | 0, _ => rfl
  | k + 1, h => by
    unfold gone gl
    rw [gone_gl k (by omega), if_pos (by unfold fO; rw [if_pos (by omega)])]
    by_cases c : C k = true
    · have e : uu C k = (k : Int) + 1 := by unfold uu; rw [if_pos c]
      rw [if_pos c, e, if_neg (by omega)]
    · have e : uu C k = 0 := by unfold uu; rw [if_neg c]
      rw [if_neg c, e, if_pos rfl, List.append_nil]
section
variable {S : St} {n v : Nat} {C : Nat → Bool} {B : Int → Int}
theorem free0 (h : Lk S n (fun i => (kf i).1) (fun i => (kf i).2) (fun _ => 0) (fun _ _ => False) (fun _ => 16)) : Lk S n A2 C0 (fO 0) (fW C 0) (fun _ => 16) := by
  refine Lk.to (O := fun _ => 0) (W := fun _ _ => False) h (fun i _ => ?_) (fun j _ s => ?_) (fun _ _ => rfl)
  · unfold fO; rw [if_neg (by omega)]
  · exact ⟨fun e => e.elim, fun e => by unfold fW at e; omega⟩
theorem free1 (h8 : n ≤ 8) (hv : v < n) (h : Lk S n A2 C0 (fO v) (fW C v) B) :
    ∃ S', lockL S ((v : Int) + 1) 16 = (S', true, 0) ∧ Lk S' n A2 C0 (fO (v + 1)) (fW C v) B := by
  obtain ⟨S', e1, e2⟩ := h.lock_free (i := v) (m := (v : Int) + 1) (t := 16) hv rfl (by unfold isT; omega) (by unfold fO; rw [if_neg (by omega)]) (fun e => by have := e.1; unfold A2 at this; omega) (fun j _ e => by unfold fW at e; omega)
  refine ⟨S', e1, e2.to (fun i hi => ?_) (fun _ _ _ => Iff.rfl) (fun _ _ => rfl)⟩
  unfold upd fO
  by_cases c : i = v
  · rw [if_pos c, if_pos (by omega)]
  · rw [if_neg c]
    by_cases c2 : i < v
    · rw [if_pos c2, if_pos (by omega)]
    · rw [if_neg c2, if_neg (by omega)]
theorem free2 (hc : ¬ C v = true) (h : Lk S n A2 C0 (fO (v + 1)) (fW C v) B) : Lk S n A2 C0 (fO (v + 1)) (fW C (v + 1)) B := by
  refine h.to (fun _ _ => rfl) (fun j _ s => ?_) (fun _ _ => rfl)
  unfold fW
  constructor
  · rintro ⟨e1, e2⟩; exact ⟨by omega, e2⟩
  · rintro ⟨e1, e2, e3⟩
    refine ⟨?_, e2, e3⟩
    by_cases c : j = v
    · subst c; exact absurd e2 hc
    · omega
theorem free3 (h8 : n ≤ 8) (hv : v < n) (hB : B 16 = 16) (h : Lk S n A2 C0 (fO (v + 1)) (fW C v) B) :
    ∃ S', sbase S ((v : Int) + 1) ((v : Int) + 1) = (S', 0) ∧ ∃ B', Lk S' n A2 C0 (fO (v + 1)) (fW C v) B' ∧ B' 16 = 16 := by
  obtain ⟨S', e1, e2⟩ := h.sbase (t := (v : Int) + 1) (p := (v : Int) + 1) (by unfold isT; omega) (by omega) (fun i _ e => by unfold A2 at e; omega)
  exact ⟨S', e1, _, e2, by rw [if_neg (by omega)]; exact hB⟩
theorem free4 (f : Fine S) (h8 : n ≤ 8) (hv : v < n) (hc : C v = true) (h : Lk S n A2 C0 (fO (v + 1)) (fW C v) B) :
    ∃ S', lockL S ((v : Int) + 1) ((v : Int) + 1) = (S', false, 0) ∧ Lk S' n A2 C0 (fO (v + 1)) (fW C (v + 1)) B := by
  have ho : fO (v + 1) v = 16 := by unfold fO; rw [if_pos (by omega)]
  obtain ⟨S', e1, e2⟩ := h.lock_wait f (i := v) (m := (v : Int) + 1) (t := (v : Int) + 1) hv rfl (by unfold isT; omega) (by rw [ho]; omega) (by rw [ho]; omega) (fun e => by have := e.1; unfold A2 at this; omega)
    (fun j _ e => by unfold fW at e; omega) (h.short f.toFine0 (by rw [ho]; omega) (by omega) (fun j _ e => by rw [ho] at e; unfold fW at e; omega))
  refine ⟨S', e1, e2.to (fun _ _ => rfl) (fun j hj s => ?_) (fun _ _ => rfl)⟩
  unfold fW
  constructor
  · rintro (⟨a, b, c⟩ | ⟨a, b⟩)
    · exact ⟨by omega, b, c⟩
    · subst a; exact ⟨by omega, hc, b⟩
  · rintro ⟨a, b, c⟩
    by_cases e : j = v
    · exact .inr ⟨e, by omega⟩
    · exact .inl ⟨by omega, b, c⟩
theorem free5 (f : Fine S) (h8 : n ≤ 8) (hB : B 16 = 16) (h : Lk S n A2 C0 (fO n) (fW C n) B) :
    ∃ S', fre S 16 = (S', gl C n) ∧ (∀ (f' : Fine S'), pri S' 16 = 16) ∧ held S' 16 = [] ∧ ∀ i, i < n → owns S' ((i : Int) + 1) = uu C i := by
  obtain ⟨S', e1, e2⟩ := h.fre f (t := 16) (u := uu C) (by unfold isT; omega) (fun i hi s => by
    unfold fW uu
    constructor
    · rintro ⟨_, b, c⟩; rw [if_pos b]; exact ⟨c, by omega⟩
    · rintro ⟨b, c⟩
      split at c
      · rename_i d; rw [if_pos d] at b; exact ⟨hi, d, b⟩
      · exact absurd rfl c)
  rw [gone_gl n (Nat.le_refl _)] at e1
  have e3 : Lk S' n A2 C0 (uu C) (fun j s => fW C n j s ∧ fO n j ≠ 16) B := e2.to (fun i hi => by rw [if_pos (by unfold fO; rw [if_pos hi])]) (fun _ _ _ => Iff.rfl) (fun _ _ => rfl)
  have ho : ∀ i, i < n → uu C i ≠ 16 := fun i hi => by
    unfold uu
    split <;> omega
  have ht : isT 16 := by unfold isT; omega
  exact ⟨S', e1, fun f' => by rw [pri_is ht, e3.pri_none f'.toFine0 ht ho]; exact hB, e3.held_none ho, fun i hi => e3.ow hi rfl⟩
end
def RF (C : Nat → Bool) (n : Nat) (w : World) (a g : Nat) (q : Nat → Nat) (i c : Value) (wr : World) : Prop :=
  ∃ (v : Nat) (S : St) (B : Int → Int), v ≤ n ∧ i = .int .i64 (v : Int) ∧ c = .int .i64 (cnt C v : Int) ∧ At w a g q S wr ∧ Lk S n A2 C0 (fO v) (fW C v) B ∧ B 16 = 16
def RT (C : Nat → Bool) (n : Nat) (w : World) (i c : Value) (wr : World) : Prop :=
  ∃ v : Nat, v ≤ n ∧ i = .int .i64 (v : Int) ∧ c = .int .i64 (cnt C v : Int) ∧ Below w.heap.size w wr

set_option maxRecDepth 100000 in
set_option maxHeartbeats 6400000 in
theorem walkIn (A : Option Addr) (n cap : Nat) (C : Nat → Bool) (w : World) (hC : Bin w A n C) (h8m : n ≤ 8) :
    Calls Try.prog 8 #[.slice A n cap] w fun e w' => e = .returned (.bool true) ∧ Below w.heap.size w w' := by
  have HC := Lib.hid hC
  have t0 : decide ((8 : Int) < (n : Int)) = false := by simp; omega
  have t1 : ¬ (8 : Int) < (n : Int) := by omega
  have t2 : ¬ 8 < n := by omega
  have HOK := Lib.hid (fun i (hi : i < n) => ok_fifo (a := (kf i).1) (by show (0 : Int) ≤ 2; omega) (by show (2 : Int) ≤ 2; omega))
  clear hC
  go_enter Try.func8, Try.ntmps8
  go_wp2_with fail
  refine (known_ok w).mono ?_
  rintro e w1 ⟨rfl, hb⟩
  have HB0 := Lib.hid hb
  clear hb
  go_wp2
  clear t0 t1 t2
  go_loopw [4, 3] (fun i y wr => ∃ (v : Nat) (vo : Value), v ≤ n ∧ i = .int .i64 (v : Int) ∧ y = vo ∧ wr.ownsRow w.heap.size 55 2 vo v (K.vals K.ck (rowK kf v)) ∧ Below w.heap.size w wr) (fun i _ _ => n - (intOf i).toNat)
  case atStart => exact ⟨0, _, Nat.zero_le _, rfl, rfl, ⟨rfl, .inl ⟨rfl, rfl⟩⟩, HB0.out⟩
  case round =>
    clear HB0
    obtain ⟨v, vo, hv, rfl, rfl, hown, hb⟩ := hrel
    obtain ⟨X1, k1, rfl, _, _⟩ := K.own_form hown
    have HO := Lib.hid hown
    have HB := Lib.hid hb
    clear hown hb
    by_cases hlt : v < n
    · have hlt' : (v : Int) < (n : Int) := by omega
      obtain ⟨wb, hwb⟩ : ∃ wb, wr.alloc (.cells #[.int .i64 2, .int .i64 0] 55) = wb := ⟨_, rfl⟩
      have HPRE := Lib.hid (kind_pre HO.out HB.out hwb)
      have HWB := Lib.hid hwb
      have b2 : v + 1 ≤ 100000 := by omega
      go_wp2_with (first
        | (refine K.wpList_append_row K.kk (by decide) rfl _ _ rfl w.heap.size (.slice X1 v k1) (rowK kf v) [(2, 0)] v (rowK_len _ _) rfl HPRE.out.1 _ 1 1 rfl rfl HPRE.out.2.1 b2 HPRE.out.2.2 (v + 1) rfl ?_
           intro X7 k7 w7 hown7 hgr7
           have HP7 := Lib.hid (kind_post HPRE.out.1 HB.out HWB.out rfl hown7 hgr7)
           clear hown7 hgr7))
      go_roundw
      case rel => exact ⟨v + 1, _, by omega, by go_num, rfl, HP7.out.1, HP7.out.2⟩
      case measure => simp [intOf]; omega
    · have hlt' : decide ((v : Int) < (n : Int)) = false := by simp; omega
      have HOE := Lib.hid (show wr.ownsRow w.heap.size 55 2 (.slice X1 n k1) n (K.vals K.ck (rowK kf n)) by have := HO.out; rw [show v = n by omega] at this; exact this)
      obtain rfl : v = n := by omega
      clear hv
      go_wp2_with fail
      refine (kind_new X1 k1 v _ h8m HOE.out HOK.out HB.out).mono ?_
      rintro e w2 ⟨a, g, q, S, rfl, hat, hlk⟩
      have HAT := Lib.hid hat
      have HLK := Lib.hid (free0 (C := C) hlk)
      clear hat hlk hlt'
      go_wp2
      go_loopw [8, 7] (fun i c wr => RF C v w a g q i c wr) (fun i _ _ => v - (intOf i).toNat)
      case atStart => exact ⟨0, S, _, Nat.zero_le _, rfl, rfl, HAT.out, HLK.out, rfl⟩
      case round =>
        clear HAT HLK hlt
        obtain ⟨u, S, B, hu, rfl, rfl, hat, hlk, hB⟩ := hrel
        have HAT := Lib.hid hat
        have HLK := Lib.hid hlk
        have HBB := Lib.hid hB
        clear hat hlk hB
        by_cases hlt : u < v
        · have hlt' : (u : Int) < (v : Int) := by omega
          obtain ⟨b, o, rfl, hbl, hcl⟩ := HC.out (by omega)
          have hcc := hcl u hlt
          obtain ⟨S1, e1, hlk⟩ := free1 h8m hlt HLK.out
          have HE1 := Lib.hid e1
          have HL1 := Lib.hid hlk
          have HCN := Lib.hid (show cnt C (u + 1) = if C u = true then cnt C u + 1 else cnt C u from rfl)
          have hcu := cnt_le C u
          obtain ⟨c, hcq⟩ : ∃ c, cnt C u = c := ⟨_, rfl⟩
          rw [hcq] at HCN hcu ⊢
          clear hcl e1 hlk hcq
          go_wp2_with fail
          refine (lock_at HAT.out HE1.out).mono ?_
          rintro e w3 ⟨rfl, h3⟩
          have H3 := Lib.hid h3
          have d1 := (h3.b.cell (p := ⟨b, o + u, none⟩) hbl).trans hcc
          clear h3 hcc
          by_cases hC : C u = true
          · rw [if_pos hC] at HCN
            rw [hC] at d1
            obtain ⟨S2, e2, B2, hl2, hB2⟩ := free3 h8m hlt HBB.out HL1.out
            have HE2 := Lib.hid e2
            have HL2 := Lib.hid hl2
            have HB2 := Lib.hid hB2
            have HCT := Lib.hid hC
            clear e2 hl2 hB2 hC
            go_wp2_with fail
            refine (sbase_at H3.out HE2.out).mono ?_
            rintro e w4 ⟨rfl, h4⟩
            have H4 := Lib.hid h4
            obtain ⟨S3, e3, hl3⟩ := free4 h4.f h8m hlt HCT.out HL2.out
            have HE3 := Lib.hid e3
            have HL3 := Lib.hid hl3
            clear h4 e3 hl3 d1
            go_wp2_with fail
            refine (lock_at H4.out HE3.out).mono ?_
            rintro e w5 ⟨rfl, h5⟩
            have H5 := Lib.hid h5
            clear h5
            go_wp2
            go_roundw
            case rel => exact ⟨u + 1, S3, B2, by omega, by go_num, by rw [HCN.out]; go_num, H5.out, HL3.out, HB2.out⟩
            case measure => simp [intOf]; omega
          · rw [if_neg hC] at HCN
            have HL2 := Lib.hid (free2 hC HL1.out)
            rw [show C u = false by simpa using hC] at d1
            clear hC
            go_wp2
            go_roundw
            case rel => exact ⟨u + 1, S1, B, by omega, by go_num, by rw [HCN.out], H3.out, HL2.out, HBB.out⟩
            case measure => simp [intOf]; omega
        · have hlt' : decide ((u : Int) < (v : Int)) = false := by simp; omega
          have HX := Lib.hid (free5 HAT.out.f h8m HBB.out (show Lk S v A2 C0 (fO v) (fW C v) B by have := HLK.out; rw [show u = v by omega] at this; exact this))
          obtain ⟨S2, e1, e2, e3, e4⟩ := HX.out
          have HE1 := Lib.hid e1
          have HE2 := Lib.hid e2
          have HE3 := Lib.hid e3
          have HE4 := Lib.hid e4
          have HCE := Lib.hid (show cnt C u = cnt C v by rw [show u = v by omega])
          have HGL := Lib.hid (gl_len C v)
          have HGA := Lib.hid (fun i (hi : C i = true) (h : i < v) => gl_at hi v h)
          obtain ⟨L, hL⟩ : ∃ L, gl C v = L := ⟨_, rfl⟩
          rw [hL] at HE1 HGL HGA
          obtain ⟨l, hl⟩ : ∃ l, L.length = l := ⟨_, rfl⟩
          have HLL := Lib.hid hl
          have hcv := cnt_le C v
          rw [HCE.out, ← HGL.out, hl]
          rw [← HGL.out, hl] at hcv
          have te : ((l : Int) != (l : Int)) = false := by simp
          clear e1 e2 e3 e4 hL hl
          go_wp2_with fail
          refine (free_at HAT.out HE1.out).mono ?_
          rintro e w6 ⟨XF, kF, rfl, how, h6⟩
          have HOW := Lib.hid (K.own_src rfl how)
          rw [HLL.out]
          have H6 := Lib.hid h6
          clear h6 how
          go_wp2_with fail
          refine (pri_at H6.out (HE2.out H6.out.f)).mono ?_
          rintro e w7 ⟨rfl, hb7⟩
          have HB7 := Lib.hid hb7
          have H7 := Lib.hid (H6.out.below hb7)
          clear hb7
          go_wp2_with fail
          refine (held_at H7.out HE3.out).mono ?_
          rintro e w8 ⟨XH, kH, rfl, _, hb8⟩
          have HB8 := Lib.hid (HB7.out.trans (hb8.mono HB7.out.size))
          clear hb8
          simp only [List.length_nil]
          go_wp2
          clear te hlt hlt' hu
          go_loopw [11, 10] (fun i c wr => RT C v w6 i c wr) (fun i _ _ => v - (intOf i).toNat)
          case atStart => exact ⟨0, Nat.zero_le _, rfl, rfl, HB8.out⟩
          case round =>
            obtain ⟨u, hu, rfl, rfl, hb⟩ := hrel
            have HBW := Lib.hid hb
            have HAW := Lib.hid (H6.out.below hb)
            clear hb
            by_cases hlt : u < v
            · have hlt' : (u : Int) < (v : Int) := by omega
              obtain ⟨b, o, rfl, hbl, hcl⟩ := HC.out (by omega)
              have d1 := (HAW.out.b.cell (p := ⟨b, o + u, none⟩) hbl).trans (hcl u hlt)
              have HCN := Lib.hid (show cnt C (u + 1) = if C u = true then cnt C u + 1 else cnt C u from rfl)
              have HO4 := Lib.hid (HE4.out u hlt)
              by_cases hC : C u = true
              · rw [if_pos hC] at HCN
                rw [hC] at d1
                have hga := HGA.out u hC hlt
                have hgl := (List.getElem?_eq_some_iff.1 hga).1
                rw [HLL.out] at hgl
                have huu : uu C u = (u : Int) + 1 := by unfold uu; rw [if_pos hC]
                rw [huu] at HO4
                have hcu := cnt_le C u
                obtain ⟨c, hcq⟩ : ∃ c, cnt C u = c := ⟨_, rfl⟩
                rw [hcq] at HCN hcu hga hgl ⊢
                have hcell : ∃ b2 o2 : Nat, XF = some ⟨b2, o2, none⟩ ∧ wr.cell? ⟨b2, o2 + c, none⟩ = some (.int .i64 ((u : Int) + 1)) := by
                  rcases HOW.out with ⟨_, e, _⟩ | ⟨b2, o2, e, hb2, hc2⟩
                  · rw [e] at hga; simp at hga
                  · exact ⟨b2, o2, e, (HBW.out.cell (p := ⟨b2, o2 + c, none⟩) hb2).trans (hc2 c _ (by rw [K.vals_ci, List.getElem?_map, hga]; rfl))⟩
                obtain ⟨b2, o2, rfl, d2⟩ := hcell
                have q1 : (c : Int) < (l : Int) := by omega
                have te : (((u : Int) + 1) != ((u : Int) + 1)) = false := by simp
                clear hga hcq huu hC hcl
                go_wp2_with fail
                refine (owner_at HAW.out HO4.out).mono ?_
                rintro e w9 ⟨rfl, rfl⟩
                go_wp2
                go_roundw
                case rel => exact ⟨u + 1, by omega, by go_num, by rw [HCN.out]; go_num, HBW.out⟩
                case measure => simp [intOf]; omega
              · rw [if_neg hC] at HCN
                have huu : uu C u = 0 := by unfold uu; rw [if_neg hC]
                rw [huu] at HO4
                rw [show C u = false by simpa using hC] at d1
                obtain ⟨c, hcq⟩ : ∃ c, cnt C u = c := ⟨_, rfl⟩
                rw [hcq] at HCN ⊢
                clear hcq huu hC hcl
                go_wp2_with fail
                refine (owner_at HAW.out HO4.out).mono ?_
                rintro e w9 ⟨rfl, rfl⟩
                go_wp2
                go_roundw
                case rel => exact ⟨u + 1, by omega, by go_num, by rw [HCN.out], HBW.out⟩
                case measure => simp [intOf]; omega
            · have hlt' : decide ((u : Int) < (v : Int)) = false := by simp; omega
              go_wp2
              go_ret
              exact ⟨rfl, HAW.out.b⟩

theorem walkOut (A : Option Addr) (n cap : Nat) (w : World) (h : 8 < n) :
    Calls Try.prog 8 #[.slice A n cap] w fun e w' => e = .returned (.bool true) ∧ Below w.heap.size w w' := by
  have t1 : (8 : Int) < (n : Int) := by omega
  have t2 := decide_eq_true t1
  go_enter Try.func8, Try.ntmps8
  go_wp2_with fail
  refine (known_ok w).mono ?_
  rintro e w0 ⟨rfl, hb0⟩
  go_wp2
  go_ret
  exact ⟨rfl, hb0⟩

/-! ### the row's step -/
set_option maxRecDepth 100000 in
theorem lifted (os : Os) (started : os.Started) (H : Type) (enc : TypeId × Value → H) :
    ReturnsInHanded {} Try.checked os 8 .any (Rows.mutexFreesSpec.pre6 enc Try.prog Try.f8 Rows.mutexFreesRow.domain false) (Rows.mutexFreesSpec.post enc Try.prog Try.f8 false true false false) := by
  refine returnsInHanded_of_change (C := Try.checked) own started (by kernel_rfl) Try.func8
    (ChangeSpec.witness6 (enc := enc) (C := Try.checked) false ⟨#[], #[.slice none 0 0], []⟩ 8 (by kernel_rfl) (by kernel_rfl) (by kernel_rfl) (by kernel_rfl)) ?_
  intro W base args ds gs before hval0 hW hcnd _
  have hval : ∀ (j : Nat) t v, Try.f8.params[j]? = some t → args[j]? = some v → Value.okWide Try.prog W .any base t v := hval0
  have hW' := hW
  obtain ⟨p, q, hA0, hV, rfl, hfz, hnd⟩ := hW
  have hA : DataW.TrodAll enc Try.prog W 0 (fun _ => true) true Try.f8.params.toList args.toList ds p := hA0
  rw [Try.params8] at hA hval
  obtain ⟨v0, vs0, d0, ds0, p0, q0, hargs, rfl, rfl, h0, r0⟩ := trodAll_cons hA
  obtain ⟨rfl, rfl, rfl⟩ := trodAll_nil r0
  obtain rfl : args = #[v0] := by cases args; simp_all
  obtain ⟨rfl, rfl⟩ := trodVars_none hV
  obtain ⟨a0, len0, cap0, rfl⟩ := okWide_slice Try.underlying60 (hval 0 60 v0 rfl rfl)
  have k0 := h0
  have lt0 : ∀ x ∈ p0, x.block < W.heap.size := by obtain ⟨m, hm⟩ := k0; exact DataW.trod_lt m _ _ _ hm
  obtain ⟨hl1, C, hC⟩ : len0 ≤ 9223372036854775807 ∧ ∃ C, Bin W a0 len0 C := by
    obtain ⟨fuel, hf⟩ := h0
    rcases Go.Deep.open_bools Try.underlying60 Try.underlying4 (by kernel_rfl) hf with ⟨hcs, _⟩ | ⟨x, l, c, B, hcs, _, hl, hm, _, hcell⟩
    · simp [Value.cells] at hcs
      obtain ⟨rfl, rfl, rfl⟩ := hcs
      exact ⟨by omega, fun _ => false, fun h => absurd h (by omega)⟩
    · simp [Value.cells] at hcs
      obtain ⟨rfl, rfl, rfl⟩ := hcs
      refine ⟨by unfold maxLen at hm; omega, B, fun h0 => ?_⟩
      obtain ⟨b, o, s⟩ := x
      have hc0 := hcell 0 (by omega)
      have hs : s = none := by
        cases s with
        | none => rfl
        | some q => simp [Addr.add, World.cell?] at hc0; split at hc0 <;> simp at hc0
      subst hs
      have hb : b < W.heap.size := by have := block_lt_of_cell hc0; simpa [Addr.add] using this
      exact ⟨b, o, rfl, hb, fun j hj => by have := hcell j (by omega); rw [addr_add] at this; exact this⟩
  clear hA0 hval0
  have hcall : Calls Try.prog 8 #[.slice a0 len0 cap0] W fun e w' => e = .returned (.bool true) ∧ Below W.heap.size W w' := by
    by_cases h : len0 ≤ 8
    · exact walkIn a0 len0 cap0 C W hC h
    · exact walkOut a0 len0 cap0 W (by omega)
  refine hcall.mono fun e W' ⟨he, bel⟩ => ?_
  subst he
  exact ⟨_, rfl, _, _, _, [], _, [], hW', trodAll_mk1 (shut_bool Try.underlying4 _), (trodAll_cons_mk (Below.trod laidOut (by kernel_rfl) (of_decide_eq_true (by kernel_rfl)) k0 bel lt0) trodAll_mk0), rfl, bel.frame _, fun h => by cases h⟩

theorem over : Rows.mutexFreesRow.holds Try.pinned (OpenSpec.ofChange Rows.mutexFreesSpec) :=
  OpenClaim.holds_of_wide 8 Try.f8 rfl rfl rfl rfl rfl rfl rfl ⟨rfl, rfl, rfl, rfl, rfl⟩ rfl rfl rfl rfl rfl (by kernel_rfl) Try.func8 (by kernel_rfl)
    (of_decide_eq_true (by kernel_rfl)) (by unfold Func.isWrapper; first | (rw [if_pos (by decide +kernel)]; kernel_rfl) | (rw [if_neg (by decide +kernel)]; exact ⟨rfl, rfl⟩))
    (fun os started H enc _ => lifted os started H enc)

theorem proved : Rows.MutexFreesSaid := over
#print axioms proved
end Go.Proofs.Ytmicinenggkmlaa.mutexFrees
namespace Go.Proofs.Ytmicinenggkmlaa
theorem mutexFrees_holds : Rows.MutexFreesSaid := mutexFrees.proved
end Go.Proofs.Ytmicinenggkmlaa
