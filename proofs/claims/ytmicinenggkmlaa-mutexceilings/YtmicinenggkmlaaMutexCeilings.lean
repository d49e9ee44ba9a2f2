/-
  PROVED: the Go function detentlaw15.MutexCeilings returns true for every input, and each argument reads behind the call as it read before (Rows.MutexCeilingsSaid). No condition.
-/
import Derived.Test.YtmicinenggkmlaaRows
import Derived.Test.YtmicinenggkmlaaMtQ
import Derived.WalkKit
import Derived.ProofKit
import Derived.OpenShut
import Derived.ShutString
import Derived.ChangeOld
import Derived.Below
namespace Go.Proofs.Ytmicinenggkmlaa.mutexCeilings
open Go.ChangeShapes Go.WideShapes Go.ChangeAt Go.RowKit
open Go.ChangeMaps (open_string shut_string)
set_option linter.unusedVariables false

theorem own : ownKnob Try.prog.godebug = none := by kernel_rfl
theorem laidOut : laidOutB Try.prog = true := by kernel_rfl

/-- WHAT THE WALK IS TOLD OF A SLICE OF INTEGERS THAT CAME IN: it is nil; or it leads to a row of 'cap' cells, the numbers 'zs' (the first 'len' are its elements, the rest its spare room), each fitting its kind. -/
def IsRow (k : IntKind) (w : World) (a : Option Addr) (len cap : Nat) (zs : List Int) : Prop :=
  (a = none ∧ len = 0 ∧ cap = 0 ∧ zs = []) ∨
  ∃ x, a = some x ∧ len ≤ cap ∧ cap ≤ maxLen ∧ zs.length = cap ∧ (∀ i, i < zs.length → w.cell? (x.add i) = some (.int k (zs.getD i 0))) ∧ ∀ n ∈ zs, (Lit.int k n).wf = true

def bb (p : Nat → Nat) (k : Nat) : Int := 1 + (p k : Int) % 16
theorem bb_in (p : Nat → Nat) (k : Nat) : 1 ≤ bb p k ∧ bb p k ≤ 16 := by unfold bb; omega
def kf (p : Nat → Nat) (i : Nat) : Int × Int := (3, 1 + (p i : Int) % 16)
def A3 (_ : Nat) : Int := 3
def oC (b : Int) (p : Nat → Nat) (v : Nat) (j : Nat) : Int := if j < v ∧ bb p j ≤ b then 1 else 0
def none_ (_ : Nat) (_ : Int) : Prop := False
def fB (b : Int) (s : Int) : Int := if s = 1 then b else 16
/-- the least so far -/
def lc (b : Int) (p : Nat → Nat) : Nat → Int
  | 0 => b
  | v + 1 => if bb p v ≤ b ∧ bb p v < lc b p v then bb p v else lc b p v
theorem lc_le {b : Int} {p : Nat → Nat} {x : Int} : ∀ v, lc b p v ≤ x ↔ b ≤ x ∨ ∃ i, i < v ∧ bb p i ≤ b ∧ bb p i ≤ x
  | 0 => ⟨.inl, fun e => e.elim id fun ⟨i, h, _⟩ => absurd h (by omega)⟩
  | v + 1 => by
    have ih := lc_le (b := b) (p := p) (x := x) v
    have e : lc b p (v + 1) = if bb p v ≤ b ∧ bb p v < lc b p v then bb p v else lc b p v := rfl
    constructor
    · intro h
      by_cases c : bb p v ≤ b ∧ bb p v < lc b p v
      · rw [e, if_pos c] at h
        exact .inr ⟨v, by omega, c.1, h⟩
      · rw [e, if_neg c] at h
        exact (ih.1 h).imp id fun ⟨i, h1, h2⟩ => ⟨i, by omega, h2⟩
    · intro h
      have key : lc b p v ≤ x ∨ (bb p v ≤ b ∧ bb p v ≤ x) := by
        rcases h with h | ⟨i, h1, h2, h3⟩
        · exact .inl (ih.2 (.inl h))
        · by_cases c : i = v
          · subst c; exact .inr ⟨h2, h3⟩
          · exact .inl (ih.2 (.inr ⟨i, by omega, h2, h3⟩))
      rw [e]
      split <;> omega
theorem lc_in {b : Int} {p : Nat → Nat} (v : Nat) : lc b p v ≤ b := (lc_le v).2 (.inl (Int.le_refl _))
section
variable {S : St} {n v : Nat} {b : Int} {p : Nat → Nat}
theorem ceil0 (h1 : 1 ≤ b) (h2 : b ≤ 16) (h : Lk S n (fun i => (kf p i).1) (fun i => (kf p i).2) (fun _ => 0) (fun _ _ => False) (fun _ => 16)) :
    ∃ S', sbase S 1 b = (S', 0) ∧ Lk S' n A3 (bb p) (oC b p 0) none_ (fB b) := by
  obtain ⟨S', e1, e2⟩ := h.sbase (t := 1) (p := b) (by unfold isT; omega) ⟨h1, h2⟩ (fun i _ _ => .inr ⟨by omega, fun e => e⟩)
  refine ⟨S', e1, e2.to (fun i _ => ?_) (fun _ _ _ => Iff.rfl) (fun _ _ => rfl)⟩
  unfold oC; rw [if_neg (by omega)]
theorem ceil1 (h8 : n ≤ 8) (hv : v < n) (hc : bb p v ≤ b) (h : Lk S n A3 (bb p) (oC b p v) none_ (fB b)) :
    ∃ S', lockL S ((v : Int) + 1) 1 = (S', true, 0) ∧ Lk S' n A3 (bb p) (oC b p (v + 1)) none_ (fB b) := by
  obtain ⟨S', e1, e2⟩ := h.lock_free (i := v) (m := (v : Int) + 1) (t := 1) hv rfl (by unfold isT; omega) (by unfold oC; rw [if_neg (by omega)]) (fun e => by have := e.2; unfold fB at this; rw [if_pos rfl] at this; omega) (fun _ _ e => e)
  refine ⟨S', e1, e2.to (fun i hi => ?_) (fun _ _ _ => Iff.rfl) (fun _ _ => rfl)⟩
  unfold upd oC
  by_cases c : i = v
  · subst c; rw [if_pos rfl, if_pos ⟨by omega, hc⟩]
  · rw [if_neg c]
    by_cases c2 : i < v ∧ bb p i ≤ b
    · rw [if_pos c2, if_pos ⟨by omega, c2.2⟩]
    · rw [if_neg c2, if_neg (fun e => c2 ⟨by omega, e.2⟩)]
theorem ceil2 (h8 : n ≤ 8) (hv : v < n) (hc : ¬ bb p v ≤ b) (h : Lk S n A3 (bb p) (oC b p v) none_ (fB b)) :
    ∃ S', lockL S ((v : Int) + 1) 1 = (S', false, -28) ∧ Lk S' n A3 (bb p) (oC b p (v + 1)) none_ (fB b) := by
  refine ⟨S, h.lock_over hv rfl (by unfold isT; omega) ⟨rfl, by unfold fB; rw [if_pos rfl]; omega⟩, h.to (fun i hi => ?_) (fun _ _ _ => Iff.rfl) (fun _ _ => rfl)⟩
  unfold oC
  by_cases c2 : i < v ∧ bb p i ≤ b
  · rw [if_pos c2, if_pos ⟨by omega, c2.2⟩]
  · rw [if_neg c2, if_neg (fun e => c2 ⟨by
      have := e.1
      by_cases e4 : i = v
      · subst e4; exact absurd e.2 hc
      · omega, e.2⟩)]
theorem ceil3 (f : Fine S) (h2 : b ≤ 16) (hv : v ≤ n) (h : Lk S n A3 (bb p) (oC b p v) none_ (fB b)) : pri S 1 = lc b p v := by
  have ht : isT 1 := by unfold isT; omega
  rw [pri_is ht]
  refine h.pri_eq f.toFine0 ht (by have := lc_in (b := b) (p := p) v; omega) fun x hx => ?_
  rw [lc_le]
  have e0 : fB b 1 = b := by unfold fB; rw [if_pos rfl]
  rw [e0]
  refine or_congr Iff.rfl ⟨?_, ?_⟩
  · rintro ⟨i, hi, ho, ⟨_, e⟩ | ⟨e, _⟩⟩
    · unfold oC at ho
      split at ho
      · rename_i c; exact ⟨i, c.1, c.2, e⟩
      · omega
    · unfold A3 at e; omega
  · rintro ⟨i, hi, e1, e2⟩
    exact ⟨i, by omega, by unfold oC; rw [if_pos ⟨hi, e1⟩], .inl ⟨rfl, e2⟩⟩
theorem ceil4 (f : Fine S) (h : Lk S n A3 (bb p) (oC b p n) none_ (fB b)) :
    ∃ S', fre S 1 = (S', []) ∧ (∀ (f' : Fine S'), pri S' 1 = b) ∧ held S' 1 = [] := by
  obtain ⟨S', e1, e2⟩ := h.fre f (t := 1) (u := fun _ => 0) (by unfold isT; omega) (fun i _ s => ⟨fun e => e.elim, fun e => absurd rfl e.2⟩)
  rw [gone_nil] at e1
  have ho : ∀ i, i < n → (fun j => if oC b p n j = 1 then (fun _ => (0 : Int)) j else oC b p n j) i ≠ 1 := fun i _ => by
    simp only
    split
    · omega
    · assumption
  refine ⟨S', e1, fun f' => ?_, e2.held_none ho⟩
  have ht : isT 1 := by unfold isT; omega
  rw [pri_is ht, e2.pri_none f'.toFine0 ht ho]
  unfold fB; rw [if_pos rfl]
end
def RC (b : Int) (p : Nat → Nat) (n : Nat) (w : World) (a g : Nat) (q : Nat → Nat) (i l : Value) (wr : World) : Prop :=
  ∃ (v : Nat) (S : St), v ≤ n ∧ i = .int .i64 (v : Int) ∧ l = .int .i64 (lc b p v) ∧ At w a g q S wr ∧ Lk S n A3 (bb p) (oC b p v) none_ (fB b)

/-! ### the walk -/
set_option maxRecDepth 100000 in
set_option maxHeartbeats 4000000 in
theorem walk (a0 : Int) (a1 : Option Addr) (len1 cap1 : Nat) (z1 : List Int) (w : World) (w0 : (Lit.int .i64 a0).wf = true) (w1 : IsRow .u8 w a1 len1 cap1 z1) :
    Calls Try.prog 6 #[.int .i64 a0, .slice a1 len1 cap1] w fun e w' => e = .returned (.bool true) ∧ Below w.heap.size w w' := by
  obtain ⟨hn63, p, hs⟩ := src_of w1
  clear w1 w0
  by_cases c0 : a0 < 1
  · have ci0 : a0 < 1 := by omega
    have t0 := decide_eq_true ci0
    go_enter Try.func6, Try.ntmps6
    go_wp2_with fail
    refine (known_ok w).mono ?_
    rintro e w1 ⟨rfl, hb⟩
    go_wp2
    go_ret
    exact ⟨rfl, hb⟩
  have ci0 : ¬ a0 < 1 := by omega
  have t0 := decide_eq_false ci0
  by_cases c1 : 16 < a0
  · have ci1 : 16 < a0 := by omega
    have t1 := decide_eq_true ci1
    go_enter Try.func6, Try.ntmps6
    go_wp2_with fail
    refine (known_ok w).mono ?_
    rintro e w1 ⟨rfl, hb⟩
    go_wp2
    go_ret
    exact ⟨rfl, hb⟩
  have ci1 : ¬ 16 < a0 := by omega
  have t1 := decide_eq_false ci1
  by_cases c2 : 8 < len1
  · have ci2 : (8 : Int) < (len1 : Int) := by omega
    have t2 := decide_eq_true ci2
    go_enter Try.func6, Try.ntmps6
    go_wp2_with fail
    refine (known_ok w).mono ?_
    rintro e w1 ⟨rfl, hb⟩
    go_wp2
    go_ret
    exact ⟨rfl, hb⟩
  have ci2 : ¬ (8 : Int) < (len1 : Int) := by omega
  have t2 := decide_eq_false ci2
  obtain ⟨n, hn⟩ : ∃ n, len1 = n := ⟨_, rfl⟩
  rw [hn] at hs c2 ci2 t2 hn63 ⊢
  have h8m : n ≤ 8 := by omega
  have HS := Lib.hid hs
  have HOK := Lib.hid (fun i (hi : i < n) => show okK (kf p i).1 (kf p i).2 by
    have h := bb_in p i
    unfold okK
    rw [if_pos (show (kf p i).1 = 3 from rfl)]
    exact h)
  clear hs hn
  go_enter Try.func6, Try.ntmps6
  go_wp2_with fail
  refine (known_ok w).mono ?_
  rintro e w1 ⟨rfl, hb⟩
  have HB0 := Lib.hid hb
  clear hb
  go_wp2
  clear t0 t1 t2 c0 c1 c2 ci2
  go_loopw [6, 5] (fun i y wr => ∃ (v : Nat) (vo : Value), v ≤ n ∧ i = .int .i64 (v : Int) ∧ y = vo ∧ wr.ownsRow w.heap.size 55 2 vo v (K.vals K.ck (rowK (kf p) v)) ∧ Below w.heap.size w wr) (fun i _ _ => n - (intOf i).toNat)
  case atStart => exact ⟨0, _, Nat.zero_le _, rfl, rfl, ⟨rfl, .inl ⟨rfl, rfl⟩⟩, HB0.out⟩
  case round =>
    clear HB0
    obtain ⟨v, vo, hv, rfl, rfl, hown, hb⟩ := hrel
    obtain ⟨X1, k1, rfl, _, _⟩ := K.own_form hown
    have HO := Lib.hid hown
    have HB := Lib.hid hb
    clear hown hb
    by_cases hlt : v < n
    · have hlt' : (v : Int) < (n : Int) := by omega
      obtain ⟨b, o, rfl, hbl, hcl⟩ := HS.out (by omega)
      have hq := (hcl v hlt).2
      have d1 := (HB.out.cell (p := ⟨b, o + v, none⟩) hbl).trans (hcl v hlt).1
      obtain ⟨wb, hwb⟩ : ∃ wb, wr.alloc (.cells #[.int .i64 3, .int .i64 (1 + (p v : Int) % 16)] 55) = wb := ⟨_, rfl⟩
      have HPRE := Lib.hid (kind_pre HO.out HB.out hwb)
      have HWB := Lib.hid hwb
      have b2 : v + 1 ≤ 100000 := by omega
      clear hcl
      go_wp2_with (first
        | (refine K.wpList_append_row K.kk (by decide) rfl _ _ rfl w.heap.size (.slice X1 v k1) (rowK (kf p) v) [(3, 1 + (p v : Int) % 16)] v (rowK_len _ _) rfl HPRE.out.1 _ 1 1 rfl rfl HPRE.out.2.1 b2 HPRE.out.2.2 (v + 1) rfl ?_
           intro X7 k7 w7 hown7 hgr7
           have HP7 := Lib.hid (kind_post HPRE.out.1 HB.out HWB.out rfl hown7 hgr7)
           clear hown7 hgr7))
      go_roundw
      case rel => exact ⟨v + 1, _, by omega, by go_num, rfl, HP7.out.1, HP7.out.2⟩
      case measure => simp [intOf]; omega
    · have hlt' : decide ((v : Int) < (n : Int)) = false := by simp; omega
      have HSR := Lib.hid (show K.Sr K.ck wr X1 k1 (rowK (kf p) n) by have := K.own_src (rowK_len _ _) HO.out; rw [show v = n by omega] at this; exact this)
      obtain rfl : v = n := by omega
      clear hv
      go_wp2_with fail
      refine (kind_new2 X1 k1 v _ h8m HSR.out HOK.out).mono ?_
      rintro e w2 ⟨a, g, q, S, rfl, hat, hlk⟩
      have HAT := Lib.hid hat
      obtain ⟨S', e1, hlk⟩ := ceil0 (by omega) (by omega) hlk
      have HE1 := Lib.hid e1
      have HLK := Lib.hid hlk
      clear hat hlk hlt' e1
      go_wp2_with fail
      refine (sbase_at HAT.out HE1.out).mono ?_
      rintro e w3 ⟨rfl, h3⟩
      have HAT := Lib.hid h3
      clear h3
      go_wp2
      have HKC := Lib.hid (show 0 < v → ∃ b2 o2 : Nat, X1 = some ⟨b2, o2, none⟩ ∧ ∀ u, u < v → ∀ (T : St) (W : World), At wr a g q T W → W.cell? ⟨b2, o2 + u * 2 + 1, none⟩ = some (.int .i64 (bb p u)) from fun h0 => by
        obtain ⟨b2, o2, e, hb2, hc2⟩ := kind_cell HSR.out h0
        exact ⟨b2, o2, e, fun u hu T W hW => (hW.b.cell (p := ⟨b2, o2 + u * 2 + 1, none⟩) hb2).trans (hc2 u hu).2⟩)
      have HBW := Lib.hid (fun (T : St) (W : World) (hW : At wr a g q T W) => HB.out.trans (hW.b.mono HB.out.size))
      go_loopw [10, 9] (fun i l w5 => RC a0 p v wr a g q i l w5) (fun i _ _ => v - (intOf i).toNat)
      case atStart => exact ⟨0, S', Nat.zero_le _, rfl, rfl, HAT.out, HLK.out⟩
      case round =>
        clear HAT HLK hlt
        obtain ⟨u, S, hu, rfl, rfl, hat, hlk⟩ := hrel
        have HAT := Lib.hid hat
        have HLK := Lib.hid hlk
        clear hat hlk
        by_cases hlt : u < v
        · have hlt' : (u : Int) < (v : Int) := by omega
          obtain ⟨b2, o2, rfl, hc2⟩ := HKC.out (by omega)
          have HCV := Lib.hid (hc2 u hlt)
          clear hc2
          by_cases hc : bb p u ≤ a0
          · by_cases hl2 : bb p u < lc a0 p u
            · have HX := Lib.hid (ceil1 h8m hlt hc HLK.out)
              obtain ⟨S', e1, hlk⟩ := HX.out
              have HLK2 := Lib.hid hlk
              have HE1 := Lib.hid e1
              have HNX := Lib.hid (show lc a0 p (u + 1) = if bb p u ≤ a0 ∧ bb p u < lc a0 p u then bb p u else lc a0 p u from rfl)
              rw [if_pos ⟨hc, hl2⟩] at HNX
              have hb1 := bb_in p u
              have HCV := Lib.hid (fun W hW => show W.cell? ⟨b2, o2 + u * 2 + 1, none⟩ = some (.int .i64 (bb p u)) from HCV.out S' W hW)
              obtain ⟨c, hcc⟩ : ∃ c, bb p u = c := ⟨_, rfl⟩
              obtain ⟨l, hl⟩ : ∃ l, lc a0 p u = l := ⟨_, rfl⟩
              rw [hcc] at hc hb1 HCV
              rw [hl]
              try rw [hcc] at HNX
              try rw [hl] at HNX
              rw [hcc, hl] at hl2
              have t1 := decide_eq_true hc
              have t2 := decide_eq_true hl2
              have te : (c != c) = false := by simp
              clear hcc hl
              clear e1 hlk
              go_wp2_with fail
              refine (lock_at HAT.out HE1.out).mono ?_
              rintro e w3 ⟨rfl, h3⟩
              have H3 := Lib.hid h3
              have d3 := HCV.out _ h3
              have HPR := Lib.hid (ceil3 (v := u + 1) h3.f (by omega) (by omega) HLK2.out)
              rw [HNX.out] at HPR
              clear h3
              go_wp2_with fail
              refine (pri_at H3.out HPR.out).mono ?_
              rintro e w4 ⟨rfl, hb4⟩
              have H4 := Lib.hid (H3.out.below hb4)
              clear hb4 d3
              go_wp2
              go_roundw
              case rel => exact ⟨u + 1, S', by omega, by go_num, by rw [HNX.out], H4.out, HLK2.out⟩
              case measure => simp [intOf]; omega
            · have HX := Lib.hid (ceil1 h8m hlt hc HLK.out)
              obtain ⟨S', e1, hlk⟩ := HX.out
              have HLK2 := Lib.hid hlk
              have HE1 := Lib.hid e1
              have HNX := Lib.hid (show lc a0 p (u + 1) = if bb p u ≤ a0 ∧ bb p u < lc a0 p u then bb p u else lc a0 p u from rfl)
              rw [if_neg (fun e => hl2 e.2)] at HNX
              have hb1 := bb_in p u
              have HCV := Lib.hid (fun W hW => show W.cell? ⟨b2, o2 + u * 2 + 1, none⟩ = some (.int .i64 (bb p u)) from HCV.out S' W hW)
              obtain ⟨c, hcc⟩ : ∃ c, bb p u = c := ⟨_, rfl⟩
              obtain ⟨l, hl⟩ : ∃ l, lc a0 p u = l := ⟨_, rfl⟩
              rw [hcc] at hc hb1 HCV
              rw [hl]
              try rw [hcc] at HNX
              try rw [hl] at HNX
              rw [hcc, hl] at hl2
              have t1 := decide_eq_true hc
              have t2 := decide_eq_false hl2
              have te : (l != l) = false := by simp
              clear hcc hl
              clear e1 hlk
              go_wp2_with fail
              refine (lock_at HAT.out HE1.out).mono ?_
              rintro e w3 ⟨rfl, h3⟩
              have H3 := Lib.hid h3
              have d3 := HCV.out _ h3
              have HPR := Lib.hid (ceil3 (v := u + 1) h3.f (by omega) (by omega) HLK2.out)
              rw [HNX.out] at HPR
              clear h3
              go_wp2_with fail
              refine (pri_at H3.out HPR.out).mono ?_
              rintro e w4 ⟨rfl, hb4⟩
              have H4 := Lib.hid (H3.out.below hb4)
              clear hb4 d3
              go_wp2
              go_roundw
              case rel => exact ⟨u + 1, S', by omega, by go_num, by rw [HNX.out], H4.out, HLK2.out⟩
              case measure => simp [intOf]; omega
          · have HX := Lib.hid (ceil2 h8m hlt hc HLK.out)
            obtain ⟨S', e1, hlk⟩ := HX.out
            have HLK2 := Lib.hid hlk
            have HE1 := Lib.hid e1
            have HNX := Lib.hid (show lc a0 p (u + 1) = if bb p u ≤ a0 ∧ bb p u < lc a0 p u then bb p u else lc a0 p u from rfl)
            rw [if_neg (fun e => hc e.1)] at HNX
            have hb1 := bb_in p u
            have HCV := Lib.hid (fun W hW => show W.cell? ⟨b2, o2 + u * 2 + 1, none⟩ = some (.int .i64 (bb p u)) from HCV.out S' W hW)
            obtain ⟨c, hcc⟩ : ∃ c, bb p u = c := ⟨_, rfl⟩
            obtain ⟨l, hl⟩ : ∃ l, lc a0 p u = l := ⟨_, rfl⟩
            rw [hcc] at hc hb1 HCV
            rw [hl]
            try rw [hcc] at HNX
            try rw [hl] at HNX
            have t1 := decide_eq_false hc
            have te : (l != l) = false := by simp
            clear hcc hl
            clear e1 hlk
            go_wp2_with fail
            refine (lock_at HAT.out HE1.out).mono ?_
            rintro e w3 ⟨rfl, h3⟩
            have H3 := Lib.hid h3
            have d3 := HCV.out _ h3
            have HPR := Lib.hid (ceil3 (v := u + 1) h3.f (by omega) (by omega) HLK2.out)
            rw [HNX.out] at HPR
            clear h3
            go_wp2_with fail
            refine (pri_at H3.out HPR.out).mono ?_
            rintro e w4 ⟨rfl, hb4⟩
            have H4 := Lib.hid (H3.out.below hb4)
            clear hb4 d3
            go_wp2
            go_roundw
            case rel => exact ⟨u + 1, S', by omega, by go_num, by rw [HNX.out], H4.out, HLK2.out⟩
            case measure => simp [intOf]; omega
        · have hlt' : decide ((u : Int) < (v : Int)) = false := by simp; omega
          have HX := Lib.hid (ceil4 HAT.out.f (show Lk S v A3 (bb p) (oC a0 p v) none_ (fB a0) by have := HLK.out; rw [show u = v by omega] at this; exact this))
          obtain ⟨S2, e1, e2, e3⟩ := HX.out
          have HE1 := Lib.hid e1
          have HE2 := Lib.hid e2
          have HE3 := Lib.hid e3
          have te : (a0 == a0) = true := by simp
          clear e1 e2 e3
          go_wp2_with fail
          refine (free_at HAT.out HE1.out).mono ?_
          rintro e w6 ⟨XF, kF, rfl, _, h6⟩
          have H6 := Lib.hid h6
          clear h6
          go_wp2_with fail
          refine (pri_at H6.out (HE2.out H6.out.f)).mono ?_
          rintro e w7 ⟨rfl, hb7⟩
          have H7 := Lib.hid (H6.out.below hb7)
          clear hb7
          go_wp2_with fail
          refine (held_at H7.out HE3.out).mono ?_
          rintro e w8 ⟨XH, kH, rfl, _, hb8⟩
          have H8 := Lib.hid (H7.out.below hb8)
          clear hb8
          simp only [List.length_nil]
          go_wp2
          go_ret
          exact ⟨rfl, HBW.out _ _ H8.out⟩

/-! ### THE ROW's STEP: WRITTEN OUT: LEAVE IT -/
set_option maxRecDepth 100000 in
theorem lifted (os : Os) (started : os.Started) (H : Type) (enc : TypeId × Value → H) :
    ReturnsInHanded {} Try.checked os 6 .any (Rows.mutexCeilingsSpec.pre6 enc Try.prog Try.f6 Rows.mutexCeilingsRow.domain false) (Rows.mutexCeilingsSpec.post enc Try.prog Try.f6 false true false false) := by
  refine returnsInHanded_of_change (C := Try.checked) own started (by kernel_rfl) Try.func6
    (ChangeSpec.witness6 (enc := enc) (C := Try.checked) false ⟨#[], #[.int .i64 0, .slice none 0 0], []⟩ 8 (by kernel_rfl) (by kernel_rfl) (by kernel_rfl) (by kernel_rfl)) ?_
  intro W base args ds gs before hval0 hW hcnd _
  have hval : ∀ (j : Nat) t v, Try.f6.params[j]? = some t → args[j]? = some v → Value.okWide Try.prog W .any base t v := hval0
  have hW' := hW
  obtain ⟨p, q, hA0, hV, rfl, hfz, hnd⟩ := hW
  have hA : DataW.TrodAll enc Try.prog W 0 (fun _ => true) true Try.f6.params.toList args.toList ds p := hA0
  rw [Try.params6] at hA hval
  obtain ⟨v0, vs0, d0, ds0, p0, q0, hargs, rfl, rfl, h0, r0⟩ := trodAll_cons hA
  obtain ⟨v1, vs1, d1, ds1, p1, q1, rfl, rfl, rfl, h1, r1⟩ := trodAll_cons r0
  obtain ⟨rfl, rfl, rfl⟩ := trodAll_nil r1
  obtain rfl : args = #[v0, v1] := by cases args; simp_all
  obtain ⟨rfl, rfl⟩ := trodVars_none hV
  obtain ⟨a0, rfl, rfl, rfl, w0⟩ := open_int Try.underlying3 (hval 0 3 v0 rfl rfl) h0
  obtain ⟨a1, len1, cap1, rfl⟩ := okWide_slice Try.underlying53 (hval 1 53 v1 rfl rfl)
  have k1 := h1
  have lt1 : ∀ x ∈ p1, x.block < W.heap.size := by obtain ⟨m, hm⟩ := k1; exact DataW.trod_lt m _ _ _ hm
  obtain ⟨z1, w1⟩ : ∃ zs, IsRow .u8 W a1 len1 cap1 zs := by
    obtain ⟨fuel, hf⟩ := h1
    rcases open_ints Try.underlying53 Try.underlying5 (by kernel_rfl) hf with ⟨hcs, _⟩ | ⟨x, l, c, zs, hcs, _, hl, hm, hz, _, hcell, hwz⟩
    · simp [Value.cells] at hcs
      obtain ⟨rfl, rfl, rfl⟩ := hcs
      exact ⟨[], .inl ⟨rfl, rfl, rfl, rfl⟩⟩
    · simp [Value.cells] at hcs
      obtain ⟨rfl, rfl, rfl⟩ := hcs
      exact ⟨zs, .inr ⟨_, rfl, hl, hm, by simpa using hz, hcell, hwz⟩⟩
  clear hA0 hval0
  refine (walk a0 a1 len1 cap1 z1 W w0 w1).mono fun e W' ⟨he, bel⟩ => ?_
  subst he
  exact ⟨_, rfl, _, _, _, [], _, [], hW', trodAll_mk1 (shut_bool Try.underlying4 _), (trodAll_cons_mk (shut_int Try.underlying3 w0) (trodAll_cons_mk (Below.trod laidOut (by kernel_rfl) (of_decide_eq_true (by kernel_rfl)) k1 bel lt1) trodAll_mk0)), rfl, bel.frame _, fun h => by cases h⟩

theorem over : Rows.mutexCeilingsRow.holds Try.pinned (OpenSpec.ofChange Rows.mutexCeilingsSpec) :=
  OpenClaim.holds_of_wide 6 Try.f6 rfl rfl rfl rfl rfl rfl rfl ⟨rfl, rfl, rfl, rfl, rfl⟩ rfl rfl rfl rfl rfl (by kernel_rfl) Try.func6 (by kernel_rfl)
    (of_decide_eq_true (by kernel_rfl)) (by unfold Func.isWrapper; first | (rw [if_pos (by decide +kernel)]; kernel_rfl) | (rw [if_neg (by decide +kernel)]; exact ⟨rfl, rfl⟩))
    (fun os started H enc _ => lifted os started H enc)

/-- ████ THE STATEMENT ████ -/
theorem proved : Rows.MutexCeilingsSaid := over
#print axioms proved
end Go.Proofs.Ytmicinenggkmlaa.mutexCeilings
namespace Go.Proofs.Ytmicinenggkmlaa
theorem mutexCeilings_holds : Rows.MutexCeilingsSaid := mutexCeilings.proved
end Go.Proofs.Ytmicinenggkmlaa
