/-
  PROVED: the Go function detentlaw15.MutexChain returns true for every input, and each argument reads behind the call as it read before (Rows.MutexChainSaid). No condition.
-/
import Derived.Test.YtmicinenggkmlaaRows
import Derived.Test.YtmicinenggkmlaaMtP
import Derived.Deep.RegionHeld3
import Derived.WalkKit
import Derived.ProofKit
import Derived.OpenShut
import Derived.ShutString
import Derived.ChangeOld
import Derived.Below
namespace Go.Proofs.Ytmicinenggkmlaa.mutexChain
open Go.ChangeShapes Go.WideShapes Go.ChangeAt Go.RowKit
open Go.ChangeMaps (open_string shut_string)
set_option linter.unusedVariables false

theorem own : ownKnob Try.prog.godebug = none := by kernel_rfl
theorem laidOut : laidOutB Try.prog = true := by kernel_rfl

/-- WHAT THE WALK IS TOLD OF A SLICE OF INTEGERS THAT CAME IN: it is nil; or it leads to a row of 'cap' cells, the numbers 'zs' (the first 'len' are its elements, the rest its spare room), each fitting its kind. -/
def IsRow (k : IntKind) (w : World) (a : Option Addr) (len cap : Nat) (zs : List Int) : Prop :=
  (a = none ∧ len = 0 ∧ cap = 0 ∧ zs = []) ∨
  ∃ x, a = some x ∧ len ≤ cap ∧ cap ≤ maxLen ∧ zs.length = cap ∧ (∀ i, i < zs.length → w.cell? (x.add i) = some (.int k (zs.getD i 0))) ∧ ∀ n ∈ zs, (Lit.int k n).wf = true

def bb (p : Nat → Nat) (k : Nat) : Int := 1 + (p k : Int) % 16
theorem bb_in (p : Nat → Nat) (k : Nat) : 1 ≤ bb p k ∧ bb p k ≤ 16 := by unfold bb; omega
def A2 (_ : Nat) : Int := 2
def C0 (_ : Nat) : Int := 0
def fB (p : Nat → Nat) (v : Nat) (s : Int) : Int := if 1 ≤ s ∧ s ≤ (v : Int) then bb p (s - 1).toNat else 16
def fL (v : Nat) (j : Nat) : Int := if j < v then (j : Int) + 2 else 0
def fW (v : Nat) (j : Nat) (s : Int) : Prop := j < v ∧ s = (j : Int) + 1
def none_ (_ : Nat) (_ : Int) : Prop := False
theorem chain0 {S : St} {m v : Nat} {p : Nat → Nat} {x : Int} (hv : v ≤ m) (h8 : m ≤ 8) (hx : x = 1 + (p v : Int) % 16) (h : Lk S m A2 C0 (fL 0) none_ (fB p v)) :
    ∃ S', sbase S ((v : Int) + 1) x = (S', 0) ∧ Lk S' m A2 C0 (fL 0) none_ (fB p (v + 1)) := by
  obtain ⟨S', h1, h2⟩ := h.sbase (t := (v : Int) + 1) (p := x) (by unfold isT; omega) (by omega) (fun i _ e => by unfold A2 at e; omega)
  refine ⟨S', h1, h2.to (fun _ _ => rfl) (fun _ _ _ => Iff.rfl) (fun s hs => ?_)⟩
  unfold fB
  by_cases c : s = (v : Int) + 1
  · rw [if_pos c, if_pos ⟨by omega, by omega⟩, hx, show (s - 1).toNat = v by omega]; rfl
  · rw [if_neg c]
    by_cases c2 : 1 ≤ s ∧ s ≤ (v : Int)
    · rw [if_pos c2, if_pos ⟨by omega, by omega⟩]
    · rw [if_neg c2, if_neg (fun e => c2 ⟨e.1, by omega⟩)]
theorem chain1 {S : St} {m v : Nat} {B : Int → Int} (hv : v < m) (h8 : m ≤ 8) (h : Lk S m A2 C0 (fL v) none_ B) :
    ∃ S', lockL S ((v : Int) + 1) ((v : Int) + 1 + 1) = (S', true, 0) ∧ Lk S' m A2 C0 (fL (v + 1)) none_ B := by
  obtain ⟨S', h1, h2⟩ := h.lock_free (i := v) (m := (v : Int) + 1) (t := (v : Int) + 1 + 1) hv rfl (by unfold isT; omega) (by unfold fL; rw [if_neg (by omega)]) (fun e => by have := e.1; unfold A2 at this; omega) (fun _ _ e => e)
  refine ⟨S', h1, h2.to (fun i hi => ?_) (fun _ _ _ => Iff.rfl) (fun _ _ => rfl)⟩
  unfold upd fL
  by_cases c : i = v
  · rw [if_pos c, if_pos (by omega)]; omega
  · rw [if_neg c]
    by_cases c2 : i < v
    · rw [if_pos c2, if_pos (by omega)]
    · rw [if_neg c2, if_neg (by omega)]
theorem chain2 {S : St} {m v : Nat} {B : Int → Int} (f : Fine S) (hv : v < m) (h8 : m ≤ 8) (h : Lk S m A2 C0 (fL m) (fW v) B) :
    ∃ S', lockL S ((v : Int) + 1) ((v : Int) + 1) = (S', false, 0) ∧ Lk S' m A2 C0 (fL m) (fW (v + 1)) B := by
  have ho : fL m v = (v : Int) + 2 := by unfold fL; rw [if_pos hv]
  obtain ⟨S', h1, h2⟩ := h.lock_wait f (i := v) (m := (v : Int) + 1) (t := (v : Int) + 1) hv rfl (by unfold isT; omega) (by rw [ho]; omega) (by rw [ho]; omega) (fun e => by have := e.1; unfold A2 at this; omega)
    (fun j _ e => by unfold fW at e; omega) (h.short f.toFine0 (by rw [ho]; omega) (by omega) (fun j _ e => by rw [ho] at e; unfold fW at e; omega))
  refine ⟨S', h1, h2.to (fun _ _ => rfl) (fun j hj s => ?_) (fun _ _ => rfl)⟩
  unfold fW
  omega
/-- the least so far -/
def lst (p : Nat → Nat) : Nat → Int
  | 0 => 17
  | v + 1 => if bb p v < lst p v then bb p v else lst p v
theorem lst_in (p : Nat → Nat) : ∀ v, 1 ≤ lst p (v + 1) ∧ lst p (v + 1) ≤ 16
  | 0 => by
    have h := bb_in p 0
    have e : lst p 1 = if bb p 0 < 17 then bb p 0 else 17 := rfl
    rw [e, if_pos (by omega)]; exact h
  | v + 1 => by
    have h1 := lst_in p v
    have h2 := bb_in p (v + 1)
    show 1 ≤ (if bb p (v + 1) < lst p (v + 1) then bb p (v + 1) else lst p (v + 1)) ∧ (if bb p (v + 1) < lst p (v + 1) then bb p (v + 1) else lst p (v + 1)) ≤ 16
    split
    · exact h2
    · exact h1
theorem fB_at {p : Nat → Nat} {m v : Nat} (hv : v ≤ m) : fB p (m + 1) ((v : Int) + 1) = bb p v := by
  unfold fB
  rw [if_pos ⟨by omega, by omega⟩, show ((v : Int) + 1 - 1).toNat = v by omega]
theorem chain3 {S : St} {m : Nat} {p : Nat → Nat} (f : Fine S) (h8 : m ≤ 8) (h : Lk S m A2 C0 (fL m) (fW m) (fB p (m + 1))) : ∀ v, v ≤ m → P S ((v : Int) + 1) = lst p (v + 1)
  | 0, _ => by
    have e := h.pri_none f.toFine0 (t := ((0 : Nat) : Int) + 1) (by unfold isT; omega) (fun i hi e => by unfold fL at e; rw [if_pos hi] at e; omega)
    rw [e, fB_at (Nat.zero_le _)]
    have := bb_in p 0
    show bb p 0 = if bb p 0 < 17 then bb p 0 else 17
    rw [if_pos (by omega)]
  | v + 1, hv => by
    have ih := chain3 f h8 h v (by omega)
    have hl := lst_in p (v + 1)
    refine h.pri_eq f.toFine0 (by unfold isT; omega) hl.2 fun x hx => ?_
    rw [fB_at hv]
    show _ ↔ (if bb p (v + 1) < lst p (v + 1) then bb p (v + 1) else lst p (v + 1)) ≤ x
    constructor
    · rintro (e | ⟨i, hi, ho, ⟨e, _⟩ | ⟨_, s, hs, e⟩⟩)
      · split <;> omega
      · unfold A2 at e; omega
      · unfold fL at ho; rw [if_pos hi] at ho
        have : s = (v : Int) + 1 := by unfold fW at hs; omega
        rw [this, ih] at e
        split <;> omega
    · intro e
      by_cases c : bb p (v + 1) ≤ x
      · exact .inl c
      · refine .inr ⟨v, by omega, by unfold fL; rw [if_pos (by omega)]; omega, .inr ⟨rfl, (v : Int) + 1, ⟨by omega, rfl⟩, ?_⟩⟩
        rw [ih]
        split at e <;> omega
/-- freed from the last on -/
def uO (i : Nat) (j : Nat) : Int := if j < i then (j : Int) + 2 else (j : Int) + 1
theorem chain4 {S : St} {m v : Nat} {p : Nat → Nat} (f : Fine S) (h8 : m ≤ 8) (h1 : 1 ≤ v) (hv : v ≤ m) (h : Lk S m A2 C0 (uO v) (fW v) (fB p (m + 1))) :
    ∃ S', unlk S (v : Int) ((v : Int) + 1) = (S', (v : Int), 0) ∧ Lk S' m A2 C0 (uO (v - 1)) (fW (v - 1)) (fB p (m + 1)) ∧ owns S' (v : Int) = (v : Int) ∧ ∀ (f' : Fine S'), pri S' ((v : Int) + 1) = 1 + (p v : Int) % 16 := by
  obtain ⟨S', e1, e2⟩ := h.unlk f (i := v - 1) (m := (v : Int)) (t := (v : Int) + 1) (u := (v : Int)) (by omega) (by omega) (by unfold isT; omega) (by unfold uO; rw [if_pos (by omega)]; omega)
    (fun s => by unfold fW; omega)
  have h3 : Lk S' m A2 C0 (uO (v - 1)) (fW (v - 1)) (fB p (m + 1)) := e2.to (fun j hj => by
    unfold upd uO
    by_cases c : j = v - 1
    · rw [if_pos c, if_neg (by omega)]; omega
    · rw [if_neg c]
      by_cases c2 : j < v
      · rw [if_pos c2, if_pos (by omega)]
      · rw [if_neg c2, if_neg (by omega)]) (fun j hj s => by unfold fW; omega) (fun _ _ => rfl)
  refine ⟨S', e1, h3, ?_, fun f' => ?_⟩
  · rw [h3.ow (i := v - 1) (by omega) (by omega)]; unfold uO; rw [if_neg (by omega)]; omega
  · have ht : isT ((v : Int) + 1) := by unfold isT; omega
    have hb := bb_in p v
    rw [pri_is ht]
    refine h3.pri_eq f'.toFine0 ht (c := bb p v) hb.2 fun x hx => ?_
    rw [fB_at hv]
    constructor
    · rintro (e | ⟨i, hi, ho, ⟨e, _⟩ | ⟨_, s, hs, e⟩⟩)
      · exact e
      · unfold A2 at e; omega
      · unfold fW at hs
        unfold uO at ho
        rw [if_pos hs.1] at ho; omega
    · exact .inl
def kf (_ : Nat) : Int × Int := (2, 0)
theorem ch_new {S : St} {m : Nat} {p : Nat → Nat} (h : Lk S m (fun i => (kf i).1) (fun i => (kf i).2) (fun _ => 0) (fun _ _ => False) (fun _ => 16)) : Lk S m A2 C0 (fL 0) none_ (fB p 0) := by
  refine Lk.to (O := fun _ => 0) (W := fun _ _ => False) (B := fun _ => 16) h (fun i _ => ?_) (fun _ _ _ => Iff.rfl) (fun s hs => ?_)
  · unfold fL; rw [if_neg (by omega)]
  · unfold fB; rw [if_neg (by unfold isT at hs; omega)]
theorem ch_low {S : St} {m : Nat} {B : Int → Int} (h : Lk S m A2 C0 (fL m) (fW m) B) : Lk S m A2 C0 (uO m) (fW m) B :=
  h.to (fun j hj => by unfold fL uO; rw [if_pos hj, if_pos hj]) (fun _ _ _ => Iff.rfl) (fun _ _ => rfl)
theorem ch_none {S : St} {m : Nat} {O B} (h : Lk S m A2 C0 O none_ B) : Lk S m A2 C0 O (fW 0) B := h.to (fun _ _ => rfl) (fun j _ s => ⟨fun e => e.elim, fun e => by unfold fW at e; omega⟩) (fun _ _ => rfl)

def RB (p : Nat → Nat) (m : Nat) (w : World) (a g : Nat) (q : Nat → Nat) (i : Value) (wr : World) : Prop :=
  ∃ (v : Nat) (S : St), v ≤ m + 1 ∧ i = .int .i64 ((v : Int) + 1) ∧ At w a g q S wr ∧ Lk S m A2 C0 (fL 0) none_ (fB p v)
def RL (p : Nat → Nat) (m : Nat) (w : World) (a g : Nat) (q : Nat → Nat) (i : Value) (wr : World) : Prop :=
  ∃ (v : Nat) (S : St), v ≤ m ∧ i = .int .i64 ((v : Int) + 1) ∧ At w a g q S wr ∧ Lk S m A2 C0 (fL v) none_ (fB p (m + 1))
def RW (p : Nat → Nat) (m : Nat) (w : World) (a g : Nat) (q : Nat → Nat) (i : Value) (wr : World) : Prop :=
  ∃ (v : Nat) (S : St), v ≤ m ∧ i = .int .i64 ((v : Int) + 1) ∧ At w a g q S wr ∧ Lk S m A2 C0 (fL m) (fW v) (fB p (m + 1))
def RP (p : Nat → Nat) (m : Nat) (w : World) (a g : Nat) (q : Nat → Nat) (S : St) (i l : Value) (wr : World) : Prop :=
  ∃ v : Nat, v ≤ m + 1 ∧ i = .int .i64 ((v : Int) + 1) ∧ l = .int .i64 (lst p v) ∧ At w a g q S wr
def RU (p : Nat → Nat) (m : Nat) (w : World) (a g : Nat) (q : Nat → Nat) (i : Value) (wr : World) : Prop :=
  ∃ (u k : Nat) (S : St), u = k + 1 ∧ k ≤ m ∧ i = .int .i64 (u : Int) ∧ At w a g q S wr ∧ Lk S m A2 C0 (uO k) (fW k) (fB p (m + 1))

/-! ### the walk -/
set_option maxRecDepth 100000 in
set_option maxHeartbeats 4000000 in
theorem walk (a0 : Option Addr) (len0 cap0 : Nat) (z0 : List Int) (w : World) (w0 : IsRow .u8 w a0 len0 cap0 z0) :
    Calls Try.prog 4 #[.slice a0 len0 cap0] w fun e w' => e = .returned (.bool true) ∧ Below w.heap.size w w' := by
  obtain ⟨hn63, p, hs⟩ := src_of w0
  clear w0
  by_cases c0 : len0 < 2
  · have ci0 : (len0 : Int) < 2 := by omega
    have t0 := decide_eq_true ci0
    go_enter Try.func4, Try.ntmps4
    go_wp2_with fail
    refine (known_ok w).mono ?_
    rintro e w1 ⟨rfl, hb⟩
    go_wp2
    go_ret
    exact ⟨rfl, hb⟩
  have ci0 : ¬ (len0 : Int) < 2 := by omega
  have t0 := decide_eq_false ci0
  by_cases c1 : 9 < len0
  · have ci1 : (9 : Int) < (len0 : Int) := by omega
    have t1 := decide_eq_true ci1
    go_enter Try.func4, Try.ntmps4
    go_wp2_with fail
    refine (known_ok w).mono ?_
    rintro e w1 ⟨rfl, hb⟩
    go_wp2
    go_ret
    exact ⟨rfl, hb⟩
  have ci1 : ¬ (9 : Int) < (len0 : Int) := by omega
  have t1 := decide_eq_false ci1
  obtain ⟨n, hn⟩ : ∃ n, len0 = n := ⟨_, rfl⟩
  obtain ⟨m, hm⟩ : ∃ m, n = m + 1 := ⟨n - 1, by omega⟩
  rw [hn] at hs c0 c1 ci0 ci1 t0 t1 hn63 ⊢
  have h1m : 1 ≤ m := by omega
  have h8m : m ≤ 8 := by omega
  obtain ⟨b, o, rfl, hbl, hcl⟩ := hs (by omega)
  have HC := Lib.hid hcl
  have HM := Lib.hid hm
  have HOK := Lib.hid (fun i (hi : i < m) => ok_fifo (a := (kf i).1) (by show (0 : Int) ≤ 2; omega) (by show (2 : Int) ≤ 2; omega))
  clear hs hcl hn hm
  go_enter Try.func4, Try.ntmps4
  go_wp2_with fail
  refine (known_ok w).mono ?_
  rintro e w1 ⟨rfl, hb⟩
  have HB0 := Lib.hid hb
  clear hb
  go_wp2
  clear t0 t1 c0 c1 ci0 ci1
  go_loopw [5, 4] (fun i y wr => ∃ (v : Nat) (vo : Value), v ≤ m ∧ i = .int .i64 ((v : Int) + 1) ∧ y = vo ∧ wr.ownsRow w.heap.size 55 2 vo v (K.vals K.ck (rowK kf v)) ∧ Below w.heap.size w wr) (fun i _ _ => m + 1 - (intOf i).toNat)
  case atStart => exact ⟨0, _, Nat.zero_le _, rfl, rfl, ⟨rfl, .inl ⟨rfl, rfl⟩⟩, HB0.out⟩
  case round =>
    clear HB0
    obtain ⟨v, vo, hv, rfl, rfl, hown, hb⟩ := hrel
    obtain ⟨X1, k1, rfl, _, _⟩ := K.own_form hown
    have HO := Lib.hid hown
    have HB := Lib.hid hb
    clear hown hb
    by_cases hlt : v < m
    · have hm := HM.out
      have hlt' : (v : Int) + 1 < (n : Int) := by omega
      have hlt2 : v + 1 < n := by omega
      clear hm
      obtain ⟨wb, hwb⟩ : ∃ wb, wr.alloc (.cells #[.int .i64 2, .int .i64 0] 55) = wb := ⟨_, rfl⟩
      have HPRE := Lib.hid (kind_pre HO.out HB.out hwb)
      have HWB := Lib.hid hwb
      have b2 : v + 1 ≤ 100000 := by omega
      go_wp2_with (first
        | (refine K.wpList_append_row K.kk (by decide) rfl _ _ rfl w.heap.size (.slice X1 v k1) (rowK kf v) [(2, 0)] v (rowK_len _ _) rfl HPRE.out.1 _ 1 1 rfl rfl HPRE.out.2.1 b2 HPRE.out.2.2 (v + 1) rfl ?_
           intro X7 k7 w7 hown7 hgr7
           have HP7 := Lib.hid (kind_post HPRE.out.1 HB.out HWB.out rfl hown7 hgr7)
           clear hown7 hgr7))
      go_roundw
      case rel => exact ⟨v + 1, _, by omega, by go_num, rfl, HP7.out.1, HP7.out.2⟩
      case measure => simp [intOf]; omega
    · have HOE := Lib.hid (show wr.ownsRow w.heap.size 55 2 (.slice X1 m k1) m (K.vals K.ck (rowK kf m)) by have := HO.out; rw [show v = m by omega] at this; exact this)
      obtain rfl : v = m := by omega
      have hm := HM.out
      have hlt' : decide ((v : Int) + 1 < (n : Int)) = false := by simp; omega
      have hlt2 : ¬ v + 1 < n := by omega
      clear hv hm
      go_wp2_with fail
      refine (kind_new X1 k1 v _ h8m HOE.out HOK.out HB.out).mono ?_
      rintro e w2 ⟨a, g, q, S, rfl, hat, hlk⟩
      have HAT := Lib.hid hat
      have HLK := Lib.hid (ch_new (p := p) hlk)
      clear hat hlk hlt hlt' hlt2
      go_wp2
      go_loopw [8] (fun i wr => RB p v w a g q i wr) (fun i _ => v + 2 - (intOf i).toNat)
      case atStart => exact ⟨0, S, by omega, rfl, HAT.out, HLK.out⟩
      case round =>
        clear HAT HLK
        obtain ⟨u, S, hu, rfl, hat, hlk⟩ := hrel
        have HAT := Lib.hid hat
        have HLK := Lib.hid hlk
        clear hat hlk
        have hm := HM.out
        by_cases hle : u < n
        · have hle' : (u : Int) + 1 ≤ (n : Int) := by omega
          have hle2 : u + 1 ≤ n := by omega
          have q1 : (u : Int) < (n : Int) := by omega
          have hq := (HC.out u hle).2
          have d1 := (HAT.out.b.cell (p := ⟨b, o + u, none⟩) hbl).trans (HC.out u hle).1
          have HL := Lib.hid (fun x hx => chain0 (S := S) (x := x) (show u ≤ v by omega) h8m hx HLK.out)
          clear hm
          go_wp2_with fail
          obtain ⟨S', e1, hlk⟩ := HL.out _ rfl
          have HLK := Lib.hid hlk
          refine (sbase_at HAT.out e1).mono ?_
          rintro e w3 ⟨rfl, h3⟩
          have H3 := Lib.hid h3
          clear h3 e1 hlk d1 HL
          go_wp2
          go_roundw
          case rel => exact ⟨u + 1, S', by have := HM.out; omega, by go_num, H3.out, HLK.out⟩
          case measure => have := HM.out; simp [intOf]; omega
        · have hle' : decide ((u : Int) + 1 ≤ (n : Int)) = false := by simp; omega
          have hle2 : ¬ u + 1 ≤ n := by omega
          have HLK := Lib.hid (show Lk S v A2 C0 (fL 0) none_ (fB p (v + 1)) by have := HLK.out; rw [show u = v + 1 by omega] at this; exact this)
          clear hm
          go_wp2
          clear hle hle' hle2 hu
          go_loopw [9] (fun i wr => RL p v w a g q i wr) (fun i _ => v + 1 - (intOf i).toNat)
          case atStart => exact ⟨0, S, by omega, rfl, HAT.out, HLK.out⟩
          case round =>
            clear HAT HLK
            obtain ⟨u, S, hu, rfl, hat, hlk⟩ := hrel
            have HAT := Lib.hid hat
            have HLK := Lib.hid hlk
            clear hat hlk
            have hm := HM.out
            by_cases hle : u < v
            · have hle' : (u : Int) + 1 < (n : Int) := by omega
              have hle2 : u + 1 < n := by omega
              obtain ⟨S', e1, hlk⟩ := chain1 hle h8m HLK.out
              have HLK := Lib.hid hlk
              have HE1 := Lib.hid e1
              clear hm e1 hlk
              go_wp2_with fail
              refine (lock_at HAT.out HE1.out).mono ?_
              rintro e w3 ⟨rfl, h3⟩
              have H3 := Lib.hid h3
              clear h3
              go_wp2
              go_roundw
              case rel => exact ⟨u + 1, S', by omega, by go_num, H3.out, HLK.out⟩
              case measure => simp [intOf]; omega
            · have hle' : decide ((u : Int) + 1 < (n : Int)) = false := by simp; omega
              have hle2 : ¬ u + 1 < n := by omega
              have HLK := Lib.hid (ch_none (show Lk S v A2 C0 (fL v) none_ (fB p (v + 1)) by have := HLK.out; rw [show u = v by omega] at this; exact this))
              clear hm
              go_wp2
              clear hle hle' hle2 hu
              go_loopw [12] (fun i wr => RW p v w a g q i wr) (fun i _ => v + 1 - (intOf i).toNat)
              case atStart => exact ⟨0, S, by omega, rfl, HAT.out, HLK.out⟩
              case round =>
                clear HAT HLK
                obtain ⟨u, S, hu, rfl, hat, hlk⟩ := hrel
                have HAT := Lib.hid hat
                have HLK := Lib.hid hlk
                clear hat hlk
                have hm := HM.out
                by_cases hle : u < v
                · have hle' : (u : Int) + 1 < (n : Int) := by omega
                  have hle2 : u + 1 < n := by omega
                  obtain ⟨S', e1, hlk⟩ := chain2 HAT.out.f hle h8m HLK.out
                  have HLK := Lib.hid hlk
                  have HE1 := Lib.hid e1
                  clear hm e1 hlk
                  go_wp2_with fail
                  refine (lock_at HAT.out HE1.out).mono ?_
                  rintro e w3 ⟨rfl, h3⟩
                  have H3 := Lib.hid h3
                  clear h3
                  go_wp2
                  go_roundw
                  case rel => exact ⟨u + 1, S', by omega, by go_num, H3.out, HLK.out⟩
                  case measure => simp [intOf]; omega
                · have hle' : decide ((u : Int) + 1 < (n : Int)) = false := by simp; omega
                  have hle2 : ¬ u + 1 < n := by omega
                  have HLK := Lib.hid (show Lk S v A2 C0 (fL v) (fW v) (fB p (v + 1)) by have := HLK.out; rw [show u = v by omega] at this; exact this)
                  clear hm
                  go_wp2
                  clear hle hle' hle2 hu
                  go_loopw [16, 15] (fun i l wr => RP p v w a g q S i l wr) (fun i _ _ => v + 2 - (intOf i).toNat)
                  case atStart => exact ⟨0, by omega, rfl, rfl, HAT.out⟩
                  case round =>
                    clear HAT
                    obtain ⟨u, hu, rfl, rfl, hat⟩ := hrel
                    have HAT := Lib.hid hat
                    clear hat
                    have hm := HM.out
                    by_cases hle : u < n
                    · have hle' : (u : Int) + 1 ≤ (n : Int) := by omega
                      have hle2 : u + 1 ≤ n := by omega
                      have q1 : (u : Int) < (n : Int) := by omega
                      have hq := (HC.out u hle).2
                      have d1 := (HAT.out.b.cell (p := ⟨b, o + u, none⟩) hbl).trans (HC.out u hle).1
                      have HPR := Lib.hid (show pri S ((u : Int) + 1) = lst p (u + 1) by rw [pri_is (by unfold isT; omega)]; exact chain3 HAT.out.f h8m HLK.out u (by omega))
                      have HNX := Lib.hid (show lst p (u + 1) = if 1 + (p u : Int) % 16 < lst p u then 1 + (p u : Int) % 16 else lst p u from rfl)
                      obtain ⟨l, hl⟩ : ∃ l, lst p u = l := ⟨_, rfl⟩
                      rw [hl] at HNX ⊢
                      clear hm hl
                      by_cases cl : 1 + (p u : Int) % 16 < l
                      · rw [if_pos cl] at HNX
                        rw [HNX.out] at HPR
                        have tl := decide_eq_true cl
                        have te : ((1 + (p u : Int) % 16) != (1 + (p u : Int) % 16)) = false := by simp
                        go_wp2_with fail
                        refine (pri_at HAT.out HPR.out).mono ?_
                        rintro e w3 ⟨rfl, hb3⟩
                        have H3 := Lib.hid (HAT.out.below hb3)
                        clear hb3 d1
                        go_wp2
                        go_roundw
                        case rel => exact ⟨u + 1, by have := HM.out; omega, by go_num, by rw [HNX.out], H3.out⟩
                        case measure => have := HM.out; simp [intOf]; omega
                      · rw [if_neg cl] at HNX
                        rw [HNX.out] at HPR
                        have tl := decide_eq_false cl
                        have te : (l != l) = false := by simp
                        go_wp2_with fail
                        refine (pri_at HAT.out HPR.out).mono ?_
                        rintro e w3 ⟨rfl, hb3⟩
                        have H3 := Lib.hid (HAT.out.below hb3)
                        clear hb3 d1
                        go_wp2
                        go_roundw
                        case rel => exact ⟨u + 1, by have := HM.out; omega, by go_num, by rw [HNX.out], H3.out⟩
                        case measure => have := HM.out; simp [intOf]; omega
                    · have hle' : decide ((u : Int) + 1 ≤ (n : Int)) = false := by simp; omega
                      have hle2 : ¬ u + 1 ≤ n := by omega
                      have HLK := Lib.hid (ch_low HLK.out)
                      have HNV := Lib.hid (show (n : Int) = (v : Int) + 1 by omega)
                      clear hm
                      go_wp2
                      clear hle hle' hle2 hu
                      go_loopw [18] (fun i wr => RU p v w a g q i wr) (fun i _ => (intOf i).toNat)
                      case atStart => exact ⟨n, v, S, HM.out, Nat.le_refl _, rfl, HAT.out, HLK.out⟩
                      case round =>
                        clear HAT HLK
                        obtain ⟨u, k, S, huk, hk, rfl, hat, hlk⟩ := hrel
                        have HAT := Lib.hid hat
                        have HLK := Lib.hid hlk
                        have HU := Lib.hid huk
                        clear hat hlk
                        by_cases hle : 1 ≤ k
                        · have hle' : (1 : Int) < (u : Int) := by omega
                          have hle2 : 1 < u := by omega
                          have hkn : k < n := by have := HM.out; omega
                          have q1 : (k : Int) < (n : Int) := by omega
                          have q2 : (0 : Int) ≤ (k : Int) := by omega
                          have q3 : IntKind.i64.wrap ((u : Int) - 1) = (k : Int) := by rw [IntWalk.i64_in _ (by omega)]; omega
                          have hq := (HC.out k hkn).2
                          have HX := Lib.hid (chain4 HAT.out.f h8m hle hk HLK.out)
                          rw [show ((k : Int) + 1) = (u : Int) by omega] at HX
                          obtain ⟨S', e1, hlk, e2, e3⟩ := HX.out
                          have HLK := Lib.hid hlk
                          have HE1 := Lib.hid e1
                          have HE2 := Lib.hid e2
                          have HE3 := Lib.hid e3
                          have tu : ((k : Int) != (k : Int)) = false := by simp
                          have te : ((1 + (p k : Int) % 16) != (1 + (p k : Int) % 16)) = false := by simp
                          have t00 : ((0 : Int) != 0) = false := by decide
                          have e6 : IntKind.i64.wrap (1 + IntKind.i64.wrap (((p k : Nat) : Int).tmod 16)) = 1 + (p k : Int) % 16 := by rw [Int.tmod_eq_emod_of_nonneg (by omega), IntWalk.i64_in ((p k : Int) % 16) (by omega), IntWalk.i64_in _ (by omega)]
                          have HCU := Lib.hid (fun W (hW : At w a g q S' W) => (hW.b.cell (p := ⟨b, o + k, none⟩) hbl).trans (HC.out k hkn).1)
                          clear e1 hlk e2 e3 hkn huk
                          go_wp2_with fail
                          refine (unlock_at HAT.out HE1.out).mono ?_
                          rintro e w3 ⟨rfl, h3⟩
                          have H3 := Lib.hid h3
                          have h3d : At w a g q S' w3.drew := h3.below (below_drewN w3 1)
                          have H3D := Lib.hid h3d
                          have hcd := HCU.out _ h3d
                          clear h3 h3d
                          go_wp2
                          go_region_held3 (fun W => W.cell? ⟨b, o + k, none⟩ = some (.int .u8 (p k : Int)))
                            (first | exact hcd | exact hc6 | assumption)
                            (first
                              | (go_at_call 29; refine (pri_at H3D.out (HE3.out H3D.out.f)).mono ?_; rintro en w6 ⟨rfl, hb6⟩; have hc6 := HCU.out _ (H3D.out.below hb6))
                              | (go_at_call 30; refine (owner_at H3D.out HE2.out).mono ?_; rintro en w5 ⟨rfl, rfl⟩))
                          have H6 := Lib.hid (H3D.out.below hb6)
                          clear hb6 hc6 hcd
                          go_wp2
                          go_roundw
                          case rel => exact ⟨k, k - 1, S', by omega, by omega, by first | rfl | go_num, H6.out, HLK.out⟩
                          case measure => have := HU.out; simp [intOf]; omega
                        · have hle' : decide ((1 : Int) < (u : Int)) = false := by simp; omega
                          have hle2 : ¬ 1 < u := by omega
                          go_wp2
                          go_ret
                          exact ⟨rfl, HAT.out.b⟩

/-! ### THE ROW's STEP: WRITTEN OUT: LEAVE IT -/
set_option maxRecDepth 100000 in
theorem lifted (os : Os) (started : os.Started) (H : Type) (enc : TypeId × Value → H) :
    ReturnsInHanded {} Try.checked os 4 .any (Rows.mutexChainSpec.pre6 enc Try.prog Try.f4 Rows.mutexChainRow.domain false) (Rows.mutexChainSpec.post enc Try.prog Try.f4 false true false false) := by
  refine returnsInHanded_of_change (C := Try.checked) own started (by kernel_rfl) Try.func4
    (ChangeSpec.witness6 (enc := enc) (C := Try.checked) false ⟨#[], #[.slice none 0 0], []⟩ 8 (by kernel_rfl) (by kernel_rfl) (by kernel_rfl) (by kernel_rfl)) ?_
  intro W base args ds gs before hval0 hW hcnd _
  have hval : ∀ (j : Nat) t v, Try.f4.params[j]? = some t → args[j]? = some v → Value.okWide Try.prog W .any base t v := hval0
  have hW' := hW
  obtain ⟨p, q, hA0, hV, rfl, hfz, hnd⟩ := hW
  have hA : DataW.TrodAll enc Try.prog W 0 (fun _ => true) true Try.f4.params.toList args.toList ds p := hA0
  rw [Try.params4] at hA hval
  obtain ⟨v0, vs0, d0, ds0, p0, q0, hargs, rfl, rfl, h0, r0⟩ := trodAll_cons hA
  obtain ⟨rfl, rfl, rfl⟩ := trodAll_nil r0
  obtain rfl : args = #[v0] := by cases args; simp_all
  obtain ⟨rfl, rfl⟩ := trodVars_none hV
  obtain ⟨a0, len0, cap0, rfl⟩ := okWide_slice Try.underlying53 (hval 0 53 v0 rfl rfl)
  have k0 := h0
  have lt0 : ∀ x ∈ p0, x.block < W.heap.size := by obtain ⟨m, hm⟩ := k0; exact DataW.trod_lt m _ _ _ hm
  obtain ⟨z0, w0⟩ : ∃ zs, IsRow .u8 W a0 len0 cap0 zs := by
    obtain ⟨fuel, hf⟩ := h0
    rcases open_ints Try.underlying53 Try.underlying5 (by kernel_rfl) hf with ⟨hcs, _⟩ | ⟨x, l, c, zs, hcs, _, hl, hm, hz, _, hcell, hwz⟩
    · simp [Value.cells] at hcs
      obtain ⟨rfl, rfl, rfl⟩ := hcs
      exact ⟨[], .inl ⟨rfl, rfl, rfl, rfl⟩⟩
    · simp [Value.cells] at hcs
      obtain ⟨rfl, rfl, rfl⟩ := hcs
      exact ⟨zs, .inr ⟨_, rfl, hl, hm, by simpa using hz, hcell, hwz⟩⟩
  clear hA0 hval0
  refine (walk a0 len0 cap0 z0 W w0).mono fun e W' ⟨he, bel⟩ => ?_
  subst he
  exact ⟨_, rfl, _, _, _, [], _, [], hW', trodAll_mk1 (shut_bool Try.underlying4 _), (trodAll_cons_mk (Below.trod laidOut (by kernel_rfl) (of_decide_eq_true (by kernel_rfl)) k0 bel lt0) trodAll_mk0), rfl, bel.frame _, fun h => by cases h⟩

theorem over : Rows.mutexChainRow.holds Try.pinned (OpenSpec.ofChange Rows.mutexChainSpec) :=
  OpenClaim.holds_of_wide 4 Try.f4 rfl rfl rfl rfl rfl rfl rfl ⟨rfl, rfl, rfl, rfl, rfl⟩ rfl rfl rfl rfl rfl (by kernel_rfl) Try.func4 (by kernel_rfl)
    (of_decide_eq_true (by kernel_rfl)) (by unfold Func.isWrapper; first | (rw [if_pos (by decide +kernel)]; kernel_rfl) | (rw [if_neg (by decide +kernel)]; exact ⟨rfl, rfl⟩))
    (fun os started H enc _ => lifted os started H enc)

/-- ████ THE STATEMENT ████ -/
theorem proved : Rows.MutexChainSaid := over
#print axioms proved
end Go.Proofs.Ytmicinenggkmlaa.mutexChain
namespace Go.Proofs.Ytmicinenggkmlaa
theorem mutexChain_holds : Rows.MutexChainSaid := mutexChain.proved
end Go.Proofs.Ytmicinenggkmlaa
