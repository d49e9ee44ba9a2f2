/- Contracts of package list: First, Next, Of, Len, Row. -/
import Derived.Test.YtmfjhckacmdijaaConE
namespace Go.Proofs.Ytmfjhckacmdijaa
open Go.RowKit

/-- what First, Next, after tell: the first of what is behind -/
def hdv (l : List Nat) : Value := .int .i64 ((l.headD 0 : Nat) : Int)
def nev (l : List Nat) : Value := .bool (!l.isEmpty)
theorem hdv_cons (x : Nat) (l : List Nat) : hdv (x :: l) = .int .i64 (x : Int) := rfl
theorem nev_cons (x : Nat) (l : List Nat) : nev (x :: l) = .bool true := rfl
theorem hdv_nil : hdv [] = .int .i64 0 := rfl
theorem nev_nil : nev [] = .bool false := rfl

theorem after_row (p m N H h a : Nat) (R : Nat → List Nat) (w : World) (hl : Lst w p m N H R) (hh : h < H) (L1 L2 : List Nat) (hR : R h = L1 ++ L2) (ha : lst (N + h) L1 = a) :
    Calls Try.prog 36 #[.pointer (some ⟨p, 0, none⟩), .int .i64 (a : Int)] w fun e w' => e = .returned (.tuple #[hdv L2, nev L2]) ∧ w = w' := by
  obtain ⟨f, hf, r⟩ := hl
  have hn := r.next hh hR
  have m1 : lst (N + h) L1 ∈ (N + h) :: R h := by
    rcases List.mem_cons.1 (lst_mem (N + h) L1) with e | e
    · rw [e]; simp
    · rw [hR]; exact List.mem_cons_of_mem _ (List.mem_append_left _ e)
  rw [ha] at hn m1
  refine (after_ok p m N H a _ f w hf (r.lt hh m1) hn).mono ?_
  rintro e w' ⟨rfl, rfl⟩
  refine ⟨?_, rfl⟩
  cases L2 with
  | nil => simp [hdv, nev]; omega
  | cons y l =>
    have := (r.mem h hh y (by rw [hR]; simp)).1
    simp [hdv, nev, this]

set_option maxHeartbeats 800000 in
theorem first_row (p m N H h : Nat) (R : Nat → List Nat) (w : World) (hl : Lst w p m N H R) (hN : N ≤ 1024) (hH : H ≤ 64) (hh : h < H) :
    Calls Try.prog 24 #[.pointer (some ⟨p, 0, none⟩), .int .i64 (h : Int)] w fun e w' => e = .returned (.tuple #[hdv (R h), nev (R h)]) ∧ ∃ n, w' = w.drewN n := by
  have HA : Hid (Calls Try.prog 37 #[.pointer (some ⟨p, 0, none⟩), .int .i64 (h : Int)] w fun e w' => e = .returned (.bool true) ∧ ∃ n, w' = w.drewN n) := by
    obtain ⟨f, hf, _⟩ := hl; exact hasHead_any p m N H h f w hf hN hH true (by simp; omega)
  go_enter Try.func24, Try.ntmps24
  go_wp2_with fail
  refine HA.out.mono ?_
  rintro e w1 ⟨rfl, n, rfl⟩
  have HE : Hid (Calls Try.prog 27 #[.pointer (some ⟨p, 0, none⟩), .int .i64 (h : Int)] (w.drewN n) fun e w' => e = .returned (.int .i64 ((N + h : Nat) : Int)) ∧ (w.drewN n) = w') := by
    obtain ⟨f, hf, _⟩ := hl; exact end_ok p m N H h f (w.drewN n) (hf.drewN n) hN (by omega)
  have HF := Lib.hid (after_row p m N H h (N + h) R (w.drewN n) (hl.drewN n) hh [] (R h) rfl rfl)
  clear HA
  go_wp2_with fail
  refine HE.out.mono ?_
  rintro e w2 ⟨rfl, rfl⟩
  go_wp2_with fail
  refine HF.out.mono ?_
  rintro e w2 ⟨rfl, rfl⟩
  go_wp2
  go_ret2
  exact ⟨rfl, n, rfl⟩

set_option maxHeartbeats 800000 in
theorem first_no (p m N H : Nat) (h : Int) (R : Nat → List Nat) (w : World) (hl : Lst w p m N H R) (hN : N ≤ 1024) (hH : H ≤ 64) (hh : ¬ (0 ≤ h ∧ h < H)) :
    Calls Try.prog 24 #[.pointer (some ⟨p, 0, none⟩), .int .i64 h] w fun e w' => e = .returned (.tuple #[.int .i64 0, .bool false]) ∧ ∃ n, w' = w.drewN n := by
  have HA : Hid (Calls Try.prog 37 #[.pointer (some ⟨p, 0, none⟩), .int .i64 h] w fun e w' => e = .returned (.bool false) ∧ ∃ n, w' = w.drewN n) := by
    obtain ⟨f, hf, _⟩ := hl; exact hasHead_any p m N H h f w hf hN hH false (by simpa using hh)
  clear hh
  go_enter Try.func24, Try.ntmps24
  go_wp2_with fail
  refine HA.out.mono ?_
  rintro e w1 ⟨rfl, n, rfl⟩
  go_wp2
  go_ret2
  exact ⟨rfl, n, rfl⟩

set_option maxHeartbeats 800000 in
theorem next_row (p m N H h x : Nat) (R : Nat → List Nat) (w : World) (hl : Lst w p m N H R) (hh : h < H) (L1 L2 : List Nat) (hR : R h = L1 ++ x :: L2) :
    Calls Try.prog 26 #[.pointer (some ⟨p, 0, none⟩), .int .i64 (x : Int)] w fun e w' => e = .returned (.tuple #[hdv L2, nev L2]) ∧ w = w' := by
  have hx : x < N := by obtain ⟨f, _, r⟩ := hl; exact (r.mem h hh x (by rw [hR]; simp)).1
  have hix : Inn H R x := ⟨h, hh, by rw [hR]; simp⟩
  have HA := Lib.hid (hasNode_row p m N H x R w hl true (by simp; omega))
  have HC := Lib.hid (isIn_row p m N H x R w hl hx true (by simp [hix]))
  have HF := Lib.hid (after_row p m N H h x R w hl hh (L1 ++ [x]) L2 (by rw [hR]; simp) (by rw [lst_app]; rfl))
  clear hl hix hR
  go_enter Try.func26, Try.ntmps26
  go_wp2_with fail
  refine HA.out.mono ?_
  rintro e w1 ⟨rfl, rfl⟩
  go_wp2_with fail
  refine HC.out.mono ?_
  rintro e w1 ⟨rfl, rfl⟩
  go_wp2_with fail
  refine HF.out.mono ?_
  rintro e w1 ⟨rfl, rfl⟩
  go_wp2
  go_ret2
  exact ⟨rfl, rfl⟩

set_option maxHeartbeats 800000 in
theorem next_no (p m N H : Nat) (x : Int) (R : Nat → List Nat) (w : World) (hl : Lst w p m N H R) (hx : ¬ ((0 ≤ x ∧ x < N) ∧ Inn H R x.toNat)) :
    Calls Try.prog 26 #[.pointer (some ⟨p, 0, none⟩), .int .i64 x] w fun e w' => e = .returned (.tuple #[.int .i64 0, .bool false]) ∧ w = w' := by
  by_cases h1 : 0 ≤ x ∧ x < N
  · have h2 : ¬ Inn H R x.toNat := fun h => hx ⟨h1, h⟩
    obtain ⟨y, rfl⟩ : ∃ y : Nat, x = y := ⟨x.toNat, by omega⟩
    simp only [Int.toNat_natCast] at h2
    have HA := Lib.hid (hasNode_row p m N H y R w hl true (by simp; omega))
    have HC := Lib.hid (isIn_row p m N H y R w hl (by omega) false (by simp [h2]))
    clear hx h1 h2
    go_enter Try.func26, Try.ntmps26
    go_wp2_with fail
    refine HA.out.mono ?_
    rintro e w1 ⟨rfl, rfl⟩
    go_wp2_with fail
    refine HC.out.mono ?_
    rintro e w1 ⟨rfl, rfl⟩
    go_wp2
    go_ret2
    exact ⟨rfl, rfl⟩
  · have HA := Lib.hid (hasNode_row p m N H x R w hl false (by simpa using h1))
    clear hx h1
    go_enter Try.func26, Try.ntmps26
    go_wp2_with fail
    refine HA.out.mono ?_
    rintro e w1 ⟨rfl, rfl⟩
    go_wp2
    go_ret2
    exact ⟨rfl, rfl⟩

set_option maxHeartbeats 800000 in
theorem of_row (p m N H h x : Nat) (R : Nat → List Nat) (w : World) (hl : Lst w p m N H R) (hh : h < H) (hR : x ∈ R h) :
    Calls Try.prog 25 #[.pointer (some ⟨p, 0, none⟩), .int .i64 (x : Int)] w fun e w' => e = .returned (.tuple #[.int .i64 (h : Int), .bool true]) ∧ w = w' := by
  have hx : x < N := by obtain ⟨f, _, r⟩ := hl; exact (r.mem h hh x hR).1
  have hix : Inn H R x := ⟨h, hh, hR⟩
  have HA := Lib.hid (hasNode_row p m N H x R w hl true (by simp; omega))
  have HC := Lib.hid (isIn_row p m N H x R w hl hx true (by simp [hix]))
  obtain ⟨f, hf, r⟩ := hl
  obtain ⟨k, h0, h1, hk1, hk2⟩ := hf.cells
  have hc := hf.at_ (i := x * 3 + 2) (by omega)
  rw [(r.mem h hh x hR).2] at hc
  have ix : (x : Int) < (N : Int) + (H : Int) := by omega
  clear hix hR
  go_enter Try.func25, Try.ntmps25
  go_wp2_with fail
  refine HA.out.mono ?_
  rintro e w1 ⟨rfl, rfl⟩
  go_wp2_with fail
  refine HC.out.mono ?_
  rintro e w1 ⟨rfl, rfl⟩
  go_wp2
  go_ret2
  exact ⟨rfl, rfl⟩

set_option maxHeartbeats 800000 in
theorem of_no (p m N H : Nat) (x : Int) (R : Nat → List Nat) (w : World) (hl : Lst w p m N H R) (hx : ¬ ((0 ≤ x ∧ x < N) ∧ Inn H R x.toNat)) :
    Calls Try.prog 25 #[.pointer (some ⟨p, 0, none⟩), .int .i64 x] w fun e w' => e = .returned (.tuple #[.int .i64 0, .bool false]) ∧ w = w' := by
  by_cases h1 : 0 ≤ x ∧ x < N
  · have h2 : ¬ Inn H R x.toNat := fun h => hx ⟨h1, h⟩
    obtain ⟨y, rfl⟩ : ∃ y : Nat, x = y := ⟨x.toNat, by omega⟩
    simp only [Int.toNat_natCast] at h2
    have HA := Lib.hid (hasNode_row p m N H y R w hl true (by simp; omega))
    have HC := Lib.hid (isIn_row p m N H y R w hl (by omega) false (by simp [h2]))
    clear hx h1 h2
    go_enter Try.func25, Try.ntmps25
    go_wp2_with fail
    refine HA.out.mono ?_
    rintro e w1 ⟨rfl, rfl⟩
    go_wp2_with fail
    refine HC.out.mono ?_
    rintro e w1 ⟨rfl, rfl⟩
    go_wp2
    go_ret2
    exact ⟨rfl, rfl⟩
  · have HA := Lib.hid (hasNode_row p m N H x R w hl false (by simpa using h1))
    clear hx h1
    go_enter Try.func25, Try.ntmps25
    go_wp2_with fail
    refine HA.out.mono ?_
    rintro e w1 ⟨rfl, rfl⟩
    go_wp2
    go_ret2
    exact ⟨rfl, rfl⟩

def LenRel (R : List Nat) (cnt n ok : Value) : Prop :=
  ∃ L1 L2, R = L1 ++ L2 ∧ cnt = .int .i64 (L1.length : Int) ∧ n = hdv L2 ∧ ok = nev L2

theorem nodup_len : ∀ (N : Nat) (l : List Nat), l.Nodup → (∀ x, x ∈ l → x < N) → l.length ≤ N
  | 0, l, _, h => by
    cases l with
    | nil => simp
    | cons x l => have := h x (by simp); omega
  | N + 1, l, hn, h => by
    have h1 := nodup_len N (l.erase N) (hn.erase N) (fun x hx => by
      have h2 := (hn.mem_erase_iff).1 hx
      have := h x h2.2
      have := h2.1
      omega)
    rw [List.length_erase] at h1
    split at h1 <;> omega

theorem Lst.len {w : World} {p m N H : Nat} {R : Nat → List Nat} (h : Lst w p m N H R) {k : Nat} (hk : k < H) : (R k).length ≤ N := by
  obtain ⟨f, _, r⟩ := h
  have h1 := r.nodup k hk
  exact nodup_len N (R k) h1 fun x hx => (r.mem k hk x hx).1

set_option maxHeartbeats 800000 in
theorem len_row (p m N H h : Nat) (R : Nat → List Nat) (w : World) (hl : Lst w p m N H R) (hN : N ≤ 1024) (hH : H ≤ 64) (hh : h < H) :
    Calls Try.prog 22 #[.pointer (some ⟨p, 0, none⟩), .int .i64 (h : Int)] w fun e w' => e = .returned (.int .i64 ((R h).length : Int)) ∧ ∃ n, w' = w.drewN n := by
  have HA := Lib.hid (first_row p m N H h R w hl hN hH hh)
  have hlen := hl.len hh
  go_enter Try.func22, Try.ntmps22
  go_wp2_with fail
  refine HA.out.mono ?_
  rintro e w1 ⟨rfl, k, rfl⟩
  have hl1 := hl.drewN k
  go_wp2
  go_loop [5, 6, 7] (fun c n ok => LenRel (R h) c n ok) (fun c _ _ => (R h).length - (intOf c).toNat)
  case atStart => exact ⟨[], R h, rfl, rfl, rfl, rfl⟩
  case round =>
    obtain ⟨L1, L2, hR, rfl, rfl, rfl⟩ := hrel
    cases L2 with
    | nil =>
      rw [hdv_nil, nev_nil]
      rw [List.append_nil] at hR
      rw [hR]
      go_wp2
      go_ret
      exact ⟨rfl, k, rfl⟩
    | cons x l =>
      rw [hdv_cons, nev_cons]
      have HF := Lib.hid (after_row p m N H h x R _ hl1 hh (L1 ++ [x]) l (by rw [hR]; simp) (by rw [lst_app]; rfl))
      have hl2 : L1.length + 1 ≤ (R h).length := by rw [hR]; simp
      have HR := Lib.hid hR
      clear hR
      go_wp2_with fail
      refine HF.out.mono ?_
      rintro e w2 ⟨rfl, rfl⟩
      go_wp2
      go_round
      case rel => exact ⟨L1 ++ [x], l, by rw [HR.out]; simp, by simp, rfl, rfl⟩
      case measure => simp [intOf]; omega

set_option maxHeartbeats 800000 in
theorem len_no (p m N H : Nat) (h : Int) (R : Nat → List Nat) (w : World) (hl : Lst w p m N H R) (hN : N ≤ 1024) (hH : H ≤ 64) (hh : ¬ (0 ≤ h ∧ h < H)) :
    Calls Try.prog 22 #[.pointer (some ⟨p, 0, none⟩), .int .i64 h] w fun e w' => e = .returned (.int .i64 0) ∧ ∃ n, w' = w.drewN n := by
  have HA := Lib.hid (first_no p m N H h R w hl hN hH hh)
  clear hh
  go_enter Try.func22, Try.ntmps22
  go_wp2_with fail
  refine HA.out.mono ?_
  rintro e w1 ⟨rfl, k, rfl⟩
  go_wp2
  go_loop [5, 6, 7] (fun c n ok => LenRel [] c n ok) (fun c _ _ => 0)
  case atStart => exact ⟨[], [], rfl, rfl, rfl, rfl⟩
  case round =>
    obtain ⟨L1, L2, hR, rfl, rfl, rfl⟩ := hrel
    obtain ⟨rfl, rfl⟩ := List.append_eq_nil_iff.1 hR.symm
    clear hR
    rw [hdv_nil, nev_nil]
    simp only [List.length_nil]
    go_wp2
    go_ret
    exact ⟨rfl, k, rfl⟩

/-- a row as integers -/
def ints (l : List Nat) : List Int := l.map fun (x : Nat) => (x : Int)
theorem ints_len (l : List Nat) : (ints l).length = l.length := by simp [ints]
theorem ints_nth (l : List Nat) (j : Nat) (x : Nat) (h : l[j]? = some x) : nth (ints l) j = x := by simp [nth, ints, h]

def vals (l : List Nat) : List Value := l.map fun (x : Nat) => .int .i64 (x : Int)
theorem vals_len (l : List Nat) : (vals l).length = l.length := by simp [vals]
def slLen : Value → Nat
  | .slice _ n _ => n
  | _ => 0

def RowRel (R : List Nat) (w : World) (row n ok : Value) (wr : World) : Prop :=
  ∃ L1 L2, R = L1 ++ L2 ∧ wr.ownsRow w.heap.size 3 1 row L1.length (vals L1) ∧ n = hdv L2 ∧ ok = nev L2 ∧ Below w.heap.size w wr

theorem own_len {w : World} {B n : Nat} {v : Value} {xs : List Value} (h : w.ownsRow B 3 1 v n xs) : slLen v = n := by
  rcases h.2 with ⟨rfl, rfl⟩ | ⟨g, cap, cur, rfl, _⟩ <;> rfl

/-- what Row tells -/
def RowPost (m : Nat) (L : List Nat) (w : World) (e : Ending) (w' : World) : Prop :=
  ∃ (A : Option Addr) (k : Nat), e = .returned (.slice A L.length k) ∧ L.length ≤ k ∧ k ≤ 9223372036854775807 ∧ Nd w' m A (ints L) ∧ Below w.heap.size w w'

theorem own_post {w w' : World} {m : Nat} {v : Value} {L : List Nat} (h : w'.ownsRow w.heap.size 3 1 v L.length (vals L)) (hm : m < w.heap.size) (hb : Below w.heap.size w w') : RowPost m L w (.returned v) w' := by
  have h' := h
  rcases h.2 with ⟨rfl, h0⟩ | ⟨g, cap, cur, rfl, hg, hh, hc1, hc2, hsz, htk⟩
  · refine ⟨none, 0, by rw [h0], by omega, by omega, ?_, hb⟩
    intro h1; rw [ints_len] at h1; omega
  · refine ⟨some ⟨g, 0, none⟩, cap, rfl, hc1, by simp [maxLen] at hc2; omega, ?_, hb⟩
    intro _
    refine ⟨g, 0, rfl, by omega, fun j hj => ?_⟩
    rw [ints_len] at hj
    rw [Nat.zero_add, h'.cellAt j (by omega)]
    simp [vals, nth, ints, hj]

theorem info3 : (Try.prog.info? 3).map (fun i => (i.zero, i.size, i.bytes)) = some (some (.int .i64 0), 1, 8) := by kernel_rfl

set_option maxHeartbeats 1600000 in
theorem row_row (p m N H h : Nat) (R : Nat → List Nat) (w : World) (hl : Lst w p m N H R) (hN : N ≤ 1024) (hH : H ≤ 64) (hh : h < H) :
    Calls Try.prog 21 #[.pointer (some ⟨p, 0, none⟩), .int .i64 (h : Int)] w (RowPost m (R h) w) := by
  have HA := Lib.hid (first_row p m N H h R w hl hN hH hh)
  have hlen := hl.len hh
  obtain ⟨i0, hi, hz0, hz1, hz2⟩ := info_parts info3
  go_enter Try.func21, Try.ntmps21
  go_wp2_with fail
  refine HA.out.mono ?_
  rintro e w1 ⟨rfl, k, rfl⟩
  have hb1 : Below w.heap.size w (w.drewN k) := ⟨rfl, rfl, rfl, Nat.le_refl _, fun _ _ => rfl⟩
  go_wp2
  go_loopw [5, 6, 7] (fun c n ok wr => RowRel (R h) w c n ok wr) (fun c _ _ _ => (R h).length - slLen c)
  case atStart => exact ⟨[], R h, rfl, World.ownsRow_nil _ _ _ _, rfl, rfl, hb1⟩
  case round =>
    obtain ⟨L1, L2, hR, hown, rfl, rfl, hb⟩ := hrel
    cases L2 with
    | nil =>
      rw [hdv_nil, nev_nil]
      rw [List.append_nil] at hR
      subst hR
      go_wp2
      go_ret
      exact own_post hown hl.ltm hb
    | cons x l =>
      rw [hdv_cons, nev_cons]
      have hl2 : L1.length + 1 ≤ (R h).length := by rw [hR]; simp
      have HR := Lib.hid hR
      clear hR
      go_wp2_with (at_builtin; refine wpList_append_own _ rfl _ _ 31 rfl w.heap.size 3 i0 (.int .i64 0) 1 8 Try.underlying31 hi hz0 hz1 hz2 rfl (by decide) _ _ _ rfl (hown.alloc _) ⟨wr.heap.size, 0, none⟩ 1 1 [.int .i64 (x : Int)] rfl rfl (cell_one_new _ _ _) (by intro u hu; simp at hu; subst hu; rfl) (by unfold maxLen; omega) (by omega) (by have := hb.size; simp; omega) ?_; intro v1 w1 hown1 hgrow1 hnil1)
      have hl1 := hl.below hb hl.ltp hl.ltm
      have hb2 : Below w.heap.size w w1 := (hb.alloc hb.size _).grown hgrow1 (by have := hb.size; simp; omega) (fun k hk => (hown.lt k hk).1)
      have hl3 := hl.below hb2 hl.ltp hl.ltm
      have HF := Lib.hid (after_row p m N H h x R w1 hl3 hh (L1 ++ [x]) l (by rw [HR.out]; simp) (by rw [lst_app]; rfl))
      have HL1 := Lib.hid (own_len hown1)
      have HL0 := Lib.hid (own_len hown)
      clear hnil1 hgrow1 hb hown hl1
      go_wp2_with fail
      refine HF.out.mono ?_
      rintro e w2 ⟨rfl, rfl⟩
      go_wp2
      go_roundw
      case rel => exact ⟨L1 ++ [x], l, by rw [HR.out]; simp, by simpa [vals] using hown1, rfl, rfl, hb2⟩
      case measure => rw [HL1.out, HL0.out]; omega

set_option maxHeartbeats 800000 in
theorem row_no (p m N H : Nat) (h : Int) (R : Nat → List Nat) (w : World) (hl : Lst w p m N H R) (hN : N ≤ 1024) (hH : H ≤ 64) (hh : ¬ (0 ≤ h ∧ h < H)) :
    Calls Try.prog 21 #[.pointer (some ⟨p, 0, none⟩), .int .i64 h] w (RowPost m [] w) := by
  have HA := Lib.hid (first_no p m N H h R w hl hN hH hh)
  clear hh
  go_enter Try.func21, Try.ntmps21
  go_wp2_with fail
  refine HA.out.mono ?_
  rintro e w1 ⟨rfl, k, rfl⟩
  go_wp2
  go_loop [5, 6, 7] (fun c n ok => c = .slice none 0 0 ∧ n = .int .i64 0 ∧ ok = .bool false) (fun c _ _ => 0)
  case atStart => exact ⟨rfl, rfl, rfl⟩
  case round =>
    obtain ⟨rfl, rfl, rfl⟩ := hrel
    go_wp2
    go_ret
    exact ⟨none, 0, rfl, by simp, by simp, fun h => by simp [ints] at h, rfl, rfl, rfl, Nat.le_refl _, fun _ _ => rfl⟩
end Go.Proofs.Ytmfjhckacmdijaa
