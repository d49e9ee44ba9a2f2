/- Contracts of package list: New. -/
import Derived.Test.YtmfjhckacmdijaaConB
namespace Go.Proofs.Ytmfjhckacmdijaa
open Go.RowKit

theorem info54 : (Try.prog.info? 54).map (fun i => (i.zero, i.size, i.bytes)) = some (some (.agg #[.int .i64 0, .int .i64 0, .int .i64 0]), 3, 24) := by kernel_rfl

theorem run_make_links (n : Nat) (hn : n ≤ 65536) (W : World) :
    (Instr.makeSlice 50 (.int .i64 (n : Int)) (.int .i64 (n : Int))).run Try.prog W = .ok (.slice (some ⟨W.heap.size, 0, none⟩) n n) (W.alloc (.cells (madeCells #[.int .i64 0, .int .i64 0, .int .i64 0] (n * 3)) 54)) := by
  obtain ⟨i0, hi0, hz0, hz1, hz2⟩ := info_parts info54
  have h := run_make (P := Try.prog) W 50 54 i0 _ Try.underlying50 hi0 hz0 .i64 .i64 n n (by omega) (by omega) (by rw [hz2]; omega) (by omega)
  simpa [hz1, Value.cells] using h

theorem lk_made (W : World) (n : Nat) : Lk (W.alloc (.cells (madeCells #[.int .i64 0, .int .i64 0, .int .i64 0] (n * 3)) 54)) W.heap.size (3 * n) (fun _ => 0) := by
  refine ⟨_, heap_alloc_new W _, fun i hi => ?_⟩
  have hi' : i < n * 3 := by omega
  have h3 : i % 3 < 3 := Nat.mod_lt _ (by omega)
  simp only [madeCells, Array.getElem?_map, Array.getElem?_range, if_pos hi', Option.map_some]
  congr 1
  show #[Value.int .i64 0, .int .i64 0, .int .i64 0][i % 3]! = _
  match i % 3, h3 with
  | 0, _ => rfl
  | 1, _ => rfl
  | 2, _ => rfl

def new1 (t i : Nat) : Int := if i < t * 3 ∧ i % 3 = 2 then -1 else 0
def new2 (N t i : Nat) : Int := if i < (N + t) * 3 then new0 N i else 0

def NewRel1 (p m N H : Nat) (w : World) (i : Value) (wr : World) : Prop :=
  ∃ t : Nat, t ≤ N ∧ i = .int .i64 t ∧ Lm wr p m N H (new1 t) ∧ Below w.heap.size w wr
def NewRel2 (p m N H : Nat) (w : World) (i : Value) (wr : World) : Prop :=
  ∃ t : Nat, t ≤ H ∧ i = .int .i64 t ∧ Lm wr p m N H (new2 N t) ∧ Below w.heap.size w wr

theorem new1_step (t i : Nat) : new1 (t + 1) i = if i = t * 3 + 2 then -1 else new1 t i := by
  unfold new1
  by_cases h : i = t * 3 + 2
  · subst h; rw [if_pos (by omega), if_pos rfl]
  · rw [if_neg h]
    by_cases h2 : i < t * 3 ∧ i % 3 = 2
    · rw [if_pos h2, if_pos (by omega)]
    · rw [if_neg h2, if_neg (by omega)]
theorem new1_new2 (N i : Nat) : new2 N 0 i = new1 N i := by
  unfold new1 new2 new0
  by_cases h : i < N * 3
  · rw [if_pos (by omega), if_pos h]
    by_cases h2 : i % 3 = 2
    · rw [if_pos h2, if_pos ⟨h, h2⟩]
    · rw [if_neg h2, if_neg (by omega)]
  · rw [if_neg (by omega), if_neg (by omega)]
theorem new2_step (N t i : Nat) : new2 N (t + 1) i = if i = (N + t) * 3 + 2 then (t : Int) else if i = (N + t) * 3 + 1 then ((N + t : Nat) : Int) else if i = (N + t) * 3 then ((N + t : Nat) : Int) else new2 N t i := by
  unfold new2 new0
  by_cases h : i = (N + t) * 3 + 2
  · subst h; rw [if_pos (by omega), if_neg (by omega), if_pos (by omega), if_pos rfl]; congr 1; omega
  · rw [if_neg h]
    by_cases h1 : i = (N + t) * 3 + 1
    · subst h1; rw [if_pos (by omega), if_neg (by omega), if_neg (by omega), if_pos rfl]; congr 1; omega
    · rw [if_neg h1]
      by_cases h2 : i = (N + t) * 3
      · subst h2; rw [if_pos (by omega), if_neg (by omega), if_neg (by omega), if_pos rfl]; congr 1; omega
      · rw [if_neg h2]
        by_cases h3 : i < (N + t) * 3
        · rw [if_pos h3, if_pos (by omega)]
        · rw [if_neg h3, if_neg (by omega)]

def Made (N H : Nat) (w : World) (e : Ending) (w' : World) : Prop :=
  ∃ p m : Nat, w.heap.size ≤ p ∧ w.heap.size ≤ m ∧ e = .returned (.tuple #[.pointer (some ⟨p, 0, none⟩), .int .i64 0]) ∧ Lst w' p m N H (fun _ => []) ∧ Below w.heap.size w w'

set_option maxHeartbeats 1600000 in
theorem new_ok (N H : Nat) (hN0 : 1 ≤ N) (hN : N ≤ 1024) (hH0 : 1 ≤ H) (hH : H ≤ 64) (w : World) : Calls Try.prog 10 #[.int .i64 (N : Int), .int .i64 (H : Int)] w (Made N H w) := by
  have t1 : decide ((N : Int) < 1) = false := by simp; omega
  have t2 : decide ((1024 : Int) < (N : Int)) = false := by simp; omega
  have t3 : decide ((H : Int) < 1) = false := by simp; omega
  have t4 : decide ((64 : Int) < (H : Int)) = false := by simp; omega
  have hmk := run_make_links (N + H) (by omega) w
  have ec : ((N + H : Nat) : Int) = (N : Int) + (H : Int) := by omega
  rw [ec] at hmk
  go_enter Try.func10, Try.ntmps10
  go_wp2
  have hl1 : Lm ((w.alloc (.cells (madeCells #[.int .i64 0, .int .i64 0, .int .i64 0] ((N + H) * 3)) 54)).alloc (.cells #[.int .i64 (N : Int), .slice (some ⟨w.heap.size, 0, none⟩) (N + H) (N + H)] 52)) (w.heap.size + 1) w.heap.size N H (fun _ => 0) :=
    ⟨⟨N + H, heap_alloc2_new w _ _, by omega, by omega⟩, (lk_made w (N + H)).keep (Below.heap_alloc _ _ _ (by simp))⟩
  have hb1 : Below w.heap.size w ((w.alloc (.cells (madeCells #[.int .i64 0, .int .i64 0, .int .i64 0] ((N + H) * 3)) 54)).alloc (.cells #[.int .i64 (N : Int), .slice (some ⟨w.heap.size, 0, none⟩) (N + H) (N + H)] 52)) :=
    ((Below.refl _ _).alloc (Nat.le_refl _) _).alloc (by simp) _
  generalize (w.alloc (.cells (madeCells #[.int .i64 0, .int .i64 0, .int .i64 0] ((N + H) * 3)) 54)).alloc (.cells #[.int .i64 (N : Int), .slice (some ⟨w.heap.size, 0, none⟩) (N + H) (N + H)] 52) = w1 at *
  clear hmk
  obtain ⟨m, hm⟩ : ∃ m, w.heap.size = m := ⟨_, rfl⟩
  rw [hm] at hl1 ⊢
  obtain ⟨p, hp⟩ : ∃ p, m + 1 = p := ⟨_, rfl⟩
  rw [hp] at hl1 ⊢
  go_loopw [32] (fun i wr => NewRel1 p m N H w i wr) (fun i _ => N - (intOf i).toNat)
  case atStart => exact ⟨0, Nat.zero_le _, rfl, hl1.congr fun i _ => by unfold new1; rw [if_neg (by omega)], hb1⟩
  case round =>
    obtain ⟨t, ht, rfl, hl, hb⟩ := hrel
    clear hl1 hb1
    by_cases hlt : t < N
    · have it : (t : Int) < (N : Int) + (H : Int) := by omega
      obtain ⟨k, h0, h1, hk1, hk2⟩ := hl.cells
      have hc := hl.at_ (i := t * 3 + 2) (by omega)
      have hz := hl.frozen (t * 3 + 2)
      have HL := Lib.hid (hl.set (t * 3 + 2) (-1) (by omega))
      have HB := Lib.hid (hb.setCell (p := ⟨m, t * 3 + 2, none⟩) (by simp only; omega) (.int .i64 (-1)))
      clear hl hb
      go_wp2
      go_roundw
      case rel => exact ⟨t + 1, by omega, by go_num, HL.out.congr fun i _ => new1_step t i, HB.out⟩
      case measure => simp [intOf]; omega
    · obtain rfl : t = N := by omega
      have hl2 : Lm wr p m t H (new2 t 0) := hl.congr fun i _ => new1_new2 t i
      clear hl
      go_wp2
      go_loopw [44] (fun i wr => NewRel2 p m t H w i wr) (fun i _ => H - (intOf i).toNat)
      case atStart => exact ⟨0, Nat.zero_le _, rfl, hl2, hb⟩
      case round =>
        obtain ⟨s, hs, rfl, hl3, hb3⟩ := hrel
        clear hl2 hb
        by_cases hlt2 : s < H
        · have HE := Lib.hid (end_ok p m t H s _ _ hl3 (by omega) (by omega))
          have is1 : ((t + s : Nat) : Int) < (t : Int) + (H : Int) := by omega
          obtain ⟨k, h0, h1, hk1, hk2⟩ := hl3.cells
          have hc := hl3.at_ (i := (t + s) * 3) (by omega)
          have hz := hl3.frozen ((t + s) * 3)
          have hl4 := hl3.set ((t + s) * 3) ((t + s : Nat) : Int) (by omega)
          have hc1 := hl4.at_ (i := (t + s) * 3 + 1) (by omega)
          have hz1 := hl4.frozen ((t + s) * 3 + 1)
          have hl5 := hl4.set ((t + s) * 3 + 1) ((t + s : Nat) : Int) (by omega)
          have hc2 := hl5.at_ (i := (t + s) * 3 + 2) (by omega)
          have hz2 := hl5.frozen ((t + s) * 3 + 2)
          have HL := Lib.hid (hl5.set ((t + s) * 3 + 2) (s : Int) (by omega))
          have HB := Lib.hid (((hb3.setCell (p := ⟨m, (t + s) * 3, none⟩) (by simp only; omega) (.int .i64 ((t + s : Nat) : Int))).setCell (p := ⟨m, (t + s) * 3 + 1, none⟩) (by simp only; omega) (.int .i64 ((t + s : Nat) : Int))).setCell (p := ⟨m, (t + s) * 3 + 2, none⟩) (by simp only; omega) (.int .i64 (s : Int)))
          clear hl3 hl4 hl5 hb3
          generalize hu : t + s = u at *
          have HU := Lib.hid hu
          clear hu
          go_wp2_with fail
          refine HE.out.mono ?_
          rintro e wx ⟨rfl, rfl⟩
          go_wp2
          go_roundw
          case rel => exact ⟨s + 1, by omega, by go_num, HL.out.congr fun i _ => by rw [new2_step, HU.out], HB.out⟩
          case measure => simp [intOf]; omega
        · obtain rfl : s = H := by omega
          go_wp2
          go_ret2
          exact ⟨p, m, by omega, by omega, rfl, ⟨_, hl3.congr fun i hi => by unfold new2; rw [if_pos (by omega)], rel_new t s⟩, hb3⟩

set_option maxHeartbeats 800000 in
theorem new_bad (a b : Int) (h : ¬ (1 ≤ a ∧ a ≤ 1024 ∧ 1 ≤ b ∧ b ≤ 64)) (w : World) : Calls Try.prog 10 #[.int .i64 a, .int .i64 b] w fun e w' => e = .returned (.tuple #[.pointer none, .int .i64 (-17)]) ∧ w = w' := by
  by_cases h1 : a < 1
  · go_enter Try.func10, Try.ntmps10
    go_wp2
    go_ret2
    exact ⟨rfl, rfl⟩
  have t1 : decide (a < 1) = false := by simpa using h1
  by_cases h2 : 1024 < a
  · go_enter Try.func10, Try.ntmps10
    go_wp2
    go_ret2
    exact ⟨rfl, rfl⟩
  have t2 : decide (1024 < a) = false := by simpa using h2
  by_cases h3 : b < 1
  · go_enter Try.func10, Try.ntmps10
    go_wp2
    go_ret2
    exact ⟨rfl, rfl⟩
  have t3 : decide (b < 1) = false := by simpa using h3
  have h4 : 64 < b := by omega
  clear h h1 h2 h3
  go_enter Try.func10, Try.ntmps10
  go_wp2
  go_ret2
  exact ⟨rfl, rfl⟩

/-! ### Remove, whole -/

theorem remove_ok (p m N H x h : Nat) (R : Nat → List Nat) (w : World) (hl : Lst w p m N H R) (hh : h < H) (L1 L2 : List Nat) (hR : R h = L1 ++ x :: L2) :
    Calls Try.prog 18 #[.pointer (some ⟨p, 0, none⟩), .int .i64 (x : Int)] w fun e w' => e = .returned (.int .i64 0) ∧ Lst w' p m N H (setR R h (L1 ++ L2)) ∧ Only m m w w' := by
  obtain ⟨f, hl, r⟩ := hl
  have hm := r.mem h hh x (by rw [hR]; simp)
  have hR1 : R h = (L1 ++ [x]) ++ L2 := by rw [hR]; simp
  have hn := r.next hh hR1
  rw [lst_app] at hn
  have hv := r.prev hh hR
  have l1 : lst (N + h) L1 < N + H := r.lt hh (by
    rcases List.mem_cons.1 (lst_mem (N + h) L1) with e | e
    · rw [e]; simp
    · rw [hR]; exact List.mem_cons_of_mem _ (List.mem_append_left _ e))
  have l2 : L2.headD (N + h) < N + H := r.lt hh (by
    rcases List.mem_cons.1 (headD_mem (N + h) L2) with e | e
    · rw [e]; simp
    · rw [hR]; exact List.mem_cons_of_mem _ (List.mem_append_right _ (List.mem_cons_of_mem _ e)))
  refine (remove_c p m N H x _ _ h f w hl hm.1 l2 l1 hn hv hm.2 (by omega)).mono ?_
  rintro e w' ⟨he, hl', ho⟩
  exact ⟨he, ⟨_, hl', r.remove hh hR⟩, ho⟩

set_option maxHeartbeats 800000 in
theorem remove_par (p m N H : Nat) (x : Int) (R : Nat → List Nat) (w : World) (hl : Lst w p m N H R) (hx : ¬ (0 ≤ x ∧ x < N)) :
    Calls Try.prog 18 #[.pointer (some ⟨p, 0, none⟩), .int .i64 x] w fun e w' => e = .returned (.int .i64 (-17)) ∧ w = w' := by
  obtain ⟨f, hl, r⟩ := hl
  have HA := Lib.hid (hasNode_any p m N H x f w hl false (by simpa using hx))
  clear hx
  go_enter Try.func18, Try.ntmps18
  go_wp2_with fail
  refine HA.out.mono ?_
  rintro e w1 ⟨rfl, rfl⟩
  go_wp2
  go_ret
  exact ⟨rfl, rfl⟩

set_option maxHeartbeats 800000 in
theorem remove_obj (p m N H x : Nat) (R : Nat → List Nat) (w : World) (hl : Lst w p m N H R) (hx : x < N) (hi : ¬ Inn H R x) :
    Calls Try.prog 18 #[.pointer (some ⟨p, 0, none⟩), .int .i64 (x : Int)] w fun e w' => e = .returned (.int .i64 (-41)) ∧ w = w' := by
  obtain ⟨f, hl, r⟩ := hl
  have HA := Lib.hid (hasNode_any p m N H x f w hl true (by simp; omega))
  have hne := mt (r.inn hx).1 hi
  have HB := Lib.hid (isIn_ok p m N H x f w hl (by omega) false (by simpa using hne))
  clear hne
  go_enter Try.func18, Try.ntmps18
  go_wp2_with fail
  refine HA.out.mono ?_
  rintro e w1 ⟨rfl, rfl⟩
  go_wp2_with fail
  refine HB.out.mono ?_
  rintro e w1 ⟨rfl, rfl⟩
  go_wp2
  go_ret
  exact ⟨rfl, rfl⟩
end Go.Proofs.Ytmfjhckacmdijaa
