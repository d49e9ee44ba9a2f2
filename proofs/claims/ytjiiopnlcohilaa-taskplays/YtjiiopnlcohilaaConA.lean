/- Contracts: New; slices.Index, slices.Contains; a task's Is; queue, empty, finish, Any. -/
import Derived.Test.YtjiiopnlcohilaaMem
namespace Go.Proofs.Ytjiiopnlcohilaa
open Go.RowKit

theorem new_any (w : World) : Calls Try.prog 11 #[] w fun e w' => ∃ p, e = .returned (.pointer (some ⟨p, 0, none⟩)) ∧ Tk w' 47 p born ∧ Below w.heap.size w w' ∧ w.heap.size ≤ p := by
  go_enter Try.func11, Try.ntmps11
  go_wp2
  go_ret
  exact ⟨w.heap.size, rfl, heap_alloc_new w _, (Below.refl _ _).alloc (Nat.le_refl _) _, Nat.le_refl _⟩
theorem rnew_any (w : World) : Calls Try.prog 12 #[] w fun e w' => ∃ p, e = .returned (.pointer (some ⟨p, 0, none⟩)) ∧ Tk w' 56 p born ∧ Below w.heap.size w w' ∧ w.heap.size ≤ p := by
  go_enter Try.func12, Try.ntmps12
  go_wp2
  go_ret
  exact ⟨w.heap.size, rfl, heap_alloc_new w _, (Below.refl _ _).alloc (Nat.le_refl _) _, Nat.le_refl _⟩

/-- not among the first t -/
def NotIn (L : List Int) (x : Int) (t : Nat) : Prop := ∀ j y, j < t → L[j]? = some y → y ≠ x

set_option maxHeartbeats 400000 in
theorem index_any (w : World) (a : Option Addr) (n cap : Nat) (x : Int) (L : List Int) (hn : L.length = n) (hb : n ≤ 1000) (hs : Src w a L) (r : Bool) (hr : decide (x ∈ L) = r) :
    Calls Try.prog 46 #[.slice a n cap, .int .i64 x] w fun e w' => ∃ v : Int, e = .returned (.int .i64 v) ∧ decide (0 ≤ v) = r ∧ w = w' := by
  have HS := Lib.hid hs
  have HR := Lib.hid hr
  have HL := Lib.hid hn
  clear hs hr hn
  go_enter Try.func46, Try.ntmps46
  go_wp2
  go_loopw [8] (fun i wr => ∃ t : Nat, t ≤ n ∧ i = .int .i64 (t : Int) ∧ Hid (NotIn L x t) ∧ wr = w) (fun i _ => n - (intOf i).toNat)
  case atStart => exact ⟨0, by omega, rfl, fun j y hj => by omega, rfl⟩
  case round =>
    obtain ⟨t, ht, rfl, hN, rfl⟩ := hrel
    by_cases hlt : t < n
    · obtain ⟨y, hy⟩ : ∃ y, L[t]? = some y := ⟨L[t]'(by have := HL.out; omega), List.getElem?_eq_getElem _⟩
      obtain ⟨b, o, rfl, hb, hc⟩ := HS.out (by have := HL.out; omega)
      have hct := hc t y hy
      have HY := Lib.hid hy
      clear hc hy
      have i1 : (t : Int) < (n : Int) := by omega
      have i2 : t < n := hlt
      by_cases hxy : x = y
      · subst hxy
        go_wp2
        go_ret
        refine ⟨_, rfl, ?_, rfl⟩
        rw [← HR.out]
        have hm : x ∈ L := List.mem_of_getElem? HY.out
        simp [hm]
      · have e1 : decide (x = y) = false := by simpa using hxy
        go_wp2
        go_roundw
        case rel =>
          refine ⟨t + 1, by omega, by go_num, fun j z hj hz => ?_, by first | rfl | trivial⟩
          by_cases e : j = t
          · subst e
            have := HY.out
            rw [hz] at this; injection this with this
            subst this; exact fun h => hxy h.symm
          · exact hN.out j z (by omega) hz
        case measure => simp [intOf]; omega
    · have i1 : decide ((t : Int) < (n : Int)) = false := by simp; omega
      have etn : t = n := by omega
      have hN' := hN.out
      rw [etn] at hN'
      have HN' := Lib.hid hN'
      clear etn hN' hN
      go_wp2
      go_ret
      refine ⟨_, rfl, ?_, rfl⟩
      rw [← HR.out]
      have hm : ¬ x ∈ L := fun hm => by
        obtain ⟨j, hj⟩ := List.getElem?_of_mem hm
        have hjn : j < L.length := (List.getElem?_eq_some_iff.1 hj).1
        exact HN'.out j x (by have := HL.out; omega) hj rfl
      simp [hm]

theorem contains_any (w : World) (a : Option Addr) (n cap : Nat) (x : Int) (L : List Int) (hn : L.length = n) (hb : n ≤ 1000) (hs : Src w a L) (r : Bool) (hr : decide (x ∈ L) = r) :
    Calls Try.prog 44 #[.slice a n cap, .int .i64 x] w fun e w' => e = .returned (.bool r) ∧ w = w' := by
  have HI := Lib.hid (index_any w a n cap x L hn hb hs r hr)
  clear hn hb hs hr
  go_enter Try.func44, Try.ntmps44
  go_wp2_with fail
  refine HI.out.mono ?_
  rintro e w1 ⟨v, rfl, rfl, rfl⟩
  go_wp2
  go_ret
  exact ⟨rfl, rfl⟩

theorem is_any (w : World) (p : Nat) (s : St) (h : Tk w 47 p s) (a : Option Addr) (n cap : Nat) (L : List Int) (hn : L.length = n) (hb : n ≤ 1000) (hs : Src w a L) (r : Bool) (hr : decide (s.X ∈ L) = r) :
    Calls Try.prog 24 #[.pointer (some ⟨p, 0, none⟩), .slice a n cap] w fun e w' => e = .returned (.bool r) ∧ w = w' := by
  obtain ⟨c0, c1, c2, c3, c4⟩ := h.at_
  have HI := Lib.hid (contains_any w a n cap s.X L hn hb hs r hr)
  clear h hn hb hs hr
  go_enter Try.func24, Try.ntmps24
  go_wp2_with fail
  refine HI.out.mono ?_
  rintro e w1 ⟨rfl, rfl⟩
  go_wp2
  go_ret
  exact ⟨rfl, rfl⟩

theorem src_new (w : World) (L : List Int) (cs : Array Value) (hc : ∀ (j : Nat) (x : Int), L[j]? = some x → cs[j]? = some (.int .i64 x)) :
    Src (w.alloc (.cells cs 3)) (some ⟨w.heap.size, 0, none⟩) L := fun _ =>
  ⟨w.heap.size, 0, rfl, lt_of_heap (heap_alloc_new w _), fun j x hj => by
    rw [Nat.zero_add, cell_of_row _ _ _ _ _ _ (heap_alloc_new w _)]; exact hc j x hj⟩

/-- Is of one state, of two: behind the slice that the call makes -/
theorem is_one' (w : World) (p : Nat) (s : St) (h : Tk w 47 p s) (v : Int) (r : Bool) (hr : decide (s.X = v) = r) (k : Nat) (hk : w.heap.size = k) :
    Calls Try.prog 24 #[.pointer (some ⟨p, 0, none⟩), .slice (some ⟨k, 0, none⟩) 1 1] (w.alloc (.cells #[.int .i64 v] 3)) fun e w' => e = .returned (.bool r) ∧ Tk w' 47 p s ∧ Below w.heap.size w w' := by
  subst hk
  refine (is_any _ p s (h.alloc _) _ 1 1 [v] rfl (by omega) (src_new w [v] _ ?_) r (by rw [← hr]; simp)).mono ?_
  · intro j x hj
    match j with
    | 0 => simp at hj; subst hj; rfl
    | j + 1 => simp at hj
  · rintro e w1 ⟨rfl, rfl⟩
    exact ⟨rfl, h.alloc _, (Below.refl _ _).alloc (Nat.le_refl _) _⟩
theorem is_one (w : World) (p : Nat) (s : St) (h : Tk w 47 p s) (v : Int) (r : Bool) (hr : decide (s.X = v) = r) :
    Calls Try.prog 24 #[.pointer (some ⟨p, 0, none⟩), .slice (some ⟨w.heap.size, 0, none⟩) 1 1] (w.alloc (.cells #[.int .i64 v] 3)) fun e w' => e = .returned (.bool r) ∧ Tk w' 47 p s ∧ Below w.heap.size w w' :=
  is_one' w p s h v r hr _ rfl
theorem is_two (w : World) (p : Nat) (s : St) (h : Tk w 47 p s) (v u : Int) (r : Bool) (hr : decide (s.X = v ∨ s.X = u) = r) :
    Calls Try.prog 24 #[.pointer (some ⟨p, 0, none⟩), .slice (some ⟨w.heap.size, 0, none⟩) 2 2] (w.alloc (.cells #[.int .i64 v, .int .i64 u] 3)) fun e w' => e = .returned (.bool r) ∧ Tk w' 47 p s ∧ Below w.heap.size w w' := by
  refine (is_any _ p s (h.alloc _) _ 2 2 [v, u] rfl (by omega) (src_new w [v, u] _ ?_) r (by rw [← hr]; simp)).mono ?_
  · intro j x hj
    match j with
    | 0 => simp at hj; subst hj; rfl
    | 1 => simp at hj; subst hj; rfl
    | j + 2 => simp at hj
  · rintro e w1 ⟨rfl, rfl⟩
    exact ⟨rfl, h.alloc _, (Below.refl _ _).alloc (Nat.le_refl _) _⟩
theorem is_none (w : World) (p : Nat) (s : St) (h : Tk w 47 p s) :
    Calls Try.prog 24 #[.pointer (some ⟨p, 0, none⟩), .slice none 0 0] w fun e w' => e = .returned (.bool false) ∧ w = w' :=
  is_any w p s h none 0 0 [] rfl (by omega) (fun h0 => by simp at h0) false (by simp)

theorem any_any (w : World) (a b c : Int) (r : Bool) (hr : decide (¬ (a = 0 ∧ b = 0 ∧ c = 0)) = r) :
    Calls Try.prog 26 #[.agg #[.int .i64 a, .int .i64 b, .int .i64 c]] w fun e w' => e = .returned (.bool r) ∧ Below w.heap.size w w' := by
  go_enter Try.func26, Try.ntmps26
  go_wp2
  all_goals
    go_ret
    exact ⟨by rw [← hr]; simp [*], (Below.refl _ _).alloc (Nat.le_refl _) _⟩
end Go.Proofs.Ytjiiopnlcohilaa
