/- The document's own rows (detentref3): Front, Before, Back. -/
import Derived.Test.YtmfjhckacmdijaaRefC
namespace Go.Proofs.Ytmfjhckacmdijaa
open Go.RowKit

set_option maxHeartbeats 800000 in
theorem rfront_ok (q r m N H h x : Nat) (R : Nat → List Nat) (w : World) (hl : Rf w q r m N H R) (hwf : Wf N H R) (hN : N ≤ 1024) (hH : H ≤ 64) (hm : m < w.heap.size) (hh : h < H) (hx : x < N) (hi : ¬ Inn H R x) :
    Calls Try.prog 15 #[.pointer (some ⟨q, 0, none⟩), .int .i64 (h : Int), .int .i64 (x : Int)] w (DidR q r m N H (setR R h (x :: R h)) 0 w) := by
  have HK0 := Lib.hid (rhead_any q r m N H h R w hl true (by simp; omega))
  have HK1 := Lib.hid (rnode_any q r m N H x R w hl true (by simp; omega))
  have HK2 := Lib.hid (rof_any q r m N H x R w hl hH (fun k hk => by have := hwf.len k hk; omega) _ _ (ofAt_no hi))
  have HK3 := Lib.hid (put_ok q r m N H h x R w hl hm hh hH [] (R h) rfl (by have := hwf.len h hh; omega) 0 rfl)
  clear hi hwf hl
  go_enter Try.func15, Try.ntmps15
  go_wp2_with fail
  refine HK0.out.mono ?_
  rintro e wx ⟨rfl, rfl⟩
  go_wp2_with fail
  refine HK1.out.mono ?_
  rintro e wx ⟨rfl, rfl⟩
  go_wp2_with fail
  refine HK2.out.mono ?_
  rintro e wx ⟨rfl, rfl⟩
  go_wp2_with fail
  refine HK3.out.mono ?_
  rintro e w1 ⟨rfl, hl1, ho1⟩
  go_wp2
  go_ret
  exact ⟨rfl, hl1, ho1⟩

set_option maxHeartbeats 800000 in
theorem rfront_bad (q r m N H : Nat) (h x : Int) (R : Nat → List Nat) (w : World) (hl : Rf w q r m N H R) (hwf : Wf N H R) (hN : N ≤ 1024) (hH : H ≤ 64) (c : Int) (hc : AddSpec N H R h [x] c) (hc0 : (c != 0) = true) :
    Calls Try.prog 15 #[.pointer (some ⟨q, 0, none⟩), .int .i64 h, .int .i64 x] w (DidR q r m N H R c w) := by
  rcases hc with ⟨h1, rfl⟩ | ⟨h1, ⟨n, hn, h2⟩, rfl⟩ | ⟨h1, h2, h3, rfl⟩ | ⟨_, rfl⟩
  · have HK0 := Lib.hid (rhead_any q r m N H h R w hl false (by simpa using h1))
    clear h1
    go_enter Try.func15, Try.ntmps15
    go_wp2_with fail
    refine HK0.out.mono ?_
    rintro e wx ⟨rfl, rfl⟩
    go_wp2
    go_ret
    exact ⟨rfl, hl, Only.refl _ _ _⟩
  · obtain rfl : n = x := by simpa using hn
    have HK0 := Lib.hid (rhead_any q r m N H h R w hl true (by simpa using h1))
    have HK1 := Lib.hid (rnode_any q r m N H n R w hl false (by simpa using h2))
    clear h1 h2 hn
    go_enter Try.func15, Try.ntmps15
    go_wp2_with fail
    refine HK0.out.mono ?_
    rintro e wx ⟨rfl, rfl⟩
    go_wp2_with fail
    refine HK1.out.mono ?_
    rintro e wx ⟨rfl, rfl⟩
    go_wp2
    go_ret
    exact ⟨rfl, hl, Only.refl _ _ _⟩
  · have hx := h2 x (by simp)
    obtain ⟨y, rfl⟩ : ∃ y : Nat, x = y := ⟨x.toNat, by omega⟩
    have hi : Inn H R y := by
      rcases h3 with ⟨n, hn, h4⟩ | h4
      · obtain rfl : n = (y : Int) := by simpa using hn
        simpa using h4
      · simp at h4
    obtain ⟨k, L1, L2, hk, hR⟩ := inn_part hi
    have HK0 := Lib.hid (rhead_any q r m N H h R w hl true (by simpa using h1))
    have HK1 := Lib.hid (rnode_any q r m N H y R w hl true (by simp; omega))
    have HK2 := Lib.hid (rof_any q r m N H y R w hl hH (fun k hk => by have := hwf.len k hk; omega) _ _ (ofAt_mem hwf hk hR))
    have ik : (0 : Int) ≤ (k : Int) := by omega
    clear h1 h2 h3 hi hR hx
    go_enter Try.func15, Try.ntmps15
    go_wp2_with fail
    refine HK0.out.mono ?_
    rintro e wx ⟨rfl, rfl⟩
    go_wp2_with fail
    refine HK1.out.mono ?_
    rintro e wx ⟨rfl, rfl⟩
    go_wp2_with fail
    refine HK2.out.mono ?_
    rintro e wx ⟨rfl, rfl⟩
    go_wp2
    go_ret
    exact ⟨rfl, hl, Only.refl _ _ _⟩
  · simp at hc0

set_option maxHeartbeats 800000 in
theorem rbefore_par (q r m N H : Nat) (x a : Int) (R : Nat → List Nat) (w : World) (hl : Rf w q r m N H R) (hx : ¬ ((0 ≤ x ∧ x < N) ∧ (0 ≤ a ∧ a < N))) :
    Calls Try.prog 17 #[.pointer (some ⟨q, 0, none⟩), .int .i64 x, .int .i64 a] w (DidR q r m N H R (-17) w) := by
  by_cases h1 : 0 ≤ x ∧ x < N
  · have h2 : ¬ (0 ≤ a ∧ a < N) := fun h => hx ⟨h1, h⟩
    have HK0 := Lib.hid (rnode_any q r m N H x R w hl true (by simpa using h1))
    have HK1 := Lib.hid (rnode_any q r m N H a R w hl false (by simpa using h2))
    clear hx h1 h2
    go_enter Try.func17, Try.ntmps17
    go_wp2_with fail
    refine HK0.out.mono ?_
    rintro e wx ⟨rfl, rfl⟩
    go_wp2_with fail
    refine HK1.out.mono ?_
    rintro e wx ⟨rfl, rfl⟩
    go_wp2
    go_ret
    exact ⟨rfl, hl, Only.refl _ _ _⟩
  · have HK0 := Lib.hid (rnode_any q r m N H x R w hl false (by simpa using h1))
    clear hx h1
    go_enter Try.func17, Try.ntmps17
    go_wp2_with fail
    refine HK0.out.mono ?_
    rintro e wx ⟨rfl, rfl⟩
    go_wp2
    go_ret
    exact ⟨rfl, hl, Only.refl _ _ _⟩

/-- where a node is, or -1, in one pair of numbers -/
theorem ofAt_any {N H : Nat} {R : Nat → List Nat} (hw : Wf N H R) (x : Nat) : ∃ a b : Int, OfAt H R (x : Int) a b ∧ (Inn H R x → 0 ≤ a) ∧ (¬ Inn H R x → a = -1) := by
  by_cases h : Inn H R x
  · obtain ⟨k, L1, L2, hk, hR⟩ := inn_part h
    exact ⟨_, _, ofAt_mem hw hk hR, fun _ => by omega, fun g => absurd h g⟩
  · exact ⟨_, _, ofAt_no h, fun g => absurd g h, fun _ => rfl⟩

set_option maxHeartbeats 800000 in
theorem rbefore_obj (q r m N H x a : Nat) (R : Nat → List Nat) (w : World) (hl : Rf w q r m N H R) (hwf : Wf N H R) (hN : N ≤ 1024) (hH : H ≤ 64) (hx : x < N) (ha : a < N) (hi : ¬ (Inn H R a ∧ ¬ Inn H R x)) :
    Calls Try.prog 17 #[.pointer (some ⟨q, 0, none⟩), .int .i64 (x : Int), .int .i64 (a : Int)] w (DidR q r m N H R (-41) w) := by
  have HK0 := Lib.hid (rnode_any q r m N H x R w hl true (by simp; omega))
  have HK1 := Lib.hid (rnode_any q r m N H a R w hl true (by simp; omega))
  obtain ⟨a1, a2, ha1, ha2, ha3⟩ := ofAt_any hwf a
  obtain ⟨x1, x2, hx1, hx2, hx3⟩ := ofAt_any hwf x
  have HK2 := Lib.hid (rof_any q r m N H a R w hl hH (fun k hk => by have := hwf.len k hk; omega) _ _ ha1)
  have HK3 := Lib.hid (rof_any q r m N H x R w hl hH (fun k hk => by have := hwf.len k hk; omega) _ _ hx1)
  clear ha1 hx1
  by_cases h1 : Inn H R a
  · have h2 : Inn H R x := Classical.byContradiction fun h => hi ⟨h1, h⟩
    have i1 := ha2 h1
    have i2 := hx2 h2
    have t1 : decide (a1 < 0) = false := by simp; omega
    clear hi h1 h2 ha2 ha3 hx2 hx3
    go_enter Try.func17, Try.ntmps17
    go_wp2_with fail
    refine HK0.out.mono ?_
    rintro e wx ⟨rfl, rfl⟩
    go_wp2_with fail
    refine HK1.out.mono ?_
    rintro e wx ⟨rfl, rfl⟩
    go_wp2_with fail
    refine HK2.out.mono ?_
    rintro e wx ⟨rfl, rfl⟩
    go_wp2_with fail
    refine HK3.out.mono ?_
    rintro e wx ⟨rfl, rfl⟩
    go_wp2
    go_ret
    exact ⟨rfl, hl, Only.refl _ _ _⟩
  · have i1 := ha3 h1
    clear hi h1 ha2 ha3 hx2 hx3
    subst i1
    go_enter Try.func17, Try.ntmps17
    go_wp2_with fail
    refine HK0.out.mono ?_
    rintro e wx ⟨rfl, rfl⟩
    go_wp2_with fail
    refine HK1.out.mono ?_
    rintro e wx ⟨rfl, rfl⟩
    go_wp2_with fail
    refine HK2.out.mono ?_
    rintro e wx ⟨rfl, rfl⟩
    go_wp2_with fail
    refine HK3.out.mono ?_
    rintro e wx ⟨rfl, rfl⟩
    go_wp2
    go_ret
    exact ⟨rfl, hl, Only.refl _ _ _⟩

set_option maxHeartbeats 800000 in
theorem rbefore_ok (q r m N H x a h : Nat) (R : Nat → List Nat) (w : World) (hl : Rf w q r m N H R) (hwf : Wf N H R) (hN : N ≤ 1024) (hH : H ≤ 64) (hm : m < w.heap.size) (hx : x < N) (hh : h < H) (L1 L2 : List Nat) (hR : R h = L1 ++ a :: L2) (hi : ¬ Inn H R x) :
    Calls Try.prog 17 #[.pointer (some ⟨q, 0, none⟩), .int .i64 (x : Int), .int .i64 (a : Int)] w (DidR q r m N H (setR R h (L1 ++ x :: a :: L2)) 0 w) := by
  have ha : a < N := hwf.lt h a hh (by rw [hR]; simp)
  have HK0 := Lib.hid (rnode_any q r m N H x R w hl true (by simp; omega))
  have HK1 := Lib.hid (rnode_any q r m N H a R w hl true (by simp; omega))
  have HK2 := Lib.hid (rof_any q r m N H a R w hl hH (fun k hk => by have := hwf.len k hk; omega) _ _ (ofAt_mem hwf hh hR))
  have HK3 := Lib.hid (rof_any q r m N H x R w hl hH (fun k hk => by have := hwf.len k hk; omega) _ _ (ofAt_no hi))
  have HK4 := Lib.hid (put_ok q r m N H h x R w hl hm hh hH L1 (a :: L2) hR (by have := hwf.len h hh; omega) _ rfl)
  have t1 : decide ((h : Int) < 0) = false := by simp
  clear hi hwf hl hR
  go_enter Try.func17, Try.ntmps17
  go_wp2_with fail
  refine HK0.out.mono ?_
  rintro e wx ⟨rfl, rfl⟩
  go_wp2_with fail
  refine HK1.out.mono ?_
  rintro e wx ⟨rfl, rfl⟩
  go_wp2_with fail
  refine HK2.out.mono ?_
  rintro e wx ⟨rfl, rfl⟩
  go_wp2_with fail
  refine HK3.out.mono ?_
  rintro e wx ⟨rfl, rfl⟩
  go_wp2_with fail
  refine HK4.out.mono ?_
  rintro e w1 ⟨rfl, hl1, ho1⟩
  go_wp2
  go_ret
  exact ⟨rfl, hl1, ho1⟩
end Go.Proofs.Ytmfjhckacmdijaa
