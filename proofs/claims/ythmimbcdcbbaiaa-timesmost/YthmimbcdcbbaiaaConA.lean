/- Contracts of package nums' plain functions: each returns what its definition says, and leaves the world alone. -/
import Derived.Test.YthmimbcdcbbaiaaRows
import Derived.Test.YthmimbcdcbbaiaaMath
import Derived.WalkKit
import Derived.WalkSpells
import Derived.WalkLawsBesides
import Derived.Lib.Hide
namespace Go.Proofs.Ythmimbcdcbbaiaa
open Go.RowKit

theorem ret_int {k : IntKind} {a b : Int} (h : a = b) : Ending.returned (.int k a) = .returned (.int k b) := by rw [h]

set_option maxHeartbeats 400000 in
theorem add_any (t d r : Int) (h : M.addZ t d = r) (w : World) :
    Calls Try.prog 12 #[.int .u64 t, .int .u64 d] w fun e w' => e = .returned (.int .u64 r) ∧ w = w' := by
  subst h
  go_enter Try.func12, Try.ntmps12
  go_wp2
  go_ret
  exact ⟨ret_int (M.add_form t d), rfl⟩

set_option maxHeartbeats 400000 in
theorem gap_any (a b r : Int) (h : M.gapZ a b = r) (w : World) :
    Calls Try.prog 13 #[.int .u64 a, .int .u64 b] w fun e w' => e = .returned (.int .i64 r) ∧ w = w' := by
  subst h
  go_enter Try.func13, Try.ntmps13
  go_wp2
  go_ret
  exact ⟨ret_int (M.gap_form a b), rfl⟩

set_option maxHeartbeats 400000 in
theorem due_any (a b : Int) (r : Bool) (h : M.dueB a b = r) (w : World) :
    Calls Try.prog 16 #[.int .u64 a, .int .u64 b] w fun e w' => e = .returned (.bool r) ∧ w = w' := by
  subst h
  go_enter Try.func16, Try.ntmps16
  go_wp2_with (go_at_call 13; refine (gap_any _ _ _ rfl _).mono ?_; rintro e w' ⟨rfl, rfl⟩)
  go_ret
  exact ⟨rfl, rfl⟩

set_option maxHeartbeats 400000 in
theorem rel_ok (d : Int) (h0 : 0 ≤ d) (h1 : d ≤ 2147483647) (w : World) :
    Calls Try.prog 17 #[.int .i64 d] w fun e w' => e = .returned (.tuple #[.int .u64 d, .int .i64 0]) ∧ w = w' := by
  go_enter Try.func17, Try.ntmps17
  go_wp2
  go_ret2
  exact ⟨rfl, rfl⟩

set_option maxHeartbeats 400000 in
theorem rel_low (d : Int) (h0 : d < 0) (w : World) :
    Calls Try.prog 17 #[.int .i64 d] w fun e w' => e = .returned (.tuple #[.int .u64 0, .int .i64 (-17)]) ∧ w = w' := by
  go_enter Try.func17, Try.ntmps17
  go_wp2
  go_ret2
  exact ⟨rfl, rfl⟩

set_option maxHeartbeats 400000 in
theorem rel_high (d : Int) (h0 : 2147483647 < d) (w : World) :
    Calls Try.prog 17 #[.int .i64 d] w fun e w' => e = .returned (.tuple #[.int .u64 0, .int .i64 (-17)]) ∧ w = w' := by
  go_enter Try.func17, Try.ntmps17
  go_wp2
  go_ret2
  exact ⟨rfl, rfl⟩

set_option maxHeartbeats 400000 in
theorem ticks_0 (a : Int) (w : World) :
    Calls Try.prog 19 #[.int .u64 a, .int .u64 0] w fun e w' => e = .returned (.int .u64 0) ∧ w = w' := by
  go_enter Try.func19, Try.ntmps19
  go_wp2
  go_ret
  exact ⟨rfl, rfl⟩
set_option maxHeartbeats 400000 in
theorem ticks_x (a b : Int) (h0 : (b == 0) = false) (h1 : ¬ b = 0) (h2 : (a.tmod b != 0) = false) (w : World) :
    Calls Try.prog 19 #[.int .u64 a, .int .u64 b] w fun e w' => e = .returned (.int .u64 (IntKind.u64.wrap (a.tdiv b))) ∧ w = w' := by
  go_enter Try.func19, Try.ntmps19
  go_wp2
  go_ret
  exact ⟨rfl, rfl⟩
set_option maxHeartbeats 400000 in
theorem ticks_y (a b : Int) (h0 : (b == 0) = false) (h1 : ¬ b = 0) (h2 : (a.tmod b != 0) = true) (w : World) :
    Calls Try.prog 19 #[.int .u64 a, .int .u64 b] w fun e w' => e = .returned (.int .u64 (IntKind.u64.wrap (IntKind.u64.wrap (a.tdiv b) + 1))) ∧ w = w' := by
  go_enter Try.func19, Try.ntmps19
  go_wp2
  go_ret
  exact ⟨rfl, rfl⟩
theorem ticks_any (a b r : Int) (h0 : 0 ≤ a) (h1 : a ≤ 18446744073709551615) (hb : 0 ≤ b) (h : M.ticksZ a b = r) (w : World) :
    Calls Try.prog 19 #[.int .u64 a, .int .u64 b] w fun e w' => e = .returned (.int .u64 r) ∧ w = w' := by
  subst h
  by_cases c : b = 0
  · subst c; rw [M.ticks_zero]; exact ticks_0 a w
  · by_cases c2 : a.tmod b = 0
    · rw [← M.ticks_even a b h0 h1 (by omega) c2]; exact ticks_x a b (by simpa using c) c (by simpa using c2) w
    · rw [← M.ticks_odd a b h0 h1 (by omega) c2]; exact ticks_y a b (by simpa using c) c (by simpa using c2) w

set_option maxHeartbeats 400000 in
theorem rticks_0 (a : Int) (w : World) :
    Calls Try.prog 21 #[.int .u64 a, .int .u64 0] w fun e w' => e = .returned (.int .u64 0) ∧ w = w' := by
  go_enter Try.func21, Try.ntmps21
  go_wp2
  go_ret
  exact ⟨rfl, rfl⟩
set_option maxHeartbeats 400000 in
theorem rticks_x (a b : Int) (h0 : (b == 0) = false) (h1 : ¬ b = 0) (h2 : decide (0 < a.tmod b) = false) (w : World) :
    Calls Try.prog 21 #[.int .u64 a, .int .u64 b] w fun e w' => e = .returned (.int .u64 (IntKind.u64.wrap (a.tdiv b))) ∧ w = w' := by
  go_enter Try.func21, Try.ntmps21
  go_wp2
  go_ret
  exact ⟨rfl, rfl⟩
set_option maxHeartbeats 400000 in
theorem rticks_y (a b : Int) (h0 : (b == 0) = false) (h1 : ¬ b = 0) (h2 : decide (0 < a.tmod b) = true) (w : World) :
    Calls Try.prog 21 #[.int .u64 a, .int .u64 b] w fun e w' => e = .returned (.int .u64 (IntKind.u64.wrap (IntKind.u64.wrap (a.tdiv b) + 1))) ∧ w = w' := by
  go_enter Try.func21, Try.ntmps21
  go_wp2
  go_ret
  exact ⟨rfl, rfl⟩
theorem rticks_any (a b r : Int) (h0 : 0 ≤ a) (h1 : a ≤ 18446744073709551615) (hb : 0 ≤ b) (h : M.ticksZ a b = r) (w : World) :
    Calls Try.prog 21 #[.int .u64 a, .int .u64 b] w fun e w' => e = .returned (.int .u64 r) ∧ w = w' := by
  subst h
  by_cases c : b = 0
  · subst c; rw [M.ticks_zero]; exact rticks_0 a w
  · have hn : 0 ≤ a.tmod b := by rw [Int.tmod_eq_emod_of_nonneg h0]; exact Int.emod_nonneg _ c
    by_cases c2 : a.tmod b = 0
    · rw [← M.ticks_even a b h0 h1 (by omega) c2]; exact rticks_x a b (by simpa using c) c (by simp; omega) w
    · rw [← M.ticks_odd a b h0 h1 (by omega) c2]; exact rticks_y a b (by simpa using c) c (by simp; omega) w

set_option maxHeartbeats 400000 in
theorem align_in (n a : Int) (h0 : 0 ≤ n) (h1 : n ≤ 1073741824) (h2 : 1 ≤ a) (h3 : a ≤ 4096) (w : World) :
    Calls Try.prog 20 #[.int .i64 n, .int .i64 a] w fun e w' => e = .returned (.int .i64 (M.alignZ n a)) ∧ w = w' := by
  have key := M.align_form n a h0 h1 h2 h3
  have K := Lib.hid key
  clear key
  go_enter Try.func20, Try.ntmps20
  go_wp2
  go_ret
  exact ⟨ret_int K.out, rfl⟩
set_option maxHeartbeats 400000 in
theorem align_out (n a : Int) (h0 : n < 0 ∨ 1073741824 < n ∨ a < 1 ∨ 4096 < a) (w : World) :
    Calls Try.prog 20 #[.int .i64 n, .int .i64 a] w fun e w' => e = .returned (.int .i64 n) ∧ w = w' := by
  by_cases c1 : n < 0
  · go_enter Try.func20, Try.ntmps20
    go_wp2
    go_ret
    exact ⟨rfl, rfl⟩
  · by_cases c2 : 1073741824 < n
    · go_enter Try.func20, Try.ntmps20
      go_wp2
      go_ret
      exact ⟨rfl, rfl⟩
    · by_cases c3 : a < 1
      · go_enter Try.func20, Try.ntmps20
        go_wp2
        go_ret
        exact ⟨rfl, rfl⟩
      · have c4 : 4096 < a := by omega
        go_enter Try.func20, Try.ntmps20
        go_wp2
        go_ret
        exact ⟨rfl, rfl⟩
theorem align_any (n a r : Int) (h : M.alignZ n a = r) (w : World) :
    Calls Try.prog 20 #[.int .i64 n, .int .i64 a] w fun e w' => e = .returned (.int .i64 r) ∧ w = w' := by
  subst h
  by_cases c : n < 0 ∨ 1073741824 < n ∨ a < 1 ∨ 4096 < a
  · rw [M.align_out n a c]; exact align_out n a c w
  · exact align_in n a (by omega) (by omega) (by omega) (by omega) w
set_option maxHeartbeats 400000 in
theorem ralign_x (n a : Int) (h0 : 0 ≤ n) (h1 : n ≤ 1073741824) (h2 : 1 ≤ a) (h3 : a ≤ 4096) (hm : (n % a == 0) = true) (w : World) :
    Calls Try.prog 22 #[.int .i64 n, .int .i64 a] w fun e w' => e = .returned (.int .i64 n) ∧ w = w' := by
  go_enter Try.func22, Try.ntmps22
  go_wp2
  go_ret
  exact ⟨rfl, rfl⟩
set_option maxHeartbeats 400000 in
theorem ralign_y (n a : Int) (h0 : 0 ≤ n) (h1 : n ≤ 1073741824) (h2 : 1 ≤ a) (h3 : a ≤ 4096) (hm : (n % a == 0) = false) (w : World) :
    Calls Try.prog 22 #[.int .i64 n, .int .i64 a] w fun e w' => e = .returned (.int .i64 (wrap64 (n + a - n % a))) ∧ w = w' := by
  go_enter Try.func22, Try.ntmps22
  go_wp2
  go_ret
  exact ⟨rfl, rfl⟩
set_option maxHeartbeats 400000 in
theorem ralign_out (n a : Int) (h0 : n < 0 ∨ 1073741824 < n ∨ a < 1 ∨ 4096 < a) (w : World) :
    Calls Try.prog 22 #[.int .i64 n, .int .i64 a] w fun e w' => e = .returned (.int .i64 n) ∧ w = w' := by
  by_cases c1 : n < 0
  · go_enter Try.func22, Try.ntmps22
    go_wp2
    go_ret
    exact ⟨rfl, rfl⟩
  · by_cases c2 : 1073741824 < n
    · go_enter Try.func22, Try.ntmps22
      go_wp2
      go_ret
      exact ⟨rfl, rfl⟩
    · by_cases c3 : a < 1
      · go_enter Try.func22, Try.ntmps22
        go_wp2
        go_ret
        exact ⟨rfl, rfl⟩
      · have c4 : 4096 < a := by omega
        go_enter Try.func22, Try.ntmps22
        go_wp2
        go_ret
        exact ⟨rfl, rfl⟩
theorem ralign_any (n a r : Int) (h : M.alignZ n a = r) (w : World) :
    Calls Try.prog 22 #[.int .i64 n, .int .i64 a] w fun e w' => e = .returned (.int .i64 r) ∧ w = w' := by
  subst h
  by_cases c : n < 0 ∨ 1073741824 < n ∨ a < 1 ∨ 4096 < a
  · rw [M.align_out n a c]; exact ralign_out n a c w
  · have h0 : 0 ≤ n := by omega
    have h1 : n ≤ 1073741824 := by omega
    have h2 : 1 ≤ a := by omega
    have h3 : a ≤ 4096 := by omega
    by_cases m : n % a = 0
    · rw [← M.align_ref0 n a h0 h1 h2 h3 m]; exact ralign_x n a h0 h1 h2 h3 (by simpa using m) w
    · rw [← M.align_ref1 n a h0 h1 h2 h3 m]; exact ralign_y n a h0 h1 h2 h3 (by simpa using m) w

set_option maxHeartbeats 400000 in
theorem radd_any (t d r : Int) (h0 : 0 ≤ t) (h1 : 0 ≤ d) (h : M.addZ t d = r) (w : World) :
    Calls Try.prog 14 #[.int .u64 t, .int .u64 d] w fun e w' => e = .returned (.int .u64 r) ∧ w = w' := by
  subst h
  go_enter Try.func14, Try.ntmps14
  go_wp2
  go_ret
  exact ⟨ret_int (M.radd_form t d), rfl⟩
set_option maxHeartbeats 400000 in
theorem rgap_any (t d r : Int) (h0 : 0 ≤ t) (h1 : 0 ≤ d) (h : M.gapZ t d = r) (w : World) :
    Calls Try.prog 15 #[.int .u64 t, .int .u64 d] w fun e w' => e = .returned (.int .i64 r) ∧ w = w' := by
  subst h
  go_enter Try.func15, Try.ntmps15
  go_wp2
  · go_ret
    exact ⟨ret_int (M.rgap_high t d (by assumption)), rfl⟩
  · go_ret
    exact ⟨ret_int (M.rgap_low t d (by assumption)), rfl⟩
set_option maxHeartbeats 400000 in
theorem rrel_ok (d : Int) (h0 : 0 ≤ d) (h1 : d ≤ 2147483647) (w : World) :
    Calls Try.prog 18 #[.int .i64 d] w fun e w' => e = .returned (.tuple #[.int .u64 d, .int .i64 0]) ∧ w = w' := by
  go_enter Try.func18, Try.ntmps18
  go_wp2
  go_ret2
  exact ⟨rfl, rfl⟩
set_option maxHeartbeats 400000 in
theorem rrel_low (d : Int) (h0 : d < 0) (w : World) :
    Calls Try.prog 18 #[.int .i64 d] w fun e w' => e = .returned (.tuple #[.int .u64 0, .int .i64 (-17)]) ∧ w = w' := by
  go_enter Try.func18, Try.ntmps18
  go_wp2
  go_ret2
  exact ⟨rfl, rfl⟩
set_option maxHeartbeats 400000 in
theorem rrel_high (d : Int) (h0 : 2147483647 < d) (w : World) :
    Calls Try.prog 18 #[.int .i64 d] w fun e w' => e = .returned (.tuple #[.int .u64 0, .int .i64 (-17)]) ∧ w = w' := by
  go_enter Try.func18, Try.ntmps18
  go_wp2
  go_ret2
  exact ⟨rfl, rfl⟩

end Go.Proofs.Ythmimbcdcbbaiaa
