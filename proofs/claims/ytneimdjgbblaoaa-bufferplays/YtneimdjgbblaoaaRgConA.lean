/- Contracts of package arena: New, open, openWord, Cost, Size. -/
import Derived.Test.YtneimdjgbblaoaaRows
import Derived.Test.YtneimdjgbblaoaaRgMem
import Derived.WalkKit
import Derived.WalkSpells
import Derived.WalkLawsBesides
import Derived.Lib.Hide
import Derived.OwnWalk
namespace Go.Proofs.Ytneimdjgbblaoaa.R
open Go.RowKit
set_option maxRecDepth 100000
variable {X : TypeId × List Value}

theorem info5 : (Try.prog.info? 5).map (fun i => (i.zero, i.size, i.bytes)) = some (some (.int .u8 0), 1, 1) := by kernel_rfl
theorem size5 : (Try.prog.info? 5).map (·.size) = some 1 := by kernel_rfl

theorem run_make_bytes (n : Nat) (hn : n ≤ 65536) (W : World) :
    (Instr.makeSlice 31 (.int .i64 (n : Int)) (.int .i64 (n : Int))).run Try.prog W = .ok (.slice (some ⟨W.heap.size, 0, none⟩) n n) (W.alloc (.cells (madeCells #[.int .u8 0] n) 5)) := by
  obtain ⟨i0, hi0, hz0, hz1, hz2⟩ := info_parts info5
  have h := run_make (P := Try.prog) W 31 5 i0 _ Try.underlying31 hi0 hz0 .i64 .i64 n n (by omega) (by omega) (by rw [hz2]; omega) (by omega)
  simpa [hz1, Value.cells] using h

theorem row_made (W : World) (n : Nat) : Row (W.alloc (.cells (madeCells #[.int .u8 0] n) 5)) W.heap.size n (fun _ => 0) := by
  refine ⟨_, heap_alloc_new W _, fun i hi => ⟨?_, by simp, by simp⟩⟩
  rw [← Array.getElem?_toList, toList_madeCells_one, List.getElem?_replicate, if_pos hi]

/-- New's answer: a new arena. -/
def Made (n : Nat) (w : World) (e : Ending) (w' : World) : Prop :=
  ∃ p m : Nat, w.heap.size ≤ p ∧ w.heap.size ≤ m ∧ e = .returned (.tuple #[.pointer (some ⟨p, 0, none⟩), .int .i64 0]) ∧ Ar (111, []) w' p m n 0 (fun _ => 0) ∧ Below w.heap.size w w'

set_option maxHeartbeats 400000 in
theorem new_ok (n : Nat) (hn : n ≤ 65536) (w : World) : Calls Try.prog 63 #[.int .i64 (n : Int)] w (Made n w) := by
  have h1 : decide ((n : Int) < 0) = false := by simp
  have h2 : decide ((65536 : Int) < (n : Int)) = false := by simp; omega
  have hmk := run_make_bytes n hn
  go_enter Try.func63, Try.ntmps63
  go_wp2
  go_ret2
  refine ⟨w.heap.size + 1, w.heap.size, by omega, by omega, rfl, ⟨by decide, ⟨n, ?_, by omega, by omega⟩, (row_made w n).alloc _⟩, ((Below.refl _ _).alloc (Nat.le_refl _) _).alloc (by simp) _⟩
  exact heap_alloc2_new w _ _

set_option maxHeartbeats 400000 in
theorem new_bad (z : Int) (hz : z < 0 ∨ 65536 < z) (w : World) : Calls Try.prog 63 #[.int .i64 z] w fun e w' => e = .returned (.tuple #[.pointer none, .int .i64 (-17)]) ∧ w = w' := by
  by_cases h1 : z < 0
  · go_enter Try.func63, Try.ntmps63
    go_wp2
    go_ret2
    exact ⟨rfl, rfl⟩
  · have h2 : (65536 : Int) < z := by omega
    have h3 : decide (z < 0) = false := by simpa using h1
    clear hz
    go_enter Try.func63, Try.ntmps63
    go_wp2
    go_ret2
    exact ⟨rfl, rfl⟩

set_option maxHeartbeats 400000 in
theorem size_any (p m n : Nat) (c : Int) (f : Nat → Int) (w : World) (h : Ar X w p m n c f) : Calls Try.prog 80 #[.pointer (some ⟨p, 0, none⟩)] w fun e w' => e = .returned (.int .i64 n) ∧ w = w' := by
  obtain ⟨k, h0, h1, hf, _, _⟩ := h.cells
  go_enter Try.func80, Try.ntmps80
  go_wp2
  go_ret
  exact ⟨rfl, rfl⟩

/-- open's answer: a slice of k bytes that lies at 'at_'. -/
def Opened (p m a k : Nat) (c : Int) (w : World) (e : Ending) (w' : World) : Prop :=
  ∃ (A : Option Addr) (j : Nat), (0 < k → A = some ⟨m, a, none⟩) ∧ k ≤ j ∧ j ≤ 9223372036854775807 ∧ e = .returned (.tuple #[.slice A k j, .int .i64 0]) ∧ w' = w.setCell ⟨p, 1, none⟩ (.int .i64 (c + k))

set_option maxHeartbeats 400000 in
theorem open_ok (p m n a k : Nat) (c : Int) (f : Nat → Int) (w : World) (h : Ar X w p m n c f) (hk : a + k ≤ n) (hn : n ≤ 65536) (hc0 : 0 ≤ c) (hc1 : c ≤ 1000000000000) :
    Calls Try.prog 87 #[.pointer (some ⟨p, 0, none⟩), .int .i64 (a : Int), .int .i64 (k : Int)] w (Opened p m a k c w) := by
  obtain ⟨j, h0, h1, hf, hj1, hj2⟩ := h.cells
  have t1 : decide ((a : Int) < 0) = false := by simp
  have t2 : decide ((n : Int) < (a : Int)) = false := by simp; omega
  have t2' : decide (n < a) = false := by simp; omega
  have t3 : decide ((k : Int) < 0) = false := by simp
  have t4 : decide ((n : Int) - (a : Int) < (k : Int)) = false := by simp; omega
  go_enter Try.func87, Try.ntmps87
  go_wp2
  · go_ret2
    exact ⟨some ⟨m, 0, none⟩, 0, fun _ => by omega, by omega, by omega, rfl, rfl⟩
  · go_ret2
    exact ⟨some ⟨m, a, none⟩, j - a, fun _ => rfl, by omega, by omega, rfl, rfl⟩

set_option maxHeartbeats 400000 in
theorem openWord_ok (p m n a : Nat) (c : Int) (f : Nat → Int) (w : World) (h : Ar X w p m n c f) (h4 : a % 4 = 0) (hk : a + 4 ≤ n) (hn : n ≤ 65536) (hc0 : 0 ≤ c) (hc1 : c ≤ 1000000000000) :
    Calls Try.prog 82 #[.pointer (some ⟨p, 0, none⟩), .int .i64 (a : Int)] w (Opened p m a 4 c w) := by
  have t1 : ((a : Int) % 4 != 0) = false := by simp; omega
  have t2 : ((a : Int) % 4 == 0) = true := by simp; omega
  have HO := Lib.hid (open_ok p m n a 4 c f w h hk hn hc0 hc1)
  clear h h4
  go_enter Try.func82, Try.ntmps82
  go_wp2_with fail
  refine HO.out.mono ?_
  rintro e w' ⟨A, j, hA, hj, hj2, rfl, rfl⟩
  obtain rfl := hA (by omega)
  clear hA
  go_wp2
  go_ret2
  exact ⟨some ⟨m, a, none⟩, j, fun _ => rfl, hj, hj2, rfl, rfl⟩

/-- the same, the world a variable -/
def OpenedV (X : TypeId × List Value) (p m n a k : Nat) (c : Int) (f : Nat → Int) (w : World) (e : Ending) (w' : World) : Prop :=
  ∃ (A : Option Addr) (j : Nat), (0 < k → A = some ⟨m, a, none⟩) ∧ k ≤ j ∧ j ≤ 9223372036854775807 ∧ e = .returned (.tuple #[.slice A k j, .int .i64 0]) ∧ Ar X w' p m n (c + k) f ∧ Only p p w w'
theorem Opened.v {p m n a k : Nat} {c : Int} {f : Nat → Int} {w : World} {e : Ending} {w' : World} (h : Ar X w p m n c f) (ho : Opened p m a k c w e w') : OpenedV X p m n a k c f w e w' := by
  obtain ⟨A, j, h1, h2, h3, h4, rfl⟩ := ho
  exact ⟨A, j, h1, h2, h3, h4, h.cost _, (Only.refl p p w).setCell (q := ⟨p, 1, none⟩) (.inl rfl) _⟩
theorem open_okv (p m n a k : Nat) (c : Int) (f : Nat → Int) (w : World) (h : Ar X w p m n c f) (hk : a + k ≤ n) (hn : n ≤ 65536) (hc0 : 0 ≤ c) (hc1 : c ≤ 1000000000000) :
    Calls Try.prog 87 #[.pointer (some ⟨p, 0, none⟩), .int .i64 (a : Int), .int .i64 (k : Int)] w (OpenedV X p m n a k c f w) :=
  (open_ok p m n a k c f w h hk hn hc0 hc1).mono fun _ _ ho => ho.v h
theorem openWord_okv (p m n a : Nat) (c : Int) (f : Nat → Int) (w : World) (h : Ar X w p m n c f) (h4 : a % 4 = 0) (hk : a + 4 ≤ n) (hn : n ≤ 65536) (hc0 : 0 ≤ c) (hc1 : c ≤ 1000000000000) :
    Calls Try.prog 82 #[.pointer (some ⟨p, 0, none⟩), .int .i64 (a : Int)] w (OpenedV X p m n a 4 c f w) :=
  (openWord_ok p m n a c f w h h4 hk hn hc0 hc1).mono fun _ _ ho => ho.v h
end Go.Proofs.Ytneimdjgbblaoaa.R
