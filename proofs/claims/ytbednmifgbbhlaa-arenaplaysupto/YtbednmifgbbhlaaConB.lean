/- Contracts of package arena: Read, Fill. -/
import Derived.Test.YtbednmifgbbhlaaConA
namespace Go.Proofs.Ytbednmifgbbhlaa
open Go.RowKit

def ReadPost (p m n a k : Nat) (c : Int) (f : Nat → Int) (w : World) (e : Ending) (w' : World) : Prop :=
  ∃ g : Nat, w.heap.size ≤ g ∧ e = .returned (.tuple #[.slice (some ⟨g, 0, none⟩) k k, .int .i64 0]) ∧ Ar w' p m n (c + k) f ∧ Row w' g k (fun j => f (a + j)) ∧ Only p p w w'

theorem read_end {p m n a k : Nat} {c : Int} {f : Nat → Int} {w w1 w2 : World} (ha : Ar w1 p m n c f) (h1 : Only p p w w1)
    (hr : Row w2 w1.heap.size k (upd (fun _ => 0) 0 k (fun j => f (a + j)))) (h2 : Only w1.heap.size w1.heap.size (w1.alloc (.cells (madeCells #[.int .u8 0] k) 5)) w2) :
    Ar w2 p m n c f ∧ Row w2 w1.heap.size k (fun j => f (a + j)) ∧ Only p p w w2 := by
  have lp := ha.ltp; have lm := ha.ltm; have l1 := h1.size
  refine ⟨(ha.alloc _).only h2 (by omega) (by omega) (by omega) (by omega), hr.congr fun i hi => ?_, (h1.alloc _).of_new h2 (.inl l1) (.inl l1)⟩
  rw [upd_in _ _ _ _ _ (by omega) (by omega)]; simp

set_option maxHeartbeats 800000 in
theorem read_ok (p m n a k : Nat) (c : Int) (f : Nat → Int) (w : World) (h : Ar w p m n c f) (hk : a + k ≤ n) (hn : n ≤ 65536) (hc0 : 0 ≤ c) (hc1 : c ≤ 1000000000000) :
    Calls Try.prog 10 #[.pointer (some ⟨p, 0, none⟩), .int .i64 (a : Int), .int .i64 (k : Int)] w (ReadPost p m n a k c f w) := by
  have HO := Lib.hid (open_okv p m n a k c f w h hk hn hc0 hc1)
  have HM := Lib.hid (run_make_bytes k (by omega))
  clear h
  go_enter Try.func10, Try.ntmps10
  go_wp2_with fail
  refine HO.out.mono ?_
  rintro e w1 ⟨A, j, hA, hj, hj2, rfl, ha, ho⟩
  have hmk := HM.out
  go_wp2_with (with_reducible refine wpList_copy_bytes rfl _ _ _ _ rfl Try.underlying28 size5 _ _ _ _ _ _ rfl rfl w1.heap.size 0 k p (fun _ => 0) (fun j => f (a + j)) (row_made w1 k) (Nat.le_refl _) (fun _ => rfl) (by omega) ?c1 ?c2)
  case c1 =>
    intro hk0
    have hA' := hA hk0
    exact Src.of_row (ha.row.alloc _) (Ne.symm ha.ne) (Nat.ne_of_lt ha.ltm) a hk (fun _ _ => rfl) |> fun hs => by rw [hA']; exact hs hk0
  case c2 =>
    intro w2 hr2 ho2
    obtain ⟨q1, q2, q3⟩ := read_end (a := a) ha ho hr2 ho2
    have l1 := ho.size
    go_wp2
    go_ret2
    exact ⟨w1.heap.size, l1, rfl, q1, q2, q3⟩

set_option maxHeartbeats 800000 in
theorem read_bad (p m n : Nat) (a k : Int) (c : Int) (f : Nat → Int) (w : World) (h : Ar w p m n c f) (hk : ¬ (0 ≤ a ∧ 0 ≤ k ∧ a + k ≤ n)) :
    Calls Try.prog 10 #[.pointer (some ⟨p, 0, none⟩), .int .i64 a, .int .i64 k] w fun e w' => e = .returned (.tuple #[.slice none 0 0, .int .i64 (-17)]) ∧ w = w' := by
  have HO := Lib.hid (open_bad p m n a k c f w h hk)
  clear h hk
  go_enter Try.func10, Try.ntmps10
  go_wp2_with fail
  refine HO.out.mono ?_
  rintro e w1 ⟨rfl, rfl⟩
  go_wp2
  go_ret2
  exact ⟨rfl, rfl⟩

/-- Fill's, Write's and PutWord's answer. -/
def Wrote (p m n : Nat) (c : Int) (f : Nat → Int) (w : World) (e : Ending) (w' : World) : Prop :=
  e = .returned (.int .i64 0) ∧ Ar w' p m n c f ∧ Only p m w w'

def FillRel (m n a k : Nat) (f : Nat → Int) (x : Int) (w1 : World) (i : Value) (wr : World) : Prop :=
  ∃ t : Nat, t ≤ k ∧ i = .int .i64 t ∧ Row wr m n (upd f a t (fun _ => x)) ∧ Only m m w1 wr

set_option maxHeartbeats 800000 in
theorem fill_ok (p m n a k : Nat) (c x : Int) (f : Nat → Int) (w : World) (h : Ar w p m n c f) (hk : a + k ≤ n) (hn : n ≤ 65536) (hc0 : 0 ≤ c) (hc1 : c ≤ 1000000000000) (hx0 : 0 ≤ x) (hx1 : x ≤ 255) :
    Calls Try.prog 15 #[.pointer (some ⟨p, 0, none⟩), .int .i64 (a : Int), .int .i64 (k : Int), .int .u8 x] w (Wrote p m n (c + k) (upd f a k (fun _ => x)) w) := by
  have HO := Lib.hid (open_okv p m n a k c f w h hk hn hc0 hc1)
  clear h
  go_enter Try.func15, Try.ntmps15
  go_wp2_with fail
  refine HO.out.mono ?_
  rintro e w1 ⟨A, j, hA, hj, hj2, rfl, ha, ho⟩
  have HA := Lib.hid hA
  clear hA
  go_wp2
  go_loopw [24] (fun i wr => FillRel m n a k f x w1 i wr) (fun i _ => k - (intOf i).toNat)
  case atStart => exact ⟨0, Nat.zero_le _, rfl, by rw [upd_zero]; exact ha.row, Only.refl _ _ _⟩
  case round =>
    obtain ⟨t, ht, rfl, hr, hw⟩ := hrel
    by_cases hlt : t < k
    · obtain rfl := HA.out (by omega)
      have hc1 := hr.at_ (i := a + t) (by omega)
      have hc2 := hr.frozen (a + t)
      go_wp2
      go_roundw
      case rel => exact ⟨t + 1, by omega, by go_num, hr.put (q := fun _ => x) hx0 hx1 (by omega), hw.setCell (q := ⟨m, a + t, none⟩) (.inl rfl) _⟩
      case measure => simp [intOf]; omega
    · go_wp2
      go_ret
      obtain rfl : t = k := by omega
      exact ⟨rfl, ha.bytes hw hr, ho.wide.trans hw.wide'⟩

set_option maxHeartbeats 800000 in
theorem fill_bad (p m n : Nat) (a k : Int) (c x : Int) (f : Nat → Int) (w : World) (h : Ar w p m n c f) (hk : ¬ (0 ≤ a ∧ 0 ≤ k ∧ a + k ≤ n)) :
    Calls Try.prog 15 #[.pointer (some ⟨p, 0, none⟩), .int .i64 a, .int .i64 k, .int .u8 x] w fun e w' => e = .returned (.int .i64 (-17)) ∧ w = w' := by
  have HO := Lib.hid (open_bad p m n a k c f w h hk)
  clear h hk
  go_enter Try.func15, Try.ntmps15
  go_wp2_with fail
  refine HO.out.mono ?_
  rintro e w1 ⟨rfl, rfl⟩
  go_wp2
  go_ret
  exact ⟨rfl, rfl⟩
end Go.Proofs.Ytbednmifgbbhlaa
