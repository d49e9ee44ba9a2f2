/- Contracts of package arena: Read, Fill. -/
import Derived.Test.YtneimdjgbblaoaaRgConA
namespace Go.Proofs.Ytneimdjgbblaoaa.R
open Go.RowKit
set_option maxRecDepth 100000
variable {X : TypeId × List Value}

def ReadPost (X : TypeId × List Value) (p m n a k : Nat) (c : Int) (f : Nat → Int) (w : World) (e : Ending) (w' : World) : Prop :=
  ∃ g : Nat, w.heap.size ≤ g ∧ e = .returned (.tuple #[.slice (some ⟨g, 0, none⟩) k k, .int .i64 0]) ∧ Ar X w' p m n (c + k) f ∧ Row w' g k (fun j => f (a + j)) ∧ Only p p w w' ∧ Fit w' g k

theorem read_end {p m n a k : Nat} {c : Int} {f : Nat → Int} {w w1 w2 : World} (ha : Ar X w1 p m n c f) (h1 : Only p p w w1)
    (hr : Row w2 w1.heap.size k (upd (fun _ => 0) 0 k (fun j => f (a + j)))) (h2 : Only w1.heap.size w1.heap.size (w1.alloc (.cells (madeCells #[.int .u8 0] k) 5)) w2) :
    Ar X w2 p m n c f ∧ Row w2 w1.heap.size k (fun j => f (a + j)) ∧ Only p p w w2 := by
  have lp := ha.ltp; have lm := ha.ltm; have l1 := h1.size
  refine ⟨(ha.alloc _).only h2 (by omega) (by omega) (by omega) (by omega), hr.congr fun i hi => ?_, (h1.alloc _).of_new h2 (.inl l1) (.inl l1)⟩
  rw [upd_in _ _ _ _ _ (by omega) (by omega)]; simp

set_option maxHeartbeats 800000 in
theorem read_ok (p m n a k : Nat) (c : Int) (f : Nat → Int) (w : World) (h : Ar X w p m n c f) (hk : a + k ≤ n) (hn : n ≤ 65536) (hc0 : 0 ≤ c) (hc1 : c ≤ 1000000000000) :
    Calls Try.prog 85 #[.pointer (some ⟨p, 0, none⟩), .int .i64 (a : Int), .int .i64 (k : Int)] w (ReadPost X p m n a k c f w) := by
  have HO := Lib.hid (open_okv p m n a k c f w h hk hn hc0 hc1)
  have HM := Lib.hid (run_make_bytes k (by omega))
  clear h
  go_enter Try.func85, Try.ntmps85
  go_wp2_with fail
  refine HO.out.mono ?_
  rintro e w1 ⟨A, j, hA, hj, hj2, rfl, ha, ho⟩
  have hmk := HM.out
  go_wp2_with (with_reducible refine wpList_copy_bytes rfl _ _ _ _ rfl Try.underlying31 size5 _ _ _ _ _ _ rfl rfl w1.heap.size 0 k p (fun _ => 0) (fun j => f (a + j)) (row_made w1 k) (Nat.le_refl _) (fun _ => rfl) (by omega) ?c1 ?c2)
  case c1 =>
    intro hk0
    have hA' := hA hk0
    exact Src.of_row (ha.row.alloc _) (Ne.symm ha.ne) (Nat.ne_of_lt ha.ltm) a hk (fun _ _ => rfl) |> fun hs => by rw [hA']; exact hs hk0
  case c2 =>
    intro w2 hr2 ho2 hz2
    have HZ := Lib.hid (hz2 k ⟨_, heap_alloc_new w1 _, by simp [madeCells]⟩)
    clear hz2
    obtain ⟨q1, q2, q3⟩ := read_end (a := a) ha ho hr2 ho2
    have l1 := ho.size
    go_wp2
    go_ret2
    exact ⟨w1.heap.size, l1, rfl, q1, q2, q3, HZ.out⟩

/-- Fill's, Write's and PutWord's answer. -/
def Wrote (X : TypeId × List Value) (p m n : Nat) (c : Int) (f : Nat → Int) (w : World) (e : Ending) (w' : World) : Prop :=
  e = .returned (.int .i64 0) ∧ Ar X w' p m n c f ∧ Only p m w w'

end Go.Proofs.Ytneimdjgbblaoaa.R
