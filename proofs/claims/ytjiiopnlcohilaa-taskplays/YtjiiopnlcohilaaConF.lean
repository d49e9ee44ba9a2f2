/- Each method of a task that lies behind what was there (At); known. -/
import Derived.Test.YtjiiopnlcohilaaConD
import Derived.Deep.RegionHeld3
namespace Go.Proofs.Ytjiiopnlcohilaa
open Go.RowKit

/-- a task of the program's in block p, behind all that was there in w0 -/
structure At (w0 w : World) (p : Nat) (s : St) : Prop where
  tk : Tk w 47 p s
  lo : w0.heap.size ≤ p
  be : Below w0.heap.size w0 w
  gd : Good s
theorem At.next {w0 w w' : World} {p : Nat} {s s' : St} (h : At w0 w p s) (k : Tk w' 47 p s') (o : Only p w w') (g : Good s') : At w0 w' p s' :=
  ⟨k, h.lo, h.be.trans (o.below h.be.size h.lo), g⟩
theorem At.same {w0 w w' : World} {p : Nat} {s : St} (h : At w0 w p s) (b : Below w.heap.size w w') : At w0 w' p s :=
  ⟨h.tk.below b, h.lo, h.be.trans (b.mono h.be.size), h.gd⟩
theorem At.drew {w0 w : World} {p : Nat} {s : St} (h : At w0 w p s) : At w0 w.drew p s := ⟨h.tk.drew, h.lo, h.be.drew, h.gd⟩
theorem At.five {w0 w : World} {p : Nat} {s : St} (h : At w0 w p s) :
    w.cell? ⟨p, 0, none⟩ = some (.int .i64 s.A) ∧ w.cell? ⟨p, 1, none⟩ = some (.int .i64 s.W) ∧ w.cell? ⟨p, 2, none⟩ = some (.int .i64 s.S) ∧ w.cell? ⟨p, 3, none⟩ = some (.int .i64 s.X) ∧ w.cell? ⟨p, 4, none⟩ = some (.bool s.z) := h.tk.at_
theorem new_at (w0 w : World) (hb : Below w0.heap.size w0 w) : Calls Try.prog 11 #[] w fun e w' => ∃ p, e = .returned (.pointer (some ⟨p, 0, none⟩)) ∧ At w0 w' p born := by
  refine (new_any w).mono ?_
  rintro e w1 ⟨p, rfl, k, b, hp⟩
  exact ⟨p, rfl, k, Nat.le_trans hb.size hp, hb.trans (b.mono hb.size), good_born⟩
variable {w0 w : World} {p : Nat} {s : St}
theorem act_at (h : At w0 w p s) (s' : St) (r : Bool) (c : Int) (hr : act s = (s', r, c)) :
    Calls Try.prog 16 #[.pointer (some ⟨p, 0, none⟩)] w fun e w' => e = .returned (.tuple #[.bool r, .int .i64 c]) ∧ At w0 w' p s' := by
  refine (act_any w p s h.tk h.gd s' r c hr).mono ?_
  rintro e w1 ⟨rfl, k, o⟩
  exact ⟨rfl, h.next k o (by have := good_act h.gd; rw [hr] at this; exact this)⟩
theorem canAct_at (h : At w0 w p s) (s' : St) (c : Int) (hs : canAct s = s') (hr : s.A = c) :
    Calls Try.prog 22 #[.pointer (some ⟨p, 0, none⟩)] w fun e w' => e = .returned (.int .i64 c) ∧ At w0 w' p s' := by
  refine (canAct_any w p s h.tk s' c hs hr).mono ?_
  rintro e w1 ⟨rfl, k, o⟩
  exact ⟨rfl, h.next k o (by rw [← hs]; exact good_canAct h.gd)⟩
theorem end_at (h : At w0 w p s) (s' : St) (r : Bool) (hr : endS s = (s', r)) :
    Calls Try.prog 25 #[.pointer (some ⟨p, 0, none⟩)] w fun e w' => e = .returned (.bool r) ∧ At w0 w' p s' := by
  refine (end_any w p s h.tk h.gd s' r hr).mono ?_
  rintro e w1 ⟨rfl, k, o⟩
  exact ⟨rfl, h.next k o (by have := good_end h.gd; rw [hr] at this; exact this)⟩
theorem kill_at (h : At w0 w p s) (s' : St) (r : Bool) (c : Int) (hr : kill s = (s', r, c)) :
    Calls Try.prog 21 #[.pointer (some ⟨p, 0, none⟩)] w fun e w' => e = .returned (.tuple #[.bool r, .int .i64 c]) ∧ At w0 w' p s' := by
  refine (kill_any w p s h.tk h.gd s' r c hr).mono ?_
  rintro e w1 ⟨rfl, k, o⟩
  exact ⟨rfl, h.next k o (by have := good_kill h.gd; rw [hr] at this; exact this)⟩
theorem sleep_at (h : At w0 w p s) (s' : St) (r : Bool) (c : Int) (hr : sleep s = (s', r, c)) :
    Calls Try.prog 18 #[.pointer (some ⟨p, 0, none⟩)] w fun e w' => e = .returned (.tuple #[.bool r, .int .i64 c]) ∧ At w0 w' p s' := by
  refine (sleep_any w p s h.tk h.gd s' r c hr).mono ?_
  rintro e w1 ⟨rfl, k, o⟩
  exact ⟨rfl, h.next k o (by have := good_sleep h.gd; rw [hr] at this; exact this)⟩
theorem wake_at (h : At w0 w p s) (s' : St) (r : Bool) (c : Int) (hr : wake s = (s', r, c)) :
    Calls Try.prog 17 #[.pointer (some ⟨p, 0, none⟩)] w fun e w' => e = .returned (.tuple #[.bool r, .int .i64 c]) ∧ At w0 w' p s' := by
  refine (wake_any w p s h.tk h.gd s' r c hr).mono ?_
  rintro e w1 ⟨rfl, k, o⟩
  exact ⟨rfl, h.next k o (by have := good_wake h.gd; rw [hr] at this; exact this)⟩
theorem canWake_at (h : At w0 w p s) (s' : St) (r c : Int) (hr : canWake s = (s', r, c)) :
    Calls Try.prog 27 #[.pointer (some ⟨p, 0, none⟩)] w fun e w' => e = .returned (.tuple #[.int .i64 r, .int .i64 c]) ∧ At w0 w' p s' := by
  refine (canWake_any w p s h.tk s' r c hr).mono ?_
  rintro e w1 ⟨rfl, k, o⟩
  exact ⟨rfl, h.next k o (by have := good_canWake h.gd; rw [hr] at this; exact this)⟩
theorem suspend_at (h : At w0 w p s) (s' : St) (c : Int) (hr : suspend s = (s', c)) :
    Calls Try.prog 19 #[.pointer (some ⟨p, 0, none⟩)] w fun e w' => e = .returned (.int .i64 c) ∧ At w0 w' p s' := by
  refine (suspend_any w p s h.tk h.gd s' c hr).mono ?_
  rintro e w1 ⟨rfl, k, o⟩
  exact ⟨rfl, h.next k o (by have := good_suspend h.gd; rw [hr] at this; exact this)⟩
theorem resume_at (h : At w0 w p s) (all : Bool) (s' : St) (r : Bool) (c : Int) (hr : resume s all = (s', r, c)) :
    Calls Try.prog 20 #[.pointer (some ⟨p, 0, none⟩), .bool all] w fun e w' => e = .returned (.tuple #[.bool r, .int .i64 c]) ∧ At w0 w' p s' := by
  refine (resume_any w p s h.tk h.gd all s' r c hr).mono ?_
  rintro e w1 ⟨rfl, k, o⟩
  exact ⟨rfl, h.next k o (by have := good_resume (all := all) h.gd; rw [hr] at this; exact this)⟩
theorem do_at (h : At w0 w p s) (a : Int) (s' : St) (x y : Int) (hr : step a s = (s', x, y)) :
    Calls Try.prog 13 #[.pointer (some ⟨p, 0, none⟩), .int .i64 a] w fun e w' => e = .returned (.tuple #[.int .i64 x, .int .i64 y]) ∧ At w0 w' p s' := by
  refine (do_any w p s h.tk h.gd a s' x y hr).mono ?_
  rintro e w1 ⟨rfl, k, o⟩
  exact ⟨rfl, h.next k o (by have := good_step (a := a) h.gd; rw [hr] at this; exact this)⟩
theorem five3 {A W S X : Int} {z : Bool} (h : At w0 w p ⟨A, W, S, X, z⟩) : w.cell? ⟨p, 0, none⟩ = some (.int .i64 A) ∧ w.cell? ⟨p, 1, none⟩ = some (.int .i64 W) ∧ w.cell? ⟨p, 2, none⟩ = some (.int .i64 S) := ⟨h.five.1, h.five.2.1, h.five.2.2.1⟩
/-- Is of one state: behind the slice that the law makes -/
theorem is_at (h : At w0 w p s) (v : Int) (r : Bool) (hr : decide (s.X = v) = r) :
    Calls Try.prog 24 #[.pointer (some ⟨p, 0, none⟩), .slice (some ⟨w.heap.size, 0, none⟩) 1 1] (w.alloc (.cells #[.int .i64 v] 3)) fun e w' => e = .returned (.bool r) ∧ At w0 w' p s := by
  refine (is_one w p s h.tk v r hr).mono ?_
  rintro e w1 ⟨rfl, _, b⟩
  exact ⟨rfl, h.same b⟩
theorem is2_at (h : At w0 w p s) (v u : Int) (r : Bool) (hr : decide (s.X = v ∨ s.X = u) = r) :
    Calls Try.prog 24 #[.pointer (some ⟨p, 0, none⟩), .slice (some ⟨w.heap.size, 0, none⟩) 2 2] (w.alloc (.cells #[.int .i64 v, .int .i64 u] 3)) fun e w' => e = .returned (.bool r) ∧ At w0 w' p s := by
  refine (is_two w p s h.tk v u r hr).mono ?_
  rintro e w1 ⟨rfl, _, b⟩
  exact ⟨rfl, h.same b⟩
theorem any_at (h : At w0 w p s) (r : Bool) (hr : decide (¬ (s.A = 0 ∧ s.W = 0 ∧ s.S = 0)) = r) :
    Calls Try.prog 26 #[.agg #[.int .i64 s.A, .int .i64 s.W, .int .i64 s.S]] w fun e w' => e = .returned (.bool r) ∧ At w0 w' p s := by
  refine (any_any w s.A s.W s.S r hr).mono ?_
  rintro e w1 ⟨rfl, b⟩
  exact ⟨rfl, h.same b⟩

set_option maxHeartbeats 800000 in
theorem known_any (w : World) : Calls Try.prog 10 #[] w fun e w' => e = .returned (.bool true) ∧ Below w.heap.size w w' := by
  go_enter Try.func10, Try.ntmps10
  go_wp2_with fail
  refine (new_at w w (Below.refl _ _)).mono ?_
  rintro e w1 ⟨p, rfl, h1⟩
  have H1 := Lib.hid h1
  clear h1
  go_wp2_with fail
  refine (act_at H1.out ⟨0, 0, 0, 2, false⟩ true 0 rfl).mono ?_
  rintro e w2 ⟨rfl, h2⟩
  have H2 := Lib.hid h2
  clear h2 H1
  go_wp2_with fail
  refine (sleep_at H2.out ⟨0, 0, 0, 4, true⟩ true 0 rfl).mono ?_
  rintro e w3 ⟨rfl, h3⟩
  have H3 := Lib.hid h3
  clear h3 H2
  go_wp2_with fail
  refine (wake_at H3.out ⟨0, 0, 0, 2, false⟩ true 0 rfl).mono ?_
  rintro e w4 ⟨rfl, h4⟩
  have H4 := Lib.hid h4
  clear h4 H3
  go_wp2_with fail
  refine (canWake_at H4.out ⟨0, 0, 0, 2, false⟩ 0 0 rfl).mono ?_
  rintro e w5 ⟨rfl, h5⟩
  have H5 := Lib.hid h5
  clear h5 H4
  go_wp2_with fail
  refine (is2_at H5.out 16 2 true (by decide)).mono ?_
  rintro e w6 ⟨rfl, h6⟩
  have H6 := Lib.hid h6
  clear h6 H5
  go_wp2_with fail
  refine (is_at H6.out 4 false (by decide)).mono ?_
  rintro e w7 ⟨rfl, h7⟩
  obtain ⟨c0, c1, c2⟩ := five3 h7
  have H7 := Lib.hid h7
  clear h7 H6
  go_wp2_with fail
  refine (any_at H7.out false (by decide)).mono ?_
  rintro e w8 ⟨rfl, h8⟩
  obtain ⟨d0, d1, d2⟩ := five3 h8
  have H8 := Lib.hid h8
  clear h8 c0 c1 c2
  go_wp2
  go_ret
  exact ⟨rfl, H8.out.be⟩
end Go.Proofs.Ytjiiopnlcohilaa
