/- What the laws of package sem use: the contracts with their world held below; known. -/
import Derived.Test.YtpkfdlmfcmiabaaSmB
namespace Go.Proofs.Ytpkfdlmfcmiabaa
open Go.RowKit

/-- a semaphore that came behind B; what was there ahead of B is as it was in w -/
def At (w : World) (s p : Nat) (S : St) (w' : World) : Prop := w.heap.size ≤ s ∧ w.heap.size ≤ p ∧ Sq w' s p S ∧ Below w.heap.size w w'
theorem At.sq {w w' : World} {s p : Nat} {S : St} (h : At w s p S w') : Sq w' s p S := h.2.2.1
theorem At.b {w w' : World} {s p : Nat} {S : St} (h : At w s p S w') : Below w.heap.size w w' := h.2.2.2
theorem At.c0 {w w' : World} {s p : Nat} {S : St} (h : At w s p S w') : w'.cell? ⟨s, 0, none⟩ = some (.pointer (some ⟨p, 0, none⟩)) := h.sq.1.c0
theorem At.c1 {w w' : World} {s p : Nat} {S : St} (h : At w s p S w') : w'.cell? ⟨s, 1, none⟩ = some (.int .i64 S.c) := h.sq.1.c1
theorem At.c2 {w w' : World} {s p : Nat} {S : St} (h : At w s p S w') : w'.cell? ⟨s, 2, none⟩ = some (.int .i64 S.m) := h.sq.1.c2
theorem At.below {w w1 w2 : World} {s p : Nat} {S : St} (h : At w s p S w1) (k : Below w1.heap.size w1 w2) : At w s p S w2 :=
  ⟨h.1, h.2.1, h.sq.below k, h.b.trans (k.mono h.b.size)⟩
theorem At.drewN {w w1 : World} {s p : Nat} {S : St} (h : At w s p S w1) (n : Nat) : At w s p S (w1.drewN n) := h.below ⟨rfl, rfl, rfl, Nat.le_refl _, fun _ _ => rfl⟩

theorem signal_at {w w1 : World} {s p : Nat} {S S' : St} {t k : Int} (h : At w s p S w1) (hf : Fine S) (hs : sig S = (S', t, k)) :
    Calls Try.prog 10 #[.pointer (some ⟨s, 0, none⟩)] w1 fun e w' => e = .returned (.tuple #[.int .i64 t, .int .i64 k]) ∧ At w s p S' w' := by
  refine (signal_any s p S S' t k w1 h.sq hf hs).mono ?_
  rintro e w2 ⟨rfl, h2, ho⟩
  exact ⟨rfl, h.1, h.2.1, h2, h.b.trans (ho.below h.b.size h.1 h.2.1)⟩
theorem wait_at {w w1 : World} {s p : Nat} {S S' : St} {r : Bool} {k : Int} (id pri : Int) (h : At w s p S w1) (hf : Fine S) (hs : wait S id pri = (S', r, k)) :
    Calls Try.prog 12 #[.pointer (some ⟨s, 0, none⟩), .int .i64 id, .int .i64 pri] w1 fun e w' => e = .returned (.tuple #[.bool r, .int .i64 k]) ∧ At w s p S' w' := by
  refine (wait_any s p S S' id pri r k w1 h.sq hf hs).mono ?_
  rintro e w2 ⟨rfl, h2, ho⟩
  exact ⟨rfl, h.1, h.2.1, h2, h.b.trans (ho.below h.b.size h.1 h.2.1)⟩
theorem poll_at {w w1 : World} {s p : Nat} {S S' : St} {r : Bool} (h : At w s p S w1) (hf : Fine S) (hs : poll S = (S', r)) :
    Calls Try.prog 14 #[.pointer (some ⟨s, 0, none⟩)] w1 fun e w' => e = .returned (.bool r) ∧ At w s p S' w' := by
  refine (poll_any s p S S' r w1 h.sq hf hs).mono ?_
  rintro e w2 ⟨rfl, h2, ho⟩
  exact ⟨rfl, h.1, h.2.1, h2, h.b.trans (ho.below h.b.size h.1 h.2.1)⟩
theorem new_at (w w1 : World) (b : Bool) (c m : Int) (h : takes c m) (hb : Below w.heap.size w w1) :
    Calls Try.prog 8 #[.bool b, .int .i64 c, .int .i64 m] w1 fun e w' => ∃ s p : Nat, e = .returned (.tuple #[.pointer (some ⟨s, 0, none⟩), .int .i64 0]) ∧ At w s p ⟨b, [], c, m⟩ w' := by
  refine (newsem_ok b c m w1 h).mono ?_
  rintro e w2 ⟨_, rfl, s, p, h1, h2, rfl, h3, h4⟩
  exact ⟨s, p, rfl, Nat.le_trans hb.size h1, Nat.le_trans hb.size h2, h3, hb.trans (h4.mono hb.size)⟩
theorem len_at {w w1 : World} {s p : Nat} {S : St} {n : Int} (h : At w s p S w1) (hn : (S.L.length : Int) = n) :
    Calls Try.prog 22 #[.pointer (some ⟨p, 0, none⟩)] w1 fun e w' => e = .returned (.int .i64 n) ∧ w1 = w' := by
  subst hn; exact len_ok p 51 S.b S.L w1 h.sq.2

set_option maxHeartbeats 1600000 in
theorem known_ok (w : World) : Calls Try.prog 7 #[] w fun e w' => e = .returned (.bool true) ∧ Below w.heap.size w w' := by
  have T0 : takes 1 1 := by unfold takes; omega
  have N0 : ¬ takes 2 1 := by unfold takes; omega
  have F0 := Lib.hid (fine_new (b := false) T0)
  have F1 := Lib.hid (F0.out.wait (id := 1) (pri := 5) (S' := ⟨false, [], 0, 1⟩) (r := true) (k := 0) rfl)
  have F2 := Lib.hid (F1.out.wait (id := 2) (pri := 5) (S' := ⟨false, [(2, 5)], 0, 1⟩) (r := false) (k := 0) rfl)
  have F3 := Lib.hid (F2.out.sig (S' := ⟨false, [], 0, 1⟩) (t := 2) (k := 0) rfl)
  have F4 := Lib.hid (F3.out.sig (S' := ⟨false, [], 1, 1⟩) (t := 0) (k := 0) rfl)
  have HN := Lib.hid T0
  have HX := Lib.hid N0
  clear T0 N0
  go_enter Try.func7, Try.ntmps7
  go_wp2_with fail
  refine (new_at w w false 1 1 HN.out (Below.refl _ _)).mono ?_
  rintro e w1 ⟨s, p, rfl, h1⟩
  have d0 := h1.c0
  go_wp2_with fail
  refine (wait_at 1 5 h1 F0.out (S' := ⟨false, [], 0, 1⟩) (r := true) (k := 0) rfl).mono ?_
  rintro e w2 ⟨rfl, h2⟩
  clear d0 h1
  go_wp2_with fail
  refine (wait_at 2 5 h2 F1.out (S' := ⟨false, [(2, 5)], 0, 1⟩) (r := false) (k := 0) rfl).mono ?_
  rintro e w3 ⟨rfl, h3⟩
  clear h2
  go_wp2_with fail
  refine (signal_at h3 F2.out (S' := ⟨false, [], 0, 1⟩) (t := 2) (k := 0) rfl).mono ?_
  rintro e w4 ⟨rfl, h4⟩
  clear h3
  go_wp2_with fail
  refine (signal_at h4 F3.out (S' := ⟨false, [], 1, 1⟩) (t := 0) (k := 0) rfl).mono ?_
  rintro e w5 ⟨rfl, h5⟩
  clear h4
  go_wp2_with fail
  refine (signal_at h5 F4.out (S' := ⟨false, [], 1, 1⟩) (t := 0) (k := -43) rfl).mono ?_
  rintro e w6 ⟨rfl, h6⟩
  clear h5
  go_wp2_with fail
  refine (newsem_bad false 2 1 w6 HX.out).mono ?_
  rintro e w7 ⟨rfl, rfl⟩
  have d0 := h6.c0
  have d1 := h6.c1
  have d2 := h6.c2
  have HL := Lib.hid (len_at h6 (n := 0) rfl)
  have HB := Lib.hid h6.b
  clear h6
  simp only at d1 d2
  go_wp2_with fail
  refine HL.out.mono ?_
  rintro e w7 ⟨rfl, rfl⟩
  go_wp2
  go_ret
  exact ⟨rfl, HB.out⟩
end Go.Proofs.Ytpkfdlmfcmiabaa
