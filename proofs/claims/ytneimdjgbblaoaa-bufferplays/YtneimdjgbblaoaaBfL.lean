/- What each call of a buffer answers, by what there is; fresh bytes. -/
import Derived.Test.YtneimdjgbblaoaaBfK
namespace Go.Proofs.Ytneimdjgbblaoaa
open Go.RowKit
set_option maxRecDepth 100000

theorem send_bad {t : St} {id pri : Int} {x : List Int} (h : x.length = 0 ∨ t.m < x.length) : send t id pri x = (t, false, 0, -17) := by unfold send; rw [trySend_bad h]; rfl
theorem send_hand {t : St} {id pri : Int} {x : List Int} {r : It} {R : List It} (h : ¬ (x.length = 0 ∨ t.m < x.length)) (hr : t.R = r :: R) : send t id pri x = ({ t with R := R }, true, r.1, 0) := by unfold send; rw [trySend_hand h hr]
theorem send_room {t : St} {id pri : Int} {x : List Int} (h : ¬ (x.length = 0 ∨ t.m < x.length)) (hr : t.R = []) (hs : t.S = []) (hf : R.fits t.N (R.tot t.G) (x.length : Int) = true) : send t id pri x = ({ t with G := t.G ++ [x] }, true, 0, 0) := by unfold send; rw [trySend_room h hr hs hf]
theorem send_wait {t : St} {id pri : Int} {x : List Int} (h : ¬ (x.length = 0 ∨ t.m < x.length)) (hr : t.R = []) (hf : ¬ (t.S = [] ∧ R.fits t.N (R.tot t.G) (x.length : Int) = true)) : send t id pri x = ((waitS t id pri x).1, false, 0, (waitS t id pri x).2) := by unfold send; rw [trySend_no h hr hf]; rfl
theorem fits_yes {N U n : Nat} (h1 : n ≤ 1024) (h2 : U + R.occ n ≤ N) : R.fits N U (n : Int) = true := (R.fits_nat N U n).2 ⟨h1, h2⟩
theorem fits_no {N U n : Nat} (h : N < U + R.occ n) : ¬ R.fits N U (n : Int) = true := fun e => by have := ((R.fits_nat N U n).1 e).2; omega

theorem Row.sb {w : World} {s p m g n : Nat} {f : Nat → Int} (h : R.Row w g n f) (h1 : g ≠ s) (h2 : g ≠ p) (h3 : g ≠ m) : Sb w s p m (some ⟨g, 0, none⟩) n f := fun _ => ⟨g, 0, rfl, h1, h2, h3, fun j hj => ⟨by rw [Nat.zero_add]; exact h.at_ hj, h.lo hj⟩⟩
/-- n zero bytes, just made -/
theorem At.zeros {w w1 : World} {s p m : Nat} {C : Int} {t : St} (h : At w s p m C t w1) (n : Nat) : Sb (w1.alloc (.cells (madeCells #[.int .u8 0] n) 5)) s p m (some ⟨w1.heap.size, 0, none⟩) n (fun _ => 0) :=
  Row.sb (R.row_made w1 n) (Nat.ne_of_gt h.q.lt) (Nat.ne_of_gt h.q.ltp) (Nat.ne_of_gt h.q.ltm)
end Go.Proofs.Ytneimdjgbblaoaa
