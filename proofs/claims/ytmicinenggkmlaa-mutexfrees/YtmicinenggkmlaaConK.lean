/- Contracts with their results as letters; and known. -/
import Derived.Test.YtmicinenggkmlaaConD
namespace Go.Proofs.Ytmicinenggkmlaa
open Go.RowKit
set_option maxRecDepth 100000

theorem add_to (p : Nat) (b : Bool) (L L' : List It) (c : Int) (w : World) (hl : Ln w p 87 b L) (hg : Good b L) (id pri : Int) (hC : addC L id pri = c) (hL : addL b L id pri = L') :
    Calls Try.prog 37 #[.pointer (some ⟨p, 0, none⟩), .int .i64 id, .int .i64 pri] w fun e w' => e = .returned (.int .i64 c) ∧ Ln w' p 87 b L' ∧ Only p w w' := by
  subst hC hL; exact add_any p b L w hl hg id pri
theorem change_to (p : Nat) (b : Bool) (L L' : List It) (c : Bool) (w : World) (hl : Ln w p 87 b L) (hg : Good b L) (id pri : Int) (hC : chgOk L id pri = c) (hL : chgL b L id pri = L') :
    Calls Try.prog 66 #[.pointer (some ⟨p, 0, none⟩), .int .i64 id, .int .i64 pri] w fun e w' => e = .returned (.bool c) ∧ Ln w' p 87 b L' ∧ Only p w w' := by
  subst hC hL; exact change_any p b L w hl hg id pri
theorem remove_to (p T : Nat) (b : Bool) (L L' : List It) (c : Bool) (w : World) (hl : Ln w p T b L) (hn : L.length ≤ 16) (id : Int) (hC : decide (pos L id < L.length) = c) (hL : L.eraseIdx (pos L id) = L') :
    Calls Try.prog 55 #[.pointer (some ⟨p, 0, none⟩), .int .i64 id] w fun e w' => e = .returned (.bool c) ∧ Ln w' p T b L' ∧ Only p w w' := by
  subst hC hL; exact remove_any p T b L w hl hn id

end Go.Proofs.Ytmicinenggkmlaa
