/- What the laws reckon with sorted rows; no walk. -/
import Derived.Test.YtpnhpgdidineaaaConK
import Derived.OpenShut
namespace Go.Proofs.Ytpnhpgdidineaaa
open Go.RowKit

theorem ins_last (x : En) : ∀ S : List En, (∀ y, y ∈ S → ¬ lt x y) → ins x S = S ++ [x]
  | [], _ => rfl
  | y :: S, h => by
    unfold ins
    rw [if_neg (h y List.mem_cons_self), ins_last x S fun z hz => h z (List.mem_cons_of_mem _ hz)]; rfl
theorem due_all {S : List En} {now : Int} (h : ∀ x, x ∈ S → x.1 ≤ now) : due S now = S ∧ rst S now = [] :=
  due_end (by simp) h (fun s S2 e => by cases e)
theorem due_no {S : List En} {now : Int} (h : ∀ x, x ∈ S → ¬ x.1 ≤ now) : due S now = [] ∧ rst S now = S :=
  due_end rfl (fun x hx => by simp at hx) (fun s S2 e => h s (by rw [e]; exact List.mem_cons_self))

/-- n entries of one time -/
def ful (a : Int) (n : Nat) : List En := (List.range n).map fun (i : Nat) => (a, (i : Int) + 1, (i : Int))
theorem ful_succ (a : Int) (n : Nat) : ful a (n + 1) = ful a n ++ [(a, (n : Int) + 1, (n : Int))] := by simp [ful, List.range_succ]
theorem ful_len (a : Int) (n : Nat) : (ful a n).length = n := by simp [ful]
theorem ful_mem {a : Int} {n : Nat} {x : En} (h : x ∈ ful a n) : x.1 = a ∧ x.2.1 ≤ (n : Int) := by
  unfold ful at h
  obtain ⟨i, hi, rfl⟩ := List.mem_map.1 h
  have := List.mem_range.1 hi
  exact ⟨rfl, by show (i : Int) + 1 ≤ n; omega⟩
theorem ful_ins (a : Int) (n : Nat) : ins (a, (n : Int) + 1, (n : Int)) (ful a n) = ful a (n + 1) := by
  rw [ful_succ]
  refine ins_last _ _ fun y hy => ?_
  obtain ⟨h1, h2⟩ := ful_mem hy
  unfold lt
  show ¬ (a < y.1 ∨ a = y.1 ∧ (n : Int) + 1 < y.2.1)
  omega
theorem ful_args (a : Int) (n j : Nat) (h : j < n) : (args (ful a n))[j]? = some (j : Int) := by
  unfold args ful
  rw [List.map_map, List.getElem?_map, List.getElem?_range h]; rfl

/-- behind New and one more world: B goes down to the first -/
theorem new_then (w w0 : World) (h0 : Below w.heap.size w w0) :
    Calls Try.prog 26 #[] w0 fun e w' => ∃ p, e = .returned (.pointer (some ⟨p, 0, none⟩)) ∧ Tm w' w.heap.size p p [] 0 ∧ Below w.heap.size w w' := by
  refine (new_any w0 w.heap.size h0.size).mono ?_
  rintro e w1 ⟨p, rfl, ht, hb, _⟩
  exact ⟨p, rfl, ht, h0.trans (hb.mono h0.size)⟩
end Go.Proofs.Ytpnhpgdidineaaa
