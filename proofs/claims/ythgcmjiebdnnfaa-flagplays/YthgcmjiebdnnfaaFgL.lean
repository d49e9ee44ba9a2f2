/- Numbers that came in; tasks that wait one behind the other: what two laws of package flag use. -/
import Derived.Test.YthgcmjiebdnnfaaFgK
namespace Go.Proofs.Ythgcmjiebdnnfaa
open Go.RowKit
set_option maxRecDepth 100000

/-- numbers of 32 bits that came in -/
def Uf (w : World) (A : Option Addr) (n : Nat) (q : Nat → Int) : Prop :=
  0 < n → ∃ b o : Nat, A = some ⟨b, o, none⟩ ∧ b < w.heap.size ∧ ∀ j, j < n → w.cell? ⟨b, o + j, none⟩ = some (.int .u32 (q j)) ∧ U (q j)
theorem Uf.below {w w' : World} {A : Option Addr} {n : Nat} {q : Nat → Int} (h : Uf w A n q) (k : Below w.heap.size w w') : Uf w' A n q := by
  intro h0
  obtain ⟨b, o, h1, h2, h3⟩ := h h0
  exact ⟨b, o, h1, Nat.lt_of_lt_of_le h2 k.size, fun j hj => by rw [k.cell (p := ⟨b, o + j, none⟩) h2]; exact h3 j hj⟩
theorem uf_of {w : World} {a : Option Addr} {len cap : Nat} {zs : List Int} (h : (a = none ∧ len = 0 ∧ cap = 0 ∧ zs = []) ∨
  ∃ x, a = some x ∧ len ≤ cap ∧ cap ≤ maxLen ∧ zs.length = cap ∧ (∀ i, i < zs.length → w.cell? (x.add i) = some (.int .u32 (zs.getD i 0))) ∧ ∀ n ∈ zs, (Lit.int .u32 n).wf = true) :
    len ≤ 9223372036854775807 ∧ ∃ q, Uf w a len q := by
  rcases h with ⟨_, rfl, _⟩ | ⟨x, rfl, hlc, hm, hz, hc, hwf⟩
  · exact ⟨by omega, fun _ => 0, fun h => absurd h (by omega)⟩
  · refine ⟨by unfold maxLen at hm; omega, fun j => zs.getD j 0, fun h0 => ?_⟩
    obtain ⟨b, o, s⟩ := x
    have hc0 := hc 0 (by omega)
    have hs : s = none := by
      cases s with
      | none => rfl
      | some q => simp [Addr.add, World.cell?] at hc0; split at hc0 <;> simp at hc0
    subst hs
    have hb : b < w.heap.size := by have := block_lt_of_cell hc0; simpa [Addr.add] using this
    refine ⟨b, o, rfl, hb, fun j hj => ?_⟩
    have hj' : j < zs.length := by omega
    have := hc j hj'
    rw [addr_add] at this
    exact ⟨this, u_of (hwf (zs.getD j 0) (by rw [List.getD_eq_getElem?_getD, List.getElem?_eq_getElem hj']; exact List.getElem_mem _))⟩
/-- as a row for Raise -/
def ful (q : Nat → Int) (n : Nat) : List Int := (List.range n).map q
theorem ful_len (q : Nat → Int) (n : Nat) : (ful q n).length = n := by simp [ful]
theorem ful_succ (q : Nat → Int) (n : Nat) : ful q (n + 1) = ful q n ++ [q n] := by simp [ful, List.range_succ]
theorem Uf.us {w : World} {A : Option Addr} {n s : Nat} {q : Nat → Int} (h : Uf w A n q) (hs : ∀ b o, A = some ⟨b, o, none⟩ → b ≠ s) : Us w A s (ful q n) := by
  intro h0
  rw [ful_len] at h0
  obtain ⟨b, o, h1, h2, h3⟩ := h h0
  refine ⟨b, o, h1, h2, hs b o h1, fun j y hy => ?_⟩
  obtain ⟨hj, e⟩ := List.getElem?_eq_some_iff.1 hy
  rw [ful_len] at hj
  simp [ful] at e
  rw [← e]; exact (h3 j hj).1

/-! ## Those that wait, as they came -/
abbrev one : Nat → Int := fun _ => 1
theorem one_in (j : Nat) : 1 ≤ one j ∧ one j ≤ 16 := by unfold one; omega
/-- 1, 2, .. t -/
def row (t : Nat) : List It := fil false one t
theorem row_succ (t : Nat) : row (t + 1) = row t ++ [(((t + 1 : Nat) : Int), 1)] := by
  unfold row; rw [fil]; unfold ins plc; simp
theorem row_len (t : Nat) : (row t).length = t := fil_len _ _ _
theorem row_get : ∀ {t j : Nat}, j < t → (row t)[j]? = some (((j + 1 : Nat) : Int), 1)
  | 0, j, h => by omega
  | t + 1, j, h => by
    rw [row_succ, List.getElem?_append, row_len]
    split
    · rename_i c; exact row_get c
    · obtain rfl : j = t := by omega
      simp
theorem row_mem {t : Nat} {y : It} (h : y ∈ row t) : ∃ j, j < t ∧ y = (((j + 1 : Nat) : Int), 1) := by
  obtain ⟨j, hj, e⟩ := fil_mem h; exact ⟨j, hj, e⟩
theorem row_good {t : Nat} (h : t ≤ 16) : Good false (row t) := fil_good one_in h

/-- what the tasks wait for: v 0 task 1, v 1 task 2, .. -/
def Wants (W : Int → Wi) (t : Nat) (v : Nat → Wi) : Prop := ∀ j, j < t → W ((j + 1 : Nat) : Int) = v j
theorem wait_next {m c : Bool} {t : Nat} {W : Int → Wi} {v : Nat → Wi} (hm : m = true) (hW : Wants W t v) (ht : t < 16) (hp : perm (v t) = true) (hu : U (v t).1) :
    wait ⟨false, m, c, 0, row t, W⟩ ((t + 1 : Nat) : Int) 1 (v t) = (⟨false, m, c, 0, row (t + 1), fun i => if i = ((t + 1 : Nat) : Int) then v t else W i⟩, 0, false, 0) ∧
    Wants (fun i => if i = ((t + 1 : Nat) : Int) then v t else W i) (t + 1) v := by
  have e1 : addC (row t) ((t + 1 : Nat) : Int) 1 = 0 := fil_addC (f := one) one_in ht
  have e2 : addL false (row t) ((t + 1 : Nat) : Int) 1 = row (t + 1) := fil_addL (f := one) one_in ht
  refine ⟨?_, fun j hj => ?_⟩
  · rw [wait_no (S := ⟨false, m, c, 0, row t, W⟩) hp (by simp [full, hm]) (met_zero hu)]
    show ((⟨false, m, c, 0, addL false (row t) ((t + 1 : Nat) : Int) 1, fun i => if addC (row t) ((t + 1 : Nat) : Int) 1 = 0 ∧ i = ((t + 1 : Nat) : Int) then v t else W i⟩ : St), (0 : Int), false, addC (row t) ((t + 1 : Nat) : Int) 1) = _
    rw [e2]
    simp only [e1]
    simp
  · show (if ((j + 1 : Nat) : Int) = ((t + 1 : Nat) : Int) then v t else W _) = v j
    by_cases h : j = t
    · subst h; rw [if_pos rfl]
    · rw [if_neg (by omega)]; exact hW j (by omega)
theorem wants_fine {m c : Bool} {x : Int} {t : Nat} {W : Int → Wi} {v : Nat → Wi} (hW : Wants W t v) (ht : t ≤ 16) (hp : ∀ j, j < t → perm (v j) = true) : Fine ⟨false, m, c, x, row t, W⟩ := by
  refine ⟨row_good ht, fun y hy => ?_⟩
  obtain ⟨j, hj, rfl⟩ := row_mem hy
  show perm (W _) = true
  rw [hW j hj]; exact hp j hj

/-- the other one's turns leave this one alone -/
theorem At.apart {w w1 w2 : World} {s p s' p' : Nat} {S S' : St} (h : At w s p S w1) (g : At w s' p' S' w2) (k : On2 s' p' w1 w2) (h1 : s ≠ s') (h2 : s ≠ p') (h3 : p ≠ s') (h4 : p ≠ p') : At w s p S w2 := by
  obtain ⟨f, g1, g2, g3⟩ := h.sq
  exact ⟨h.1, h.2.1, ⟨f, g1.keep (k.block s g1.lt h1 h2), g2, g3.keep (k.block p g3.lt h3 h4)⟩, g.b⟩
theorem call_sym {f : FuncId} {args : Array Value} {w : World} {v : Value} (h : Calls Try.prog f args w fun e w' => e = .returned v ∧ w = w') : Calls Try.prog f args w fun e w' => e = .returned v ∧ w' = w := h.mono fun _ _ ⟨a, b⟩ => ⟨a, b.symm⟩
theorem Uf.us2 {w w1 : World} {A : Option Addr} {n s p : Nat} {q : Nat → Int} {S : St} (h : Uf w A n q) (g : At w s p S w1) : Us w1 A s (ful q n) := by
  intro h0
  rw [ful_len] at h0
  obtain ⟨b, o, h1, h2, h3⟩ := h h0
  have hs := g.1
  refine ⟨b, o, h1, Nat.lt_of_lt_of_le h2 g.b.size, by omega, fun j y hy => ?_⟩
  obtain ⟨hj, e⟩ := List.getElem?_eq_some_iff.1 hy
  rw [ful_len] at hj
  simp [ful] at e
  rw [← e, g.b.cell (p := ⟨b, o + j, none⟩) h2]; exact (h3 j hj).1
theorem wait_to {w w1 : World} {s p : Nat} {S S' : St} {id pri a k y : Int} {r : Bool} {e : Int} (id' a' : Int) (hi : id' = id) (ha : a' = a) (h : At w s p S w1) (hf : Fine S) (hs : wait S id pri (a, k) = (S', y, r, e)) :
    Calls Try.prog 12 #[.pointer (some ⟨s, 0, none⟩), .int .i64 id', .int .i64 pri, .int .u32 a', .int .i64 k] w1 fun en w' => en = .returned (.tuple #[.int .u32 y, .bool r, .int .i64 e]) ∧ At w s p S' w' ∧ On2 s p w1 w' := by
  subst hi ha
  exact wait_at h hf hs
theorem has_at {w w1 : World} {s p : Nat} {S : St} (h : At w s p S w1) (hg : Good S.b S.L) (id : Int) {r : Bool} (hr : decide (pos S.L id < S.L.length) = r) :
    Calls Try.prog 27 #[.pointer (some ⟨p, 0, none⟩), .int .i64 id] w1 fun e w' => e = .returned (.bool r) ∧ At w s p S w' ∧ Below w1.heap.size w1 w' := by
  obtain ⟨f, h1, h2, h3⟩ := h.sq
  refine (has_any p 70 S.b S.L w1 h3 hg.len id r hr).mono ?_
  rintro e w2 ⟨rfl, hb⟩
  exact ⟨rfl, h.below hb, hb⟩
end Go.Proofs.Ythgcmjiebdnnfaa
