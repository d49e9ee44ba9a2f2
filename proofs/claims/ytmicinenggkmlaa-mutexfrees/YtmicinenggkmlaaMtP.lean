/- What the laws of package mtx use: kinds made one by one. -/
import Derived.Test.YtmicinenggkmlaaMtN
namespace Go.Proofs.Ytmicinenggkmlaa
open Go.RowKit
set_option linter.unusedVariables false
set_option maxRecDepth 100000

def rowK (kf : Nat → Int × Int) (v : Nat) : List (Int × Int) := (List.range v).map kf
theorem rowK_len (kf : Nat → Int × Int) (v : Nat) : (rowK kf v).length = v := by unfold rowK; simp
theorem rowK_snoc (kf : Nat → Int × Int) (v : Nat) : rowK kf (v + 1) = rowK kf v ++ [kf v] := by unfold rowK; rw [List.range_succ, List.map_append]; rfl
theorem rowK_at {kf : Nat → Int × Int} {v i : Nat} (h : i < v) : (rowK kf v)[i]? = some (kf i) := by unfold rowK; rw [List.getElem?_map, List.getElem?_range h]; rfl
theorem rowK_ok {kf : Nat → Int × Int} {v : Nat} (h : ∀ i, i < v → okK (kf i).1 (kf i).2) : ∀ x, x ∈ rowK kf v → okK x.1 x.2 := by
  intro x hx
  unfold rowK at hx
  obtain ⟨i, hi, rfl⟩ := List.mem_map.1 hx
  exact h i (List.mem_range.1 hi)
theorem Lk.newK (kf : Nat → Int × Int) (v : Nat) : Lk (St.new (rowK kf v).length (kA (rowK kf v)) (kC (rowK kf v))) v (fun i => (kf i).1) (fun i => (kf i).2) (fun _ => 0) (fun _ _ => False) (fun _ => 16) := by
  have h := Lk.new (rowK kf v).length (kA (rowK kf v)) (kC (rowK kf v))
  rw [rowK_len] at h ⊢
  exact ⟨rfl, fun i hi => ⟨(kA_at (rowK_at hi)).1, (kA_at (rowK_at hi)).2, rfl⟩, h.w, h.b⟩

theorem kind_pre {w wr wb : World} {X1 : Option Addr} {k1 v : Nat} {kf : Nat → Int × Int} {a c : Int} (hown : wr.ownsRow w.heap.size 55 2 (.slice X1 v k1) v (K.vals K.ck (rowK kf v))) (hb : Below w.heap.size w wr)
    (hwb : wr.alloc (.cells #[.int .i64 a, .int .i64 c] 55) = wb) :
    wb.ownsRow w.heap.size 55 2 (.slice X1 v k1) v (K.vals K.ck (rowK kf v)) ∧ K.Sr K.ck wb (some ⟨wr.heap.size, 0, none⟩) 1 [(a, c)] ∧ w.heap.size ≤ wb.heap.size := by
  have h1 : Below wr.heap.size wr wb := by rw [← hwb]; exact (Below.refl _ _).alloc (Nat.le_refl _) _
  have src := K.sr_one K.ck wr 55 (a, c)
  rw [show (K.ck (a, c)).toArray = #[.int .i64 a, .int .i64 c] from rfl, hwb] at src
  exact ⟨K.own_below hown h1, src, by have := hb.size; have := h1.size; omega⟩
theorem kind_post {w wr wb w7 : World} {X1 X7 : Option Addr} {k1 k7 v : Nat} {kf : Nat → Int × Int} {a c : Int} (hown : wb.ownsRow w.heap.size 55 2 (.slice X1 v k1) v (K.vals K.ck (rowK kf v))) (hb : Below w.heap.size w wr)
    (hwb : wr.alloc (.cells #[.int .i64 a, .int .i64 c] 55) = wb) (hx : kf v = (a, c))
    (h7 : w7.ownsRow w.heap.size 55 2 (.slice X7 (v + 1) k7) (v + 1) (K.vals K.ck (rowK kf v ++ [(a, c)]))) (hg : wb.grownBy w7 (Value.slice X1 v k1).ownBlock) :
    w7.ownsRow w.heap.size 55 2 (.slice X7 (v + 1) k7) (v + 1) (K.vals K.ck (rowK kf (v + 1))) ∧ Below w.heap.size w w7 := by
  have h1 : Below wr.heap.size wr wb := by rw [← hwb]; exact (Below.refl _ _).alloc (Nat.le_refl _) _
  refine ⟨by rw [rowK_snoc, hx]; exact h7, (hb.trans (h1.mono hb.size)).grown hg (by have := hb.size; have := h1.size; omega) (fun k hk => (hown.lt k hk).1)⟩
/-- the kinds are made: New is called -/
theorem kind_new {w w1 : World} (X : Option Addr) (k n : Nat) (kf : Nat → Int × Int) (h8 : n ≤ 8) (hown : w1.ownsRow w.heap.size 55 2 (.slice X n k) n (K.vals K.ck (rowK kf n))) (hk : ∀ i, i < n → okK (kf i).1 (kf i).2) (hb : Below w.heap.size w w1) :
    Calls Try.prog 11 #[.slice X n k] w1 fun e w' => ∃ (a g : Nat) (q : Nat → Nat) (S : St), e = .returned (.tuple #[PtrV a, .int .i64 0]) ∧ At w a g q S w' ∧ Lk S n (fun i => (kf i).1) (fun i => (kf i).2) (fun _ => 0) (fun _ _ => False) (fun _ => 16) := by
  refine (new_at (w := w) X k n (rowK kf n) (rowK_len kf n) (by rw [rowK_len]; exact h8) (K.own_src (rowK_len kf n) hown) (rowK_ok hk) hb).mono ?_
  rintro e w' ⟨a, g, q, rfl, h⟩
  exact ⟨a, g, q, _, rfl, h, Lk.newK kf n⟩
theorem ok_fifo {a : Int} (h1 : 0 ≤ a) (h2 : a ≤ 2) : okK a 0 := by
  unfold okK
  rw [if_neg (by omega)]
  omega
end Go.Proofs.Ytmicinenggkmlaa
