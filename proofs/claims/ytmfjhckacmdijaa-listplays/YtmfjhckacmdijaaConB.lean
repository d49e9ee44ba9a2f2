/- Contracts of package list: what Remove writes. -/
import Derived.Test.YtmfjhckacmdijaaConA
namespace Go.Proofs.Ytmfjhckacmdijaa
open Go.RowKit

set_option maxHeartbeats 1600000 in
theorem remove_c (p m N H x n v : Nat) (h : Int) (f : Nat → Int) (w : World) (hl : Lm w p m N H f) (hx : x < N) (hn : n < N + H) (hv : v < N + H)
    (hf0 : f (x * 3) = (n : Int)) (hf1 : f (x * 3 + 1) = (v : Int)) (hf2 : f (x * 3 + 2) = h) (hh : h ≠ -1) :
    Calls Try.prog 18 #[.pointer (some ⟨p, 0, none⟩), .int .i64 (x : Int)] w fun e w' => e = .returned (.int .i64 0) ∧ Lm w' p m N H (rem f x v n) ∧ Only m m w w' := by
  have HA := Lib.hid (hasNode_any p m N H x f w hl true (by simp; omega))
  have HB := Lib.hid (isIn_ok p m N H x f w hl (by omega) true (by simp; omega))
  obtain ⟨k, h0, h1, hk1, hk2⟩ := hl.cells
  have hx0 := hl.at_ (i := x * 3) (by omega)
  have hx1 := hl.at_ (i := x * 3 + 1) (by omega)
  have hx2 := hl.at_ (i := x * 3 + 2) (by omega)
  rw [hf0] at hx0
  rw [hf1] at hx1
  rw [hf2] at hx2
  have ix : (x : Int) < (N : Int) + (H : Int) := by omega
  have iv : (v : Int) < (N : Int) + (H : Int) := by omega
  have jn : (n : Int) < (N : Int) + (H : Int) := by omega
  go_enter Try.func18, Try.ntmps18
  go_wp2_with fail
  refine HA.out.mono ?_
  rintro e w1 ⟨rfl, rfl⟩
  go_wp2_with fail
  refine HB.out.mono ?_
  rintro e w1 ⟨rfl, rfl⟩
  go_wp2
  have hlA := hl.alloc (.cells #[.int .i64 (n : Int), .int .i64 (v : Int), .int .i64 h] 54)
  have hoA := (Only.refl m m w).alloc (.cells #[.int .i64 (n : Int), .int .i64 (v : Int), .int .i64 h] 54)
  have hq := heap_alloc_new w (.cells #[.int .i64 (n : Int), .int .i64 (v : Int), .int .i64 h] 54)
  have qm : w.heap.size ≠ m := by have := hl.ltm; omega
  generalize w.alloc (.cells #[.int .i64 (n : Int), .int .i64 (v : Int), .int .i64 h] 54) = w1 at *
  generalize w.heap.size = q at *
  clear h0 h1 hx0 hx1 hx2 hl HA HB
  have q0 : w1.cell? ⟨q, 0, none⟩ = some (.int .i64 (n : Int)) := by rw [cell_of_row w1 q 0 _ 54 (0, 0) hq]; rfl
  have q1 : w1.cell? ⟨q, 1, none⟩ = some (.int .i64 (v : Int)) := by rw [cell_of_row w1 q 1 _ 54 (0, 0) hq]; rfl
  obtain ⟨k', h0, h1, hk1', hk2'⟩ := hlA.cells
  go_still_tail 10, (by kernel_rfl)
  change wpList _ _ _ _ _ w1.drew
  have hl2 : Lm w1.drew p m N H f := hlA
  have ho2 : Only m m w w1.drew := hoA.drew
  have hq2 : w1.drew.heap[q]? = _ := hq
  generalize w1.drew = w2 at *
  clear hlA hoA hq q0 q1 h0 h1 hk1' hk2'
  have hy := hl2.at_ (i := v * 3) (by omega)
  have hyz := hl2.frozen (v * 3)
  have hl3 := hl2.set (v * 3) n (by omega)
  have ho3 := ho2.setCell (q := ⟨m, v * 3, none⟩) (.inl rfl) (.int .i64 (n : Int))
  have hq3 := (Below.heap_setCell w2 ⟨m, v * 3, none⟩ (.int .i64 (n : Int)) q qm).trans hq2
  go_wp2
  clear hy hyz hl2 ho2 hq2
  generalize w2.setCell ⟨m, v * 3, none⟩ (.int .i64 (n : Int)) = w3 at *
  have q0 : w3.cell? ⟨q, 0, none⟩ = some (.int .i64 (n : Int)) := by rw [cell_of_row w3 q 0 _ 54 (0, 0) hq3]; rfl
  have q1 : w3.cell? ⟨q, 1, none⟩ = some (.int .i64 (v : Int)) := by rw [cell_of_row w3 q 1 _ 54 (0, 0) hq3]; rfl
  obtain ⟨k3, h0, h1, hk1', hk2'⟩ := hl3.cells
  go_still_tail 10, (by kernel_rfl)
  change wpList _ _ _ _ _ w3.drew
  have hl4 : Lm w3.drew p m N H _ := hl3
  have ho4 : Only m m w w3.drew := ho3.drew
  generalize w3.drew = w4 at *
  clear hl3 ho3 hq3 q0 q1 h0 h1 hk1' hk2'
  have hy := hl4.at_ (i := n * 3 + 1) (by omega)
  have hyz := hl4.frozen (n * 3 + 1)
  have hl5 := hl4.set (n * 3 + 1) v (by omega)
  have ho5 := ho4.setCell (q := ⟨m, n * 3 + 1, none⟩) (.inl rfl) (.int .i64 (v : Int))
  obtain ⟨k5, h0, h1, hk1', hk2'⟩ := hl5.cells
  have hx0 := hl5.at_ (i := x * 3) (by omega)
  have hz0 := hl5.frozen (x * 3)
  have hl6 := hl5.set (x * 3) 0 (by omega)
  have ho6 := ho5.setCell (q := ⟨m, x * 3, none⟩) (.inl rfl) (.int .i64 0)
  have hx1 := hl6.at_ (i := x * 3 + 1) (by omega)
  have hz1 := hl6.frozen (x * 3 + 1)
  have hl7 := hl6.set (x * 3 + 1) 0 (by omega)
  have ho7 := ho6.setCell (q := ⟨m, x * 3 + 1, none⟩) (.inl rfl) (.int .i64 0)
  have hx2 := hl7.at_ (i := x * 3 + 2) (by omega)
  have hz2 := hl7.frozen (x * 3 + 2)
  have hl8 := Lib.hid (hl7.set (x * 3 + 2) (-1) (by omega))
  have ho8 := Lib.hid (ho7.setCell (q := ⟨m, x * 3 + 2, none⟩) (.inl rfl) (.int .i64 (-1)))
  clear hl4 ho4 hl5 ho5 hl6 ho6 hl7 ho7
  go_wp2
  go_ret
  exact ⟨rfl, hl8.out, ho8.out⟩

/-- Lists behind a pointer, told by their rows. -/
def Lst (w : World) (p m N H : Nat) (R : Nat → List Nat) : Prop := ∃ f, Lm w p m N H f ∧ Rel N H f R
theorem Lst.ne {w : World} {p m N H : Nat} {R : Nat → List Nat} (h : Lst w p m N H R) : p ≠ m := by obtain ⟨f, h, _⟩ := h; exact h.ne
theorem Lst.ltp {w : World} {p m N H : Nat} {R : Nat → List Nat} (h : Lst w p m N H R) : p < w.heap.size := by obtain ⟨f, h, _⟩ := h; exact h.ltp
theorem Lst.ltm {w : World} {p m N H : Nat} {R : Nat → List Nat} (h : Lst w p m N H R) : m < w.heap.size := by obtain ⟨f, h, _⟩ := h; exact h.ltm
theorem Lst.only {w w' : World} {p m N H q r : Nat} {R : Nat → List Nat} (h : Lst w p m N H R) (k : Only q r w w') (h1 : p ≠ q) (h2 : p ≠ r) (h3 : m ≠ q) (h4 : m ≠ r) : Lst w' p m N H R := by
  obtain ⟨f, h, g⟩ := h; exact ⟨f, h.only k h1 h2 h3 h4, g⟩
theorem Lst.alloc {w : World} {p m N H : Nat} {R : Nat → List Nat} (h : Lst w p m N H R) (o : Obj) : Lst (w.alloc o) p m N H R := by
  obtain ⟨f, h, g⟩ := h; exact ⟨f, h.alloc o, g⟩
theorem Lst.drew {w : World} {p m N H : Nat} {R : Nat → List Nat} (h : Lst w p m N H R) : Lst w.drew p m N H R := h
theorem Lst.drewN {w : World} {p m N H : Nat} {R : Nat → List Nat} (h : Lst w p m N H R) (k : Nat) : Lst (w.drewN k) p m N H R := h
theorem Lst.below {w w' : World} {p m N H B : Nat} {R : Nat → List Nat} (h : Lst w p m N H R) (k : Below B w w') (h1 : p < B) (h2 : m < B) : Lst w' p m N H R := by
  obtain ⟨f, h, g⟩ := h; exact ⟨f, h.below k h1 h2, g⟩
theorem Lst.congr {w : World} {p m N H : Nat} {R R' : Nat → List Nat} (h : Lst w p m N H R) (e : ∀ k, k < H → R' k = R k) : Lst w p m N H R' := by
  obtain ⟨f, h, g⟩ := h
  exact ⟨f, h, fun k hk => by rw [e k hk]; exact g.ring k hk, fun k hk x hx => g.mem k hk x (by rw [← e k hk]; exact hx), g.ends, fun x hx => (g.out x hx).imp id fun ⟨k, hk, hm⟩ => ⟨k, hk, by rw [e k hk]; exact hm⟩, fun k hk => by rw [e k hk]; exact g.nodup k hk⟩

end Go.Proofs.Ytmfjhckacmdijaa
