/- known: three priorities. -/
import Derived.Test.YtdhemejipkaopaaDoorConD
namespace Go.Proofs.YtdhemejipkaopaaDoor
open Go.RowKit

def kB1 : Nat → Bool := upd none' [5, 200, 64] true
def kB2 : Nat → Bool := upd kB1 [64] false
theorem k1 : nxt kB2 0 = 5 := by decide +kernel
theorem k2 : nxt kB2 5 = 200 := by decide +kernel
theorem k3 : (row kB2 0).length = 2 := by decide +kernel
theorem k4 : has kB2 200 = true := by decide +kernel
theorem k5 : has kB2 64 = false := by decide +kernel

theorem below_drewN (p : Nat) (w : World) (n : Nat) : Below p w (w.drewN n) := ⟨rfl, rfl, rfl, Nat.le_refl _, fun _ _ => rfl⟩

/-- a literal's cells are read -/
theorem src_lit (w : World) (p : Nat) (hp : p < w.heap.size) (L : List Int) : Src p (w.alloc (.cells (L.map (Value.int .i64)).toArray 3)) (some ⟨w.heap.size, 0, none⟩) L := fun _ => by
  refine ⟨w.heap.size, 0, rfl, by simp, by omega, fun j x hx => ?_⟩
  rw [Nat.zero_add, cell_of_row _ w.heap.size j _ 3 (0, 0) (heap_alloc_new w _)]
  simp [hx]

/-- Set, Clear of a literal's numbers -/
theorem set_lit (p : Nat) (B : Nat → Bool) (L : List Int) (n : Nat) (hn : L.length = n) (hz : n ≤ 100) (w : World) (hm : Mp w p B) (C : Array Value) (hC : C = (L.map (Value.int .i64)).toArray) :
    Calls Tryd.prog 8 #[.pointer (some ⟨p, 0, none⟩), .slice (some ⟨w.heap.size, 0, none⟩) n n] (w.alloc (.cells C 3)) (Done p (upd B L true) w) := by
  subst hC
  exact (set_any p B _ L n n _ (hm.alloc _) (src_lit w p hm.lt L) hn (by omega)).mono fun e w' ⟨h1, h2, h3⟩ => ⟨h1, h2, ((Only.refl p w).alloc _).trans h3⟩
theorem clear_lit (p : Nat) (B : Nat → Bool) (L : List Int) (n : Nat) (hn : L.length = n) (hz : n ≤ 100) (w : World) (hm : Mp w p B) (C : Array Value) (hC : C = (L.map (Value.int .i64)).toArray) :
    Calls Tryd.prog 9 #[.pointer (some ⟨p, 0, none⟩), .slice (some ⟨w.heap.size, 0, none⟩) n n] (w.alloc (.cells C 3)) (Done p (upd B L false) w) := by
  subst hC
  exact (clear_any p B _ L n n _ (hm.alloc _) (src_lit w p hm.lt L) hn (by omega)).mono fun e w' ⟨h1, h2, h3⟩ => ⟨h1, h2, ((Only.refl p w).alloc _).trans h3⟩

set_option maxRecDepth 100000 in
set_option maxHeartbeats 1000000 in
theorem known_any (w : World) (hT : Tab w) : Calls Tryd.prog 7 #[] w fun e w' => e = .returned (.bool true) ∧ Below w.heap.size w w' := by
  have hm0 := Lib.hid (Mp.new w hT.pos)
  have hb0 := Lib.hid ((Below.refl w.heap.size w).alloc (Nat.le_refl _) (.cells #[.int .u64 0, .int .u64 0, .int .u64 0, .int .u64 0] 27))
  have hT0 := Lib.hid (hT.alloc (.cells #[.int .u64 0, .int .u64 0, .int .u64 0, .int .u64 0] 27))
  clear hT
  go_enter Tryd.func7, Tryd.ntmps7
  generalize hW : w.alloc (.cells #[.int .u64 0, .int .u64 0, .int .u64 0, .int .u64 0] 27) = w0 at hm0 hb0 hT0
  go_wp2_with fail
  generalize hp : w.heap.size = p at *
  have HP := Lib.hid hp
  clear hp
  have hle := hm0.out.lt
  refine (set_lit p none' [5, 200, 64] 3 rfl (by decide) w0 hm0.out _ rfl).mono ?_
  rintro e w1 ⟨rfl, h1, h2⟩
  have hm1 := Lib.hid h1
  have hT1 := Lib.hid (hT0.out.only h2 hm0.out.1)
  have hb1 := Lib.hid (hb0.out.trans (h2.below (B := p) (by omega) (Nat.le_refl _)))
  clear h1 h2 hm0 hT0 hb0 hW hle
  go_wp2_with fail
  refine (clear_lit p kB1 [64] 1 rfl (by decide) w1 hm1.out _ rfl).mono ?_
  rintro e w2 ⟨rfl, h1, h2⟩
  have hle := hm1.out.lt
  have hm2 := Lib.hid (show Mp w2 p kB2 from h1)
  have hT2 := Lib.hid (hT1.out.only h2 hm1.out.1)
  have hb2 := Lib.hid (hb1.out.trans (h2.below (B := p) (by omega) (Nat.le_refl _)))
  clear h1 h2 hm1 hT1 hb1 hle
  go_wp2_with fail
  refine (first_any p kB2 w2 hm2.out hT2.out 5 k1).mono ?_
  rintro e w' ⟨rfl, rfl⟩
  simp only [tell]
  go_wp2_with fail
  refine (after_any p kB2 5 w2 hm2.out hT2.out 200 k2).mono ?_
  rintro e w' ⟨rfl, rfl⟩
  simp only [tell]
  go_wp2_with fail
  refine (len_any p kB2 w2 hm2.out 2 k3).mono ?_
  rintro e w' ⟨rfl, rfl⟩
  go_wp2_with fail
  refine (has_any p kB2 200 w2 hm2.out true k4).mono ?_
  rintro e w' ⟨rfl, n1, rfl⟩
  go_wp2_with fail
  refine (has_any p kB2 64 (w2.drewN n1) (hm2.out.drewN n1) false k5).mono ?_
  rintro e w' ⟨rfl, n2, rfl⟩
  go_wp2_with fail
  refine (row_any p kB2 (w2.drewN (n1 + n2)) (hm2.out.drewN _) (hT2.out.drewN _) 2 k3).mono ?_
  rintro e w3 ⟨X, k, rfl, h1, h2⟩
  go_wp2
  go_ret
  have hle := hm2.out.lt
  refine ⟨rfl, ?_⟩
  rw [HP.out]
  exact (hb2.out.trans (below_drewN p w2 (n1 + n2))).trans (h2.mono (show p ≤ w2.heap.size by omega))
end Go.Proofs.YtdhemejipkaopaaDoor
