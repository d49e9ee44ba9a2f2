/- Contracts of package order: removeAt, insertAt, New, Twin, Row. -/
import Derived.Test.YtneimdjgbblaoaaConA
namespace Go.Proofs.Ytneimdjgbblaoaa
open Go.RowKit
set_option maxRecDepth 100000
variable {O : Nat} {X : Nat → Option Value}

theorem wrap_nat (a : Nat) (ha : a ≤ 1000) (k : Nat) (hk : k ≤ 1000) : IntKind.i64.wrap ((a : Int) + (k : Int)) = ((a + k : Nat) : Int) := by
  have := IntWalk.i64_in ((a : Int) + (k : Int)) (by omega)
  omega

/-- cells behind removeAt: m are left -/
def remF (f : Nat → Int) (a m : Nat) : Nat → Int := fun i => if i = m * 2 + 1 then 0 else if i = m * 2 then 0 else if a * 2 ≤ i ∧ i < a * 2 + (m - a) * 2 then f ((a + 1) * 2 + (i - a * 2)) else f i

set_option maxHeartbeats 800000 in
theorem removeAt_c (p T m a : Nat) (b : Bool) (f : Nat → Int) (w : World) (hl : Lm O X w p T (m + 1) b f) (ha : a ≤ m) (hn : m < 16) (x : Int) (hx : x = (a : Int)) :
    Calls Try.prog 65 #[.pointer (some ⟨p, O, none⟩), .int .i64 x] w fun e w' => e = .returned (.tuple #[]) ∧ Lm O X w' p T m b (remF f a m) ∧ Only p w w' := by
  subst hx
  obtain ⟨Z, hX, hcutl⟩ := cut_l p O a (by omega)
  obtain ⟨Y, k, hY, hcutlh⟩ := cut_lh p O (a + 1) (m + 1) (by omega) (by omega)
  rw [Nat.add_sub_add_right] at hcutlh
  have c1 := fun W => hcutl W (a : Int) rfl
  have c2 := fun W => hcutlh W (IntKind.i64.wrap ((a : Int) + 1)) (wrap_nat a (by omega) 1 (by omega))
  have h0 := hl.count
  clear hcutl hcutlh
  obtain ⟨n, hnm⟩ : ∃ n, m + 1 = n := ⟨_, rfl⟩
  rw [hnm] at c2 h0 hl
  have HX := Lib.hid hX
  have HY := Lib.hid hY
  clear hX hY
  go_enter Try.func65, Try.ntmps65
  go_wp2
  go_still_tail 15, (by kernel_rfl)
  change wpList _ _ _ _ _ w.drew
  have hl1 : Lm O X w.drew p T n b f := hl
  have ho1 : Only p w w.drew := (Only.refl p w).drew
  generalize w.drew = w1 at *
  obtain ⟨cs, hcs, hcr⟩ := hl1
  have hcl : O + 32 < cs.size := (Array.getElem?_eq_some_iff.1 hcr.2.1).1
  have hl1 : Lm O X w1 p T n b f := ⟨cs, hcs, hcr⟩
  refine wpList_copy_items rfl _ _ rfl Z Y (16 - a) (16 - a) (m - a) k rfl rfl (by omega) p (O + a * 2) (fun j => f ((a + 1) * 2 + j)) cs T hcs (fun h => ⟨HX.out (by omega), p, O + (a + 1) * 2, HY.out (by omega), fun j hj => hl1.at_ (by omega) (by omega)⟩) (by omega) ?_
  intro w2 cs2 hg2 hcp hsz ho
  have hl2 := lm_copied hcr hg2 (a * 2) (m - a) _ hcp (by omega)
  have ho2 := ho1.trans ho
  clear hcs hcr hcl hl1 ho ho1 hg2 hcp hsz c1 c2 h0
  subst hnm
  have h0 := hl2.count
  have h0z := hl2.frozen (O + 32)
  have hl3 := hl2.setCount m (m : Int) rfl
  have ho3 := ho2.setCell (q := ⟨p, O + 32, none⟩) (.inl rfl) (.int .i64 (m : Int))
  clear hl2 ho2
  go_wp2
  clear h0 h0z
  generalize w2.setCell ⟨p, O + 32, none⟩ (.int .i64 (m : Int)) = w3 at *
  have h0 := hl3.count
  have im : (m : Int) < 16 := by omega
  go_still_tail 9, (by kernel_rfl)
  change wpList _ _ _ _ _ w3.drew
  have hl4 : Lm O X w3.drew p T m b _ := hl3
  have ho4 : Only p w w3.drew := ho3.drew
  generalize w3.drew = w4 at *
  clear hl3 ho3 h0
  have hy := hl4.at_ (a := O + m * 2) (i := m * 2) rfl (by omega)
  have hyz := hl4.frozen (O + m * 2)
  have hl5 := hl4.set (O + m * 2) (m * 2) 0 rfl (by omega)
  have ho5 := ho4.setCell (q := ⟨p, O + m * 2, none⟩) (.inl rfl) (.int .i64 0)
  have hz := hl5.at_ (a := O + m * 2 + 1) (i := m * 2 + 1) (by omega) (by omega)
  have hzz := hl5.frozen (O + m * 2 + 1)
  have hl6 := Lib.hid (hl5.set (O + m * 2 + 1) (m * 2 + 1) 0 (by omega) (by omega))
  have ho6 := Lib.hid (ho5.setCell (q := ⟨p, O + m * 2 + 1, none⟩) (.inl rfl) (.int .i64 0))
  clear hl4 ho4 hl5 ho5
  go_wp2
  go_end0
  exact ⟨rfl, hl6.out, ho6.out⟩

/-- cells behind insertAt: n were there -/
def insF (f : Nat → Int) (a n : Nat) (x : It) : Nat → Int := fun i => if i = a * 2 + 1 then x.2 else if i = a * 2 then x.1 else if (a + 1) * 2 ≤ i ∧ i < (a + 1) * 2 + (n - a) * 2 then f (a * 2 + (i - (a + 1) * 2)) else f i

set_option maxHeartbeats 800000 in
theorem insertAt_c (p T n a : Nat) (b : Bool) (f : Nat → Int) (x : It) (w : World) (hl : Lm O X w p T n b f) (ha : a ≤ n) (hn : n < 16) :
    Calls Try.prog 74 #[.pointer (some ⟨p, O, none⟩), .int .i64 (a : Int), .agg #[.int .i64 x.1, .int .i64 x.2]] w fun e w' => e = .returned (.tuple #[]) ∧ Lm O X w' p T (n + 1) b (insF f a n x) ∧ Only p w w' := by
  obtain ⟨Z, hX, hcutl⟩ := cut_l p O (a + 1) (by omega)
  obtain ⟨Y, k, hY, hcutlh⟩ := cut_lh p O a n (by omega) (by omega)
  have c1 := fun W => hcutl W (IntKind.i64.wrap ((a : Int) + 1)) (wrap_nat a (by omega) 1 (by omega))
  have c2 := fun W => hcutlh W (a : Int) rfl
  clear hcutl hcutlh
  have HX := Lib.hid hX
  have HY := Lib.hid hY
  clear hX hY
  obtain ⟨d, hd⟩ : ∃ d, 16 - (a + 1) = d := ⟨_, rfl⟩
  rw [hd] at c1
  go_enter Try.func74, Try.ntmps74
  go_wp2
  have hl0 := hl.alloc (.cells #[.int .i64 x.1, .int .i64 x.2] 60)
  have ho0 := (Only.refl p w).alloc (.cells #[.int .i64 x.1, .int .i64 x.2] 60)
  have hq0 := heap_alloc_new w (.cells #[.int .i64 x.1, .int .i64 x.2] 60)
  have hqp : w.heap.size ≠ p := by have := hl.lt; omega
  have hqs : w.heap.size < (w.alloc (.cells #[.int .i64 x.1, .int .i64 x.2] 60)).heap.size := by show w.heap.size < (w.heap.push _).size; simp
  generalize w.alloc (.cells #[.int .i64 x.1, .int .i64 x.2] 60) = w0 at *
  clear hl
  obtain ⟨g, hgs⟩ : ∃ g, w.heap.size = g := ⟨_, rfl⟩
  rw [hgs] at hq0 hqp hqs ⊢
  clear hgs
  have h0 := hl0.count
  go_still_tail 15, (by kernel_rfl)
  change wpList _ _ _ _ _ w0.drew
  have hl1 : Lm O X w0.drew p T n b f := hl0
  have ho1 : Only p w w0.drew := ho0.drew
  have hq1 : w0.drew.heap[g]? = _ := hq0
  have hqs1 : g < w0.drew.heap.size := hqs
  generalize w0.drew = w1 at *
  clear hl0 h0 ho0 hq0 hqs
  obtain ⟨cs, hcs, hcr⟩ := hl1
  have hcl : O + 32 < cs.size := (Array.getElem?_eq_some_iff.1 hcr.2.1).1
  have hl1 : Lm O X w1 p T n b f := ⟨cs, hcs, hcr⟩
  refine wpList_copy_items rfl _ _ rfl Z Y d d (n - a) k rfl rfl (by omega) p (O + (a + 1) * 2) (fun j => f (a * 2 + j)) cs T hcs (fun h => ⟨HX.out (by omega), p, O + a * 2, HY.out (by omega), fun j hj => hl1.at_ (by omega) (by omega)⟩) (by omega) ?_
  intro w2 cs2 hg2 hcp hsz ho
  have hl2 := lm_copied hcr hg2 ((a + 1) * 2) (n - a) _ hcp (by omega)
  have ho2 := ho1.trans ho
  have hq2 := (ho.block g hqs1 hqp).trans hq1
  clear hcs hcr hcl hl1 ho ho1 hg2 hcp hsz c1 c2 hq1 hqs1
  have q0 : w2.cell? ⟨g, 0, none⟩ = some (.int .i64 x.1) := by rw [cell_of_row w2 g 0 _ 60 (0, 0) hq2]; rfl
  have q1 : w2.cell? ⟨g, 1, none⟩ = some (.int .i64 x.2) := by rw [cell_of_row w2 g 1 _ 60 (0, 0) hq2]; rfl
  have im : (a : Int) < 16 := by omega
  go_wp2
  go_still_tail 6, (by kernel_rfl)
  change wpList _ _ _ _ _ w2.drew
  have hl4 : Lm O X w2.drew p T n b _ := hl2
  have ho4 : Only p w w2.drew := ho2.drew
  generalize w2.drew = w4 at *
  clear hl2 ho2 q0 q1 hq2
  have hy := hl4.at_ (a := O + a * 2) (i := a * 2) rfl (by omega)
  have hyz := hl4.frozen (O + a * 2)
  have hl5 := hl4.set (O + a * 2) (a * 2) x.1 rfl (by omega)
  have ho5 := ho4.setCell (q := ⟨p, O + a * 2, none⟩) (.inl rfl) (.int .i64 x.1)
  have hz := hl5.at_ (a := O + a * 2 + 1) (i := a * 2 + 1) (by omega) (by omega)
  have hzz := hl5.frozen (O + a * 2 + 1)
  have hl6 := hl5.set (O + a * 2 + 1) (a * 2 + 1) x.2 (by omega) (by omega)
  have ho6 := ho5.setCell (q := ⟨p, O + a * 2 + 1, none⟩) (.inl rfl) (.int .i64 x.2)
  have h0 := hl6.count
  have h0z := hl6.frozen (O + 32)
  have hl7 := Lib.hid (hl6.setCount (n + 1) ((n : Int) + 1) (by omega))
  have ho7 := Lib.hid (ho6.setCell (q := ⟨p, O + 32, none⟩) (.inl rfl) (.int .i64 ((n : Int) + 1)))
  clear hl4 ho4 hl5 ho5 hl6 ho6
  go_wp2
  go_end0
  exact ⟨rfl, hl7.out, ho7.out⟩
end Go.Proofs.Ytneimdjgbblaoaa
