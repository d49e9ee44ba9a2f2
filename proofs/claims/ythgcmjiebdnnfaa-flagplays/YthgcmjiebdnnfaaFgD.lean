/- Contracts of package flag: Drop, Lower, NewFlag, Apart. -/
import Derived.Test.YthgcmjiebdnnfaaFgC
namespace Go.Proofs.Ythgcmjiebdnnfaa
open Go.RowKit
set_option maxRecDepth 100000

set_option maxHeartbeats 800000 in
theorem lower_any (s p : Nat) (S : St) (y : Int) (w : World) (h : Sq w s p S) :
    Calls Try.prog 19 #[.pointer (some ⟨s, 0, none⟩), .int .u32 y] w fun e w' => e = .returned (.tuple #[]) ∧ Sq w' s p (low S y) ∧ Only s w w' := by
  obtain ⟨b, m, c, x, L, W⟩ := S
  have d1 := h.c1
  have z1 := h.fz 1
  simp only at d1
  obtain ⟨u, hu⟩ : ∃ u, bits .and .u32 x y = u := ⟨_, rfl⟩
  have HU := Lib.hid hu
  have HS := Lib.hid (h.setX u)
  have HO := Lib.hid ((Only.refl s w).setCell (q := ⟨s, 1, none⟩) (.inl rfl) (.int .u32 u))
  clear h
  go_enter Try.func19, Try.ntmps19
  go_wp2
  go_end0
  refine ⟨rfl, ?_, HO.out⟩
  have := HS.out
  unfold low
  rw [show bits .and .u32 (St.x ⟨b, m, c, x, L, W⟩) y = u from HU.out]
  exact this

theorem agr_drop {f : Nat → Wi} {S : St} (h : Agr f S) (hg : Good S.b S.L) {id : Int} (hp : pos S.L id < S.L.length) {t : Nat} (ht : id = (t : Int)) {g : Nat → Wi} (hg' : ∀ i, i ≠ t → g i = f i) : Agr g (drop S id) := by
  intro y hy
  obtain ⟨q, hq⟩ := pos_at hp
  have h1 : y.1 ≠ id := hg.out hq y hy
  have h3 := List.mem_of_mem_eraseIdx hy
  have h2 := hg.rng y h3
  rw [hg' _ (by omega)]
  exact h y h3

set_option maxHeartbeats 800000 in
theorem drop_any (s p : Nat) (S : St) (id : Int) (w : World) (h : Sq w s p S) (hf : Good S.b S.L) :
    Calls Try.prog 20 #[.pointer (some ⟨s, 0, none⟩), .int .i64 id] w fun e w' => e = .returned (.bool (decide (pos S.L id < S.L.length))) ∧ Sq w' s p (drop S id) ∧ On2 s p w w' := by
  have HE := Lib.hid (ensure_ok s p S w h)
  have HN := Lib.hid h.ne
  obtain ⟨f, g1, g2, g3⟩ := h
  have d0 := g1.c0
  by_cases hp : pos S.L id < S.L.length
  · have hid : 1 ≤ id ∧ id ≤ 16 := by
      obtain ⟨q, hq⟩ := pos_at hp
      have := hf.rng _ (List.mem_of_getElem? hq)
      exact ⟨this.1, this.2.1⟩
    have HA := Lib.hid (fun t ht g hg => agr_drop g2 hf hp (t := t) ht (g := g) hg)
    have HR := Lib.hid (remove_any p 70 S.b S.L w g3 hf.len id)
    rw [decide_eq_true hp] at HR ⊢
    obtain ⟨t, ht⟩ : ∃ t : Nat, id = (t : Int) := ⟨id.toNat, by omega⟩
    subst ht
    have ht : t < 17 := by omega
    have hti : (t : Int) < 17 := by omega
    clear g2 g3 hf hp hid
    go_enter Try.func20, Try.ntmps20
    go_wp2_with fail
    refine HE.out.mono ?_
    rintro en w1 ⟨rfl, rfl⟩
    clear HE
    go_wp2_with fail
    refine HR.out.mono ?_
    rintro en w1 ⟨rfl, hl1, ho1⟩
    have g4 := g1.only ho1 HN.out
    have ho2 := On2.one (s := s) ho1
    clear g1 d0 ho1 HR
    have y1 := (g4.cw ht).1
    have z1 := g4.fz (4 + t * 2)
    have g5 := g4.setA ht 0
    have y2 := (g5.cw ht).2
    have z2 := g5.fz (4 + t * 2 + 1)
    have G6 := Lib.hid (g5.setB ht 0)
    have HL := Lib.hid ((hl1.keep (w' := w1.setCell ⟨s, 4 + t * 2, none⟩ (.int .u32 0)) (Below.heap_setCell _ _ _ _ (Ne.symm HN.out))).keep (w' := (w1.setCell ⟨s, 4 + t * 2, none⟩ (.int .u32 0)).setCell ⟨s, 4 + t * 2 + 1, none⟩ (.int .i64 0)) (Below.heap_setCell _ _ _ _ (Ne.symm HN.out)))
    have HO2 := Lib.hid ((ho2.setCell (q := ⟨s, 4 + t * 2, none⟩) (.inl rfl) (.int .u32 0)).setCell (q := ⟨s, 4 + t * 2 + 1, none⟩) (.inl rfl) (.int .i64 0))
    clear g4 g5 hl1 ho2
    go_wp2
    go_ret
    refine ⟨rfl, ⟨_, G6.out, HA.out t rfl _ fun i hi => ?_, HL.out⟩, HO2.out⟩
    simp [hi]
  · have HA := Lib.hid (show Agr f (drop S id) from g2.sub (List.eraseIdx_sublist _ _))
    have HR := Lib.hid (remove_any p 70 S.b S.L w g3 hf.len id)
    rw [decide_eq_false hp] at HR ⊢
    clear g2 g3 hf hp
    go_enter Try.func20, Try.ntmps20
    go_wp2_with fail
    refine HE.out.mono ?_
    rintro en w1 ⟨rfl, rfl⟩
    clear HE
    go_wp2_with fail
    refine HR.out.mono ?_
    rintro en w1 ⟨rfl, hl1, ho1⟩
    have G4 := Lib.hid (g1.only ho1 HN.out)
    have HL := Lib.hid hl1
    have HO := Lib.hid (On2.one (s := s) ho1)
    clear g1 d0 ho1 HR hl1
    go_wp2
    go_ret
    exact ⟨rfl, ⟨f, G4.out, HA.out, HL.out⟩, HO.out⟩

theorem agr_nil (f W : _) (b m c : Bool) (x : Int) : Agr f ⟨b, m, c, x, [], W⟩ := fun y hy => by simp at hy
/-- a new eventflag -/
def MadeS (S : St) (w : World) (v : Value) (w' : World) : Prop :=
  ∃ s p : Nat, w.heap.size ≤ s ∧ w.heap.size ≤ p ∧ v = .pointer (some ⟨s, 0, none⟩) ∧ Sq w' s p S ∧ Below w.heap.size w w'

theorem fg_zero (w : World) (p : Nat) (x : Int) (m c : Bool) :
    Fg (w.alloc (.cells #[.pointer (some ⟨p, 0, none⟩), .int .u32 x, .bool m, .bool c, .int .u32 0, .int .i64 0, .int .u32 0, .int .i64 0, .int .u32 0, .int .i64 0, .int .u32 0, .int .i64 0, .int .u32 0, .int .i64 0, .int .u32 0, .int .i64 0, .int .u32 0, .int .i64 0, .int .u32 0, .int .i64 0, .int .u32 0, .int .i64 0, .int .u32 0, .int .i64 0, .int .u32 0, .int .i64 0, .int .u32 0, .int .i64 0, .int .u32 0, .int .i64 0, .int .u32 0, .int .i64 0, .int .u32 0, .int .i64 0, .int .u32 0, .int .i64 0, .int .u32 0, .int .i64 0] 58)) w.heap.size 58 p 1 4 x m c (fun _ => (0, 0)) := by
  refine ⟨.inl ⟨rfl, rfl⟩, _, heap_alloc_new w _, rfl, rfl, rfl, rfl, rfl, fun i hi => ?_⟩
  match i, hi with
  | 0, _ => exact ⟨rfl, rfl⟩
  | 1, _ => exact ⟨rfl, rfl⟩
  | 2, _ => exact ⟨rfl, rfl⟩
  | 3, _ => exact ⟨rfl, rfl⟩
  | 4, _ => exact ⟨rfl, rfl⟩
  | 5, _ => exact ⟨rfl, rfl⟩
  | 6, _ => exact ⟨rfl, rfl⟩
  | 7, _ => exact ⟨rfl, rfl⟩
  | 8, _ => exact ⟨rfl, rfl⟩
  | 9, _ => exact ⟨rfl, rfl⟩
  | 10, _ => exact ⟨rfl, rfl⟩
  | 11, _ => exact ⟨rfl, rfl⟩
  | 12, _ => exact ⟨rfl, rfl⟩
  | 13, _ => exact ⟨rfl, rfl⟩
  | 14, _ => exact ⟨rfl, rfl⟩
  | 15, _ => exact ⟨rfl, rfl⟩
  | 16, _ => exact ⟨rfl, rfl⟩
  | n + 17, h => exact absurd h (by omega)

set_option maxHeartbeats 800000 in
theorem newflag_ok (b m c : Bool) (x : Int) (w : World) :
    Calls Try.prog 10 #[.bool b, .bool m, .bool c, .int .u32 x] w fun e w' => ∃ v, e = .returned v ∧ MadeS ⟨b, m, c, x, [], fun _ => (0, 0)⟩ w v w' := by
  have HN := Lib.hid (new_ok b w)
  go_enter Try.func10, Try.ntmps10
  go_wp2_with fail
  refine HN.out.mono ?_
  rintro e w1 ⟨p, hp, rfl, hl1, hb1⟩
  have HL := Lib.hid (fun o => hl1.alloc o)
  have HB := Lib.hid hb1
  have hsz := hb1.size
  clear hl1 hb1 HN
  go_wp2
  go_ret
  refine ⟨_, rfl, w1.heap.size, p, hsz, hp, rfl, ⟨fun _ => (0, 0), fg_zero w1 p x m c, agr_nil _ _ _ _ _ _, HL.out _⟩, HB.out.alloc hsz _⟩

theorem und58 : ∃ fs, Try.prog.underlying 58 = some (.struct fs) := struct_of (by kernel_rfl)
theorem info58 : (Try.prog.info? 58).map (·.size) = some 38 := by kernel_rfl

theorem gen_row {w : World} {cur cs : Array Value} {P : World → Prop} (h : ∀ W, Below w.heap.size w W → W.heap[w.heap.size]? = some (.cells cs 58 (0, 0)) → P W) :
    P ((w.alloc (.cells cur 58)).setRow w.heap.size cs) :=
  h _ (below_setRow ((Below.refl _ _).alloc (Nat.le_refl _) _) (Nat.le_refl _) _) (setRow_heap _ _ _ _ _ _ (heap_alloc_new w _))

set_option maxHeartbeats 1600000 in
theorem apart_ok (s p : Nat) (S : St) (w : World) (h : Sq w s p S) :
    Calls Try.prog 24 #[.pointer (some ⟨s, 0, none⟩)] w fun e w' => ∃ v, e = .returned v ∧ MadeS S w v w' := by
  have HE := Lib.hid (ensure_ok s p S w h)
  obtain ⟨f, g1, g2, g3⟩ := h
  have HA := Lib.hid g2
  obtain ⟨cs, hcs, hsz, hall, hmk⟩ := g1.cells
  obtain ⟨fs, hu⟩ := und58
  have hi : (Try.prog.info? 58).map (·.size) = some cs.size := by rw [hsz]; exact info58
  have d0 := g1.c0
  have G1 := Lib.hid g1
  have G3 := Lib.hid g3
  have HMK := Lib.hid hmk
  clear g1 g2 g3 hmk
  go_enter Try.func24, Try.ntmps24
  go_wp2_with fail
  refine HE.out.mono ?_
  rintro e w1 ⟨rfl, rfl⟩
  clear HE
  go_wp2_with (first
    | (refine wpList_load_row rfl 58 (.tmp 7) rfl s rfl 58 cs (0, 0) (.struct fs) hcs hu rfl hi ?_)
    | (refine wpList_store_row rfl 58 (.tmp 3) (.tmp 8) rfl w.heap.size cs rfl rfl 58 _ (heap_alloc_new w _) hi hsz.symm hall ?_; refine gen_row ?_; intro w2 hb2 hh2; have d2 := (G1.out.below hb2).c0)
    | (go_at_call 47; refine (twin_ok p S.b S.L w2 (G3.out.below hb2)).mono ?_; rintro e w5 ⟨q, hq, rfl, hl5, hb5⟩; have G5 := Lib.hid ((HMK.out w2 _ hh2).below hb5); have e5 := G5.out.c0; have z5 := G5.out.fz 0))
  go_ret
  have hlt := lt_of_heap hh2
  have hsz := hb2.size
  have hb6 : Below w.heap.size w w5 := hb2.trans (hb5.mono hsz)
  exact ⟨_, rfl, w.heap.size, q, Nat.le_refl _, by omega, rfl, ⟨f, G5.out.setP q, HA.out, hl5.keep (Below.heap_setCell _ _ _ _ (by show q ≠ w.heap.size; omega))⟩, hb6.setCell (by exact Nat.le_refl _) _⟩
end Go.Proofs.Ythgcmjiebdnnfaa
