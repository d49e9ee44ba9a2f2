/- Contracts of package heap: find, removeAt. -/
import Derived.Test.YtpnhpgdidineaaaConB
namespace Go.Proofs.Ytpnhpgdidineaaa
open Go.RowKit

/-- what find tells -/
def Fnd (H : List En) (h : Int) (r : Nat) (ok : Bool) : Prop :=
  (ok = true ∧ r < H.length ∧ (ix H r).2.1 = h) ∨ (ok = false ∧ r = 0 ∧ ∀ x, x ∈ H → x.2.1 ≠ h)

set_option maxHeartbeats 800000 in
theorem find_nil (w : World) (h : Int) :
    Calls Try.prog 36 #[.slice none 0 0, .int .i64 h] w fun e w' => ∃ (r : Nat) (ok : Bool), e = .returned (.tuple #[.int .i64 (r : Int), .bool ok]) ∧ Fnd [] h r ok ∧ Below w.heap.size w w' := by
  go_enter Try.func36, Try.ntmps36
  go_wp2
  go_loopw [10] (fun i wr => i = .int .i64 0 ∧ wr = w) (fun _ _ => 0)
  case atStart => exact ⟨rfl, rfl⟩
  case round =>
    obtain ⟨rfl, rfl⟩ := hrel
    go_wp2
    go_ret2
    exact ⟨0, false, rfl, .inr ⟨rfl, rfl, fun x hx => by simp at hx⟩, Below.refl _ _⟩

set_option maxHeartbeats 800000 in
theorem find_row (g k n : Nat) (H : List En) (w : World) (hr : Rw w g k H) (hn : H.length = n) (hn2 : n ≤ 256) (h : Int) :
    Calls Try.prog 36 #[.slice (some ⟨g, 0, none⟩) n k, .int .i64 h] w fun e w' => ∃ (r : Nat) (ok : Bool), e = .returned (.tuple #[.int .i64 (r : Int), .bool ok]) ∧ Fnd H h r ok ∧ Below w.heap.size w w' := by
  have HL := Lib.hid hn
  have HR := Lib.hid hr
  clear hr hn
  go_enter Try.func36, Try.ntmps36
  go_wp2
  go_loopw [10] (fun i wr => ∃ t : Nat, t ≤ n ∧ i = .int .i64 (t : Int) ∧ Hid (∀ j : Nat, j < t → (ix H j).2.1 ≠ h) ∧ Below w.heap.size w wr) (fun i _ => n - (intOf i).toNat)
  case atStart => exact ⟨0, Nat.zero_le _, rfl, fun j hj => absurd hj (by omega), Below.refl _ _⟩
  case round =>
    obtain ⟨t, ht, rfl, hno, hb⟩ := hrel
    by_cases hlt : t < n
    · obtain ⟨c0, c1, c2⟩ := (HR.out.below hb).cells (i := t) (by rw [HL.out]; exact hlt)
      obtain ⟨x, hx⟩ : ∃ x, ix H t = x := ⟨_, rfl⟩
      rw [hx] at c0 c1 c2
      have HX := Lib.hid hx
      have i1 : (t : Int) < (n : Int) := by omega
      clear hx
      by_cases he : x.2.1 = h
      · have te : (x.2.1 == h) = true := by simpa using he
        have HE := Lib.hid he
        clear he
        go_wp2
        go_ret2
        exact ⟨t, true, rfl, .inl ⟨rfl, by rw [HL.out]; exact hlt, by rw [HX.out]; exact HE.out⟩, hb.alloc (by have := hb.size; omega) _⟩
      · have te : (x.2.1 == h) = false := by simpa using he
        have HE := Lib.hid he
        clear he
        go_wp2
        go_roundw
        case rel =>
          refine ⟨t + 1, by omega, by go_num, fun j hj => ?_, hb.alloc (by have := hb.size; omega) _⟩
          by_cases e : j = t
          · subst e; rw [HX.out]; exact HE.out
          · exact hno.out j (by omega)
        case measure => simp [intOf]; omega
    · have i1 : decide ((t : Int) < (n : Int)) = false := by simp; omega
      go_wp2
      go_ret2
      refine ⟨0, false, rfl, .inr ⟨rfl, rfl, fun x hx => ?_⟩, hb⟩
      obtain ⟨j, hj, rfl⟩ := mem_ix hx
      exact hno.out j (by rw [HL.out] at hj; omega)

/-- the entries' slice: nil, or a row -/
def Es (w : World) (B : Nat) (v : Value) (H : List En) : Prop := w.ownsRow B 80 3 v H.length (vals cp H)
theorem Es.open {w : World} {B : Nat} {v : Value} {H : List En} (h : Es w B v H) : (v = .slice none 0 0 ∧ H = []) ∨ ∃ g k : Nat, v = .slice (some ⟨g, 0, none⟩) H.length k ∧ Rw w g k H ∧ B ≤ g := by
  rcases h.2 with ⟨h1, h2⟩ | ⟨g, cap, cur, h1, _⟩
  · exact .inl ⟨h1, List.eq_nil_of_length_eq_zero h2⟩
  · unfold Es at h
    rw [h1] at h
    exact .inr ⟨g, cap, h1, own_rw rfl h⟩

theorem find_any (B : Nat) (v : Value) (H : List En) (w : World) (hr : Es w B v H) (hn2 : H.length ≤ 256) (h : Int) :
    Calls Try.prog 36 #[v, .int .i64 h] w fun e w' => ∃ (r : Nat) (ok : Bool), e = .returned (.tuple #[.int .i64 (r : Int), .bool ok]) ∧ Fnd H h r ok ∧ Below w.heap.size w w' := by
  rcases hr.open with ⟨rfl, rfl⟩ | ⟨g, k, rfl, hw, _⟩
  · exact find_nil w h
  · exact find_row g k _ H w hw rfl hn2 h

theorem struct_of {o : Option TypeDesc} (h : (match o with | some (.struct _) => true | _ => false) = true) : ∃ fs, o = some (.struct fs) := by
  split at h
  · exact ⟨_, rfl⟩
  · cases h
theorem und66 : ∃ fs, Try.prog.underlying 80 = some (.struct fs) := struct_of (by kernel_rfl)
theorem inf66 : (Try.prog.info? 80).map (·.size) = some 3 := by kernel_rfl
/-- an entry is told -/
theorem ret_entry {fn : Func} {s : Tmp} (h : fn.results = #[.cell s 80]) (tmps : Array Value) (w : World) (g : Nat) (a b c : Value) (fr : Nat × Nat)
    (hp : tmps.getD s undef = .pointer (some ⟨g, 0, none⟩)) (hg : w.heap[g]? = some (.cells #[a, b, c] 80 fr)) : (results fn tmps).run Try.prog w = .ok (.agg #[a, b, c]) w := by
  obtain ⟨fs, h1⟩ := und66
  exact results_cell_row h tmps w g 80 #[a, b, c] fr (.struct fs) hp hg h1 rfl inf66

set_option maxHeartbeats 1600000 in
theorem removeAt_any (p g k m a : Nat) (last : Value) (H : List En) (w : World) (hh : w.heap[p]? = some (.cells #[.slice (some ⟨g, 0, none⟩) (m + 1) k, last] 77 (0, 0))) (hr : Rw w g k H) (hn : H.length = m + 1) (hn2 : m < 256) (ha : a ≤ m) (hH : Hp H) (x : En) (hx : ix H a = x) :
    Calls Try.prog 37 #[.pointer (some ⟨p, 0, none⟩), .int .i64 (a : Int)] w fun e w' => e = .returned (.agg #[.int .u64 x.1, .int .i64 x.2.1, .int .i64 x.2.2]) ∧
      (∃ H', (x :: H').Perm H ∧ Hp H' ∧ w'.heap[p]? = some (.cells #[.slice (some ⟨g, 0, none⟩) m k, last] 77 (0, 0)) ∧ Rw w' g k H') ∧ Only p g w w' := by
  have hpg : p ≠ g := by
    rintro rfl
    obtain ⟨cs, h1, _⟩ := hr
    rw [hh] at h1; injection h1 with h1; injection h1 with _ h2; cases h2
  have hlt := lt_of_heap hh
  have hlg := hr.lt
  have hk : m + 1 ≤ k := by obtain ⟨_, _, _, h2, _⟩ := hr; omega
  have hk2 : k ≤ 9223372036854775807 := by obtain ⟨_, _, _, _, h2, _⟩ := hr; simp [maxLen] at h2; omega
  obtain ⟨z, hz⟩ : ∃ z, ix H m = z := ⟨_, rfl⟩
  obtain ⟨wa, hWA⟩ : ∃ wa, w.alloc (.cells #[.int .u64 0, .int .i64 0, .int .i64 0] 80) = wa := ⟨_, rfl⟩
  obtain ⟨wb, hWB⟩ : ∃ wb, wa.alloc (.cells #[.int .u64 x.1, .int .i64 x.2.1, .int .i64 x.2.2] 80) = wb := ⟨_, rfl⟩
  have hba : Below w.heap.size w wa := by rw [← hWA]; exact (Below.refl _ _).alloc (Nat.le_refl _) _
  have hsa : wa.heap.size = w.heap.size + 1 := by rw [← hWA]; simp
  have hbb : Below wa.heap.size wa wb := by rw [← hWB]; exact (Below.refl _ _).alloc (Nat.le_refl _) _
  have hsb : wb.heap.size = w.heap.size + 2 := by rw [← hWB]; simp [hsa]
  have q1 : wa.heap[w.heap.size]? = some (.cells #[.int .u64 0, .int .i64 0, .int .i64 0] 80 (0, 0)) := by rw [← hWA]; exact heap_alloc_new w _
  have q2 : wb.heap[w.heap.size]? = some (.cells #[.int .u64 0, .int .i64 0, .int .i64 0] 80 (0, 0)) := (hbb.block _ (by omega)).trans q1
  have q3 : wb.heap[w.heap.size + 1]? = some (.cells #[.int .u64 x.1, .int .i64 x.2.1, .int .i64 x.2.2] 80 (0, 0)) := by rw [← hsa, ← hWB]; exact heap_alloc_new wa _
  have ra := hr.below hba
  have rb := ra.below hbb
  have hpa := (hba.block p hlt).trans hh
  have hpb := (hbb.block p (by omega)).trans hpa
  have c0 : wa.cell? ⟨p, 0, none⟩ = some (.slice (some ⟨g, 0, none⟩) (m + 1) k) := by rw [cell_of_row wa p 0 _ 77 (0, 0) hpa]; rfl
  have c0b : wb.cell? ⟨p, 0, none⟩ = some (.slice (some ⟨g, 0, none⟩) (m + 1) k) := by rw [cell_of_row wb p 0 _ 77 (0, 0) hpb]; rfl
  have z0b : wb.frozen? ⟨p, 0, none⟩ = false := frozen_of_row wb p 0 _ 77 hpb
  obtain ⟨a0, a1, a2⟩ := ra.cells (i := a) (by omega)
  obtain ⟨b0, b1, b2⟩ := rb.cells (i := a) (by omega)
  obtain ⟨d0, d1, d2⟩ := rb.cells (i := m) (by omega)
  rw [hx] at a0 a1 a2 b0 b1 b2
  rw [hz] at d0 d1 d2
  have f0 := rb.frozen (a * 3)
  have f1 := rb.frozen (a * 3 + 1)
  have f2 := rb.frozen (a * 3 + 2)
  have rc := rb.put (i := a) (by omega) z
  have oc := put3_only wb g a z
  unfold put3 at rc oc
  obtain ⟨wc, hWC⟩ : ∃ wc, ((wb.setCell ⟨g, a * 3, none⟩ (.int .u64 z.1)).setCell ⟨g, a * 3 + 1, none⟩ (.int .i64 z.2.1)).setCell ⟨g, a * 3 + 2, none⟩ (.int .i64 z.2.2) = wc := ⟨_, rfl⟩
  rw [hWC] at rc oc
  have ez : ix (H.set a z) m = z := by
    unfold ix
    rw [List.getElem?_set]
    by_cases c : a = m
    · rw [if_pos c, if_pos (by omega)]; rfl
    · rw [if_neg c]; exact hz
  obtain ⟨e0, e1, e2⟩ := rc.cells (i := m) (by rw [List.length_set]; omega)
  rw [ez] at e0 e1 e2
  have g0 := rc.frozen (m * 3)
  have g1 := rc.frozen (m * 3 + 1)
  have g2 := rc.frozen (m * 3 + 2)
  have rd := rc.put (i := m) (by omega) (0, 0, 0)
  have od := put3_only wc g m (0, 0, 0)
  unfold put3 at rd od
  obtain ⟨wd, hWD⟩ : ∃ wd, ((wc.setCell ⟨g, m * 3, none⟩ (.int .u64 0)).setCell ⟨g, m * 3 + 1, none⟩ (.int .i64 0)).setCell ⟨g, m * 3 + 2, none⟩ (.int .i64 0) = wd := ⟨_, rfl⟩
  rw [hWD] at rd od
  have hpc := (oc.block p (lt_of_heap hpb) hpg hpg).trans hpb
  have hpd := (od.block p (lt_of_heap hpc) hpg hpg).trans hpc
  have c0d : wd.cell? ⟨p, 0, none⟩ = some (.slice (some ⟨g, 0, none⟩) (m + 1) k) := by rw [cell_of_row wd p 0 _ 77 (0, 0) hpd]; rfl
  have z0d : wd.frozen? ⟨p, 0, none⟩ = false := frozen_of_row wd p 0 _ 77 hpd
  have hpe := heap_setCell_same wd p 0 _ 77 (.slice (some ⟨g, 0, none⟩) m k) hpd
  have re := rd.keep (Below.heap_setCell wd ⟨p, 0, none⟩ (.slice (some ⟨g, 0, none⟩) m k) g (Ne.symm hpg))
  have oe : Only p g wd _ := (Only.refl p g wd).setCell (q := ⟨p, 0, none⟩) (.inl rfl) (.slice (some ⟨g, 0, none⟩) m k)
  obtain ⟨we, hWE⟩ : ∃ we, wd.setCell ⟨p, 0, none⟩ (.slice (some ⟨g, 0, none⟩) m k) = we := ⟨_, rfl⟩
  rw [hWE] at hpe re oe
  have c0e : we.cell? ⟨p, 0, none⟩ = some (.slice (some ⟨g, 0, none⟩) m k) := by rw [cell_of_row we p 0 _ 77 (0, 0) hpe]; rfl
  have i1 : (a : Int) < (m : Int) + 1 := by omega
  have hs0 : ∀ W, (sizeOf (Try.prog.elem 75)).run Try.prog W = .ok 3 W := fun W => by
    have e : Try.prog.elem 75 = 80 := by kernel_rfl
    obtain ⟨i0, hi, _, hz1, _⟩ := info_parts info66
    rw [e]; simp [sizeOf, typeInfo, hi, hz1]
  have hcut : ∀ W, (Instr.slice 75 (.slice (some ⟨g, 0, none⟩) (m + 1) k) none (some (.int .i64 (m : Int))) none).run Try.prog W = .ok (.slice (some ⟨g, 0, none⟩) m k) W := fun W => by
    have hu : Try.prog.underlying 75 = some (.slice (Try.prog.elem 75)) := by kernel_rfl
    rw [run_slice_h W 75 _ _ k hu .i64 m (by omega) (by omega), hs0]
    simp [Result.andThen, sliced, Addr.add]
  have o4 : Only p g wb we := ((Only.refl p g wb).of_new (oc.trans od) (.inr (.inr rfl)) (.inr (.inr rfl))).trans oe
  have rg : Rw we g k (gap H a) := by
    have h1 := re.take m
    have h2 : ((H.set a z).set m (0, 0, 0)).take m = gap H a := by
      unfold gap
      rw [hn, Nat.add_sub_cancel, hz]
      apply List.ext_getElem?
      intro j
      rw [List.getElem?_take, List.getElem?_take, List.getElem?_set]
      by_cases c : j < m
      · rw [if_pos c, if_pos c, if_neg (by omega)]
      · rw [if_neg c, if_neg c]
    rw [h2] at h1; exact h1
  have hgl : (gap H a).length = m := by rw [gap_len, hn, Nat.add_sub_cancel]
  have hsk := sink_gap hH (a := a) (by omega)
  have hgp := gap_perm (H := H) (a := a) (by omega)
  rw [hx] at hgp
  have q2e : we.heap[w.heap.size]? = some (.cells #[.int .u64 0, .int .i64 0, .int .i64 0] 80 (0, 0)) := (o4.block _ (by omega) (by omega) (by omega)).trans q2
  have q3e : we.heap[wa.heap.size]? = some (.cells #[.int .u64 x.1, .int .i64 x.2.1, .int .i64 x.2.2] 80 (0, 0)) := by rw [hsa]; exact (o4.block _ (by omega) (by omega) (by omega)).trans q3
  have hse := o4.size
  have hB : Below w.heap.size w wb := below_trans hba hbb
  have oE : Only p g w we := (Only.of_below hB).trans o4
  have HRG := Lib.hid rg
  have HGL := Lib.hid hgl
  have HSK := Lib.hid hsk
  have HGP := Lib.hid hgp
  have HPE := Lib.hid hpe
  have HQ := Lib.hid (And.intro q2e q3e)
  have HOE := Lib.hid oE
  have hse2 : w.heap.size + 2 ≤ we.heap.size := by omega
  clear hx hz hn rb ra rc rd re hpb hpa hpc hpd hpe q1 q2 q3 q2e q3e hh hr hH hsb hba hbb oc od oe o4 rg hgl hsk hgp hB oE ez hs0 hse
  go_enter Try.func37, Try.ntmps37
  go_wp2_with fail
  refine (sink_any g k m a (gap H a) we HRG.out HGL.out (by omega) (by omega) HSK.out).mono ?_
  rintro e w3 ⟨rfl, ⟨H3, hp3, hi3, rw3⟩, o3⟩
  have hp3' := (o3.block p (lt_of_heap HPE.out) hpg hpg).trans HPE.out
  have c03 : w3.cell? ⟨p, 0, none⟩ = some (.slice (some ⟨g, 0, none⟩) m k) := by rw [cell_of_row w3 p 0 _ 77 (0, 0) hp3']; rfl
  have HI3 := Lib.hid hi3
  have HP3 := Lib.hid (hp3.length_eq.trans HGL.out)
  have HPP := Lib.hid hp3
  clear a0 a1 a2 b0 b1 b2 d0 d1 d2 e0 e1 e2 f0 f1 f2 g0 g1 g2 c0 c0b z0b c0d z0d c0e hcut hi3 hp3 hp3'
  go_wp2_with fail
  refine (rise_any g k m a H3 w3 rw3 HP3.out (by omega) (by omega) HI3.out).mono ?_
  rintro e w4 ⟨rfl, ⟨H4, hp4, hh4, rw4⟩, o4⟩
  have o34 := o3.trans o4
  have hs4 := o34.size
  have u0 := (o34.block w.heap.size (by omega) (by omega) (by omega)).trans HQ.out.1
  have u1 := (o34.block wa.heap.size (by omega) (by omega) (by omega)).trans HQ.out.2
  rw [hsa] at u1
  have l0 : w4.cell? ⟨w.heap.size + 1, 0, none⟩ = some (.int .u64 x.1) := by rw [cell_of_row w4 _ 0 _ 80 (0, 0) u1]; rfl
  have l1 : w4.cell? ⟨w.heap.size + 1, 1, none⟩ = some (.int .i64 x.2.1) := by rw [cell_of_row w4 _ 1 _ 80 (0, 0) u1]; rfl
  have l2 : w4.cell? ⟨w.heap.size + 1, 2, none⟩ = some (.int .i64 x.2.2) := by rw [cell_of_row w4 _ 2 _ 80 (0, 0) u1]; rfl
  have m0 : w4.cell? ⟨w.heap.size, 0, none⟩ = some (.int .u64 0) := by rw [cell_of_row w4 _ 0 _ 80 (0, 0) u0]; rfl
  have m1 : w4.cell? ⟨w.heap.size, 1, none⟩ = some (.int .i64 0) := by rw [cell_of_row w4 _ 1 _ 80 (0, 0) u0]; rfl
  have m2 : w4.cell? ⟨w.heap.size, 2, none⟩ = some (.int .i64 0) := by rw [cell_of_row w4 _ 2 _ 80 (0, 0) u0]; rfl
  have n0 := frozen_of_row w4 w.heap.size 0 _ 80 u0
  have n1 := frozen_of_row w4 w.heap.size 1 _ 80 u0
  have n2 := frozen_of_row w4 w.heap.size 2 _ 80 u0
  have HU := Lib.hid u0
  have HF4 := Lib.hid (And.intro hp4 (And.intro hh4 rw4))
  have HO4 := Lib.hid (HOE.out.of_new o34 (.inr (.inr rfl)) (.inr (.inr rfl)))
  have HP4 := Lib.hid ((o34.block p (lt_of_heap HPE.out) hpg hpg).trans HPE.out)
  clear u0 u1 o34 hp4 hh4 rw4 o4 o3 c03
  go_wp2
  have v1 := heap_setCell_same w4 w.heap.size 0 _ 80 (.int .u64 x.1) HU.out
  have v2 := heap_setCell_same _ w.heap.size 1 _ 80 (.int .i64 x.2.1) v1
  have v3 := heap_setCell_same _ w.heap.size 2 _ 80 (.int .i64 x.2.2) v2
  (try simp only [Exit.inBlock, Exit.then])
  refine bodyPost_ret (ret_entry rfl _ _ w.heap.size _ _ _ _ rfl v3) rfl ?_
  refine ⟨rfl, ⟨H4, ?_, HF4.out.2.1, ?_, ?_⟩, ?_⟩
  · exact ((HF4.out.1.trans HPP.out).cons x).trans HGP.out
  · rw [Below.heap_setCell _ _ _ _ (by show p ≠ w.heap.size; omega), Below.heap_setCell _ _ _ _ (by show p ≠ w.heap.size; omega), Below.heap_setCell _ _ _ _ (by show p ≠ w.heap.size; omega)]; exact HP4.out
  · exact HF4.out.2.2.keep (by rw [Below.heap_setCell _ _ _ _ (by show g ≠ w.heap.size; omega), Below.heap_setCell _ _ _ _ (by show g ≠ w.heap.size; omega), Below.heap_setCell _ _ _ _ (by show g ≠ w.heap.size; omega)])
  · exact ((HO4.out.setCell (.inr (.inr (Nat.le_refl _))) _).setCell (.inr (.inr (Nat.le_refl _))) _).setCell (.inr (.inr (Nat.le_refl _))) _
end Go.Proofs.Ytpnhpgdidineaaa
