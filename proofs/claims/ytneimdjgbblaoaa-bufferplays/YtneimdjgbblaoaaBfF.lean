/- Contracts of package mbf: NewBuffer, Apart. -/
import Derived.Test.YtneimdjgbblaoaaBfE
import Derived.Great.BuildSlice
namespace Go.Proofs.Ytneimdjgbblaoaa
open Go.RowKit
set_option maxRecDepth 100000

/-- cells laid into others from O on -/
def lay (cur : Array Value) (O : Nat) (cs : List Value) : Array Value := (cur.toList.take O ++ cs ++ cur.toList.drop (O + cs.length)).toArray
theorem lay_size {cur : Array Value} {O : Nat} {cs : List Value} (h : O + cs.length ≤ cur.size) : (lay cur O cs).size = cur.size := by unfold lay; simp; omega
theorem lay_in {cur : Array Value} {O : Nat} {cs : List Value} (h : O + cs.length ≤ cur.size) {i : Nat} (hi : i < cs.length) : (lay cur O cs)[O + i]? = cs[i]? := by
  unfold lay
  rw [List.getElem?_toArray, List.append_assoc, List.getElem?_append_right (by simp; omega), List.getElem?_append_left (by simp; omega)]
  congr 1; simp; omega
theorem lay_out {cur : Array Value} {O : Nat} {cs : List Value} (h : O + cs.length ≤ cur.size) {i : Nat} (hi : i < O ∨ O + cs.length ≤ i) : (lay cur O cs)[i]? = cur[i]? := by
  unfold lay
  rw [List.getElem?_toArray, List.append_assoc]
  rcases hi with hi | hi
  · rw [List.getElem?_append_left (by simp; omega), List.getElem?_take, if_pos hi, Array.getElem?_toList]
  · rw [List.getElem?_append_right (by simp; omega), List.getElem?_append_right (by simp; omega), List.getElem?_drop, Array.getElem?_toList]
    congr 1; simp; omega
theorem qc_lay {cur : Array Value} {O : Nat} {cs : List Value} {b : Bool} {L : List It} (q : Qs cs b L) (h : O + 34 ≤ cur.size) : Qc (lay cur O cs) O b L := by
  obtain ⟨h0, _, ⟨f, h1, r⟩, h2, h3⟩ := q
  have hf : O + cs.length ≤ cur.size := by omega
  exact ⟨⟨f, fun i hi => (lay_in hf (by omega)).trans (h1 i hi), r⟩, (lay_in hf (by omega)).trans h2, (lay_in hf (by omega)).trans h3⟩
theorem Dz.layS {cur : Array Value} {p : Nat} {t : St} (r : Dz cur p t) {cs : List Value} {b : Bool} {L : List It} (q : Qs cs b L) (hL : ∀ y, y ∈ L → y ∈ t.S) : Dz (lay cur 2 cs) p { t with b := b, S := L } := by
  have h0 := q.1
  have hf : 2 + cs.length ≤ cur.size := by rw [r.size]; omega
  have e : ∀ i, i < 2 ∨ 36 ≤ i → (lay cur 2 cs)[i]? = cur[i]? := fun i hi => lay_out hf (by omega)
  exact ⟨(lay_size hf).trans r.size, (e _ (by omega)).trans r.g, (e _ (by omega)).trans r.m, qc_lay q (by rw [r.size]; omega), ⟨fun i hi => by rw [e _ (by omega)]; exact r.w.1 i hi, fun y hy => by rw [e _ (by omega)]; exact r.w.2 y (hL y hy)⟩, r.r.congr (fun i h1 _ => e i (by omega))⟩
theorem Dz.layR {cur : Array Value} {p : Nat} {t : St} (r : Dz cur p t) {cs : List Value} {L : List It} (q : Qs cs false L) (hs : ∀ y, y ∈ t.S → y.1.toNat < 17) : Dz (lay cur 53 cs) p { t with R := L } := by
  have h0 := q.1
  have hf : 53 + cs.length ≤ cur.size := by rw [r.size]; omega
  have e : ∀ i, i < 53 → (lay cur 53 cs)[i]? = cur[i]? := fun i hi => lay_out hf (by omega)
  exact ⟨(lay_size hf).trans r.size, (e _ (by omega)).trans r.g, (e _ (by omega)).trans r.m, r.s.congr (fun i _ h2 => e i (by omega)), ⟨fun i hi => by rw [e _ (by omega)]; exact r.w.1 i hi, fun y hy => by have := hs y hy; rw [e _ (by omega)]; exact r.w.2 y hy⟩, qc_lay q (by rw [r.size]; omega)⟩
theorem Dz.ring {cur : Array Value} {p : Nat} {t : St} (r : Dz cur p t) (p2 : Nat) : Dz (cur.setIfInBounds 0 (.pointer (some ⟨p2, 0, none⟩))) p2 t := by
  have e : ∀ i, i ≠ 0 → (cur.setIfInBounds 0 (.pointer (some ⟨p2, 0, none⟩)))[i]? = cur[i]? := fun i hi => by rw [Array.getElem?_setIfInBounds_ne (Ne.symm hi)]
  exact ⟨by simpa using r.size, by rw [Array.getElem?_setIfInBounds_self_of_lt (by rw [r.size]; omega)], (e _ (by omega)).trans r.m, r.s.congr (fun i h1 _ => e i (by omega)), ⟨fun i hi => by rw [e _ (by omega)]; exact r.w.1 i hi, fun y hy => by rw [e _ (by omega)]; exact r.w.2 y hy⟩, r.r.congr (fun i h1 _ => e i (by omega))⟩
theorem Fine.ids {t : St} (h : Fine t) : ∀ y, y ∈ t.S → y.1.toNat < 17 := fun y hy => by have := h.s.rng y hy; omega

theorem run_storeVar_in (w : World) (g o : Nat) (t ty : TypeId) (cur : Array Value) (cs : List Value) (hg : w.heap[g]? = some (.cells cur t (0, 0))) (hfit : o + cs.length ≤ cur.size)
    (hi : (Try.prog.info? ty).map (·.size) = some cs.length) (h1 : ∀ u ∈ cs, u.oneCell' = true) :
    (storeVar ty ⟨g, o, none⟩ (.agg cs.toArray)).run Try.prog w = .ok () (w.setRow g (lay cur o cs)) := by
  have := run_storeCells_at Try.prog g o t cs 0 cur w hg (by simpa using hfit) h1
  cases hq : Try.prog.info? ty with
  | none => simp [hq] at hi
  | some i =>
    have hs : cs.length = i.size := by simp [hq] at hi; omega
    simp only [Nat.add_zero] at this
    simp [storeVar, sizeOf, typeInfo, hq, Value.cells, hs, this, lay]
theorem wpList_store_in {ops : Array Oper} {rest : List Oper} {op : Oper} {a : Act} {w : World} {Q : Exit → Act → World → Prop} (hgd : op.guard = none) (ty : TypeId) (x y : Operand) (ho : op.op = .store ty x y)
    (g o : Nat) (cs : List Value) (hx : a.eval x = .pointer (some ⟨g, o, none⟩)) (hy : a.eval y = .agg cs.toArray) (t : TypeId) (cur : Array Value)
    (hg : w.heap[g]? = some (.cells cur t (0, 0))) (hfit : o + cs.length ≤ cur.size) (hi : (Try.prog.info? ty).map (·.size) = some cs.length) (h1 : ∀ u ∈ cs, u.oneCell' = true)
    (h : ∀ w', w'.heap[g]? = some (.cells (lay cur o cs) t (0, 0)) → Only g w w' → wpList Try.prog ops Q rest (a.put op.dst undef) w') : wpList Try.prog ops Q (op :: rest) a w :=
  wpList_plain hgd fun _ hK => by
    unfold Oper.wp execOp
    simp only [ho, hx, hy, Instr.storeAt, Instr.sureAddr, Sem.run_bind, Sem.run_pure, Result.andThen_ok, run_storeVar_in w g o t ty cur cs hg hfit hi h1]
    exact hK _ _ (h _ (setRow_heap _ _ _ _ _ _ hg) ⟨rfl, rfl, rfl, by simp [World.setRow], fun k _ h1 => setRow_other w g k _ h1⟩)

/-- a new buffer, all of whose memory is new -/
def Born (C : Int) (t : St) (w : World) (s : Nat) (w' : World) : Prop := ∃ p m : Nat, Bf w' w.heap.size s p m C t ∧ Below w.heap.size w w'

def st0 (b : Bool) (m N : Nat) : St := ⟨b, m, N, [], [], fun _ => [], []⟩
theorem st0_fine {b : Bool} {m N : Nat} (h : m ≤ 1024) (hN : N ≤ 65536) : Fine (st0 b m N) := ⟨good_nil _, good_nil _, .inl rfl, h, hN, Nat.zero_le _, fun x hx => by simp [st0] at hx, fun y hy => by simp [st0] at hy⟩

/-- the cells that New builds -/
def c0 (p : Option Addr) (m : Int) : Array Value := ⟨.pointer p :: .int .i64 m :: (List.replicate 33 (Value.int .i64 0) ++ .bool false :: (List.replicate 17 (Value.string ByteArray.empty) ++ (List.replicate 33 (Value.int .i64 0) ++ [.bool false])))⟩
set_option maxHeartbeats 1600000 in
theorem dz_c0 (p m N : Nat) : Dz (c0 (some ⟨p, 0, none⟩) m) p (st0 false m N) := by
  have hq : ∀ O, (O = 2 ∨ O = 53) → Qc (c0 (some ⟨p, 0, none⟩) m) O false [] := by
    intro O hO
    refine ⟨⟨fun _ => 0, fun i hi => ?_, fun j x hx => by simp at hx⟩, ?_, ?_⟩
    · rcases hO with rfl | rfl
      · match i, hi with
        | 0, _ | 1, _ | 2, _ | 3, _ | 4, _ | 5, _ | 6, _ | 7, _ | 8, _ | 9, _ | 10, _ | 11, _ | 12, _ | 13, _ | 14, _ | 15, _ | 16, _ | 17, _ | 18, _ | 19, _ | 20, _ | 21, _ | 22, _ | 23, _ | 24, _ | 25, _ | 26, _ | 27, _ | 28, _ | 29, _ | 30, _ | 31, _ => rfl
        | n + 32, h => omega
      · match i, hi with
        | 0, _ | 1, _ | 2, _ | 3, _ | 4, _ | 5, _ | 6, _ | 7, _ | 8, _ | 9, _ | 10, _ | 11, _ | 12, _ | 13, _ | 14, _ | 15, _ | 16, _ | 17, _ | 18, _ | 19, _ | 20, _ | 21, _ | 22, _ | 23, _ | 24, _ | 25, _ | 26, _ | 27, _ | 28, _ | 29, _ | 30, _ | 31, _ => rfl
        | n + 32, h => omega
    · rcases hO with rfl | rfl <;> rfl
    · rcases hO with rfl | rfl <;> rfl
  refine ⟨by simp [c0], rfl, rfl, hq 2 (.inl rfl), ⟨fun i hi => ?_, fun y hy => by simp [st0] at hy⟩, hq 53 (.inr rfl)⟩
  match i, hi with
  | 0, _ | 1, _ | 2, _ | 3, _ | 4, _ | 5, _ | 6, _ | 7, _ | 8, _ | 9, _ | 10, _ | 11, _ | 12, _ | 13, _ | 14, _ | 15, _ | 16, _ => exact ⟨_, rfl⟩
  | n + 17, h => omega

set_option maxHeartbeats 1600000 in
theorem nnew_par (b : Bool) (m z : Int) (hm : m < 1 ∨ 1024 < m) (w : World) : Calls Try.prog 9 #[.bool b, .int .i64 m, .int .i64 z] w fun e w' => e = .returned (.tuple #[.pointer none, .int .i64 (-17)]) ∧ w = w' := by
  by_cases c : m < 1
  · have t1 : decide (m < 1) = true := by simpa using c
    clear hm
    go_enter Try.func9, Try.ntmps9
    go_wp2
    go_ret2
    exact ⟨rfl, rfl⟩
  · have t1 : decide (m < 1) = false := by simpa using c
    have t2 : decide (1024 < m) = true := by simp; omega
    clear hm c
    go_enter Try.func9, Try.ntmps9
    go_wp2
    go_ret2
    exact ⟨rfl, rfl⟩
set_option maxHeartbeats 1600000 in
theorem nnew_size (b : Bool) (m z : Int) (hm : 1 ≤ m ∧ m ≤ 1024) (h0 : -9223372036854775808 ≤ z) (h1 : z ≤ 9223372036854775807) (hz : z < 0 ∨ 65536 < z ∨ z % 4 ≠ 0) (w : World) : Calls Try.prog 9 #[.bool b, .int .i64 m, .int .i64 z] w fun e w' => e = .returned (.tuple #[.pointer none, .int .i64 (-17)]) ∧ w = w' := by
  have t1 : decide (m < 1) = false := by simp; omega
  have t2 : decide (1024 < m) = false := by simp; omega
  have HR := Lib.hid (R.gnew_bad z h0 h1 hz w)
  clear hm h0 h1 hz
  go_enter Try.func9, Try.ntmps9
  go_wp2_with fail
  refine HR.out.mono ?_
  rintro e w1 ⟨rfl, rfl⟩
  go_wp2
  go_ret2
  exact ⟨rfl, rfl⟩

theorem built70 (p : Nat) (m : Int) : Try.prog.built 70 [(0, .pointer (some ⟨p, 0, none⟩)), (1, .int .i64 m)] = some (c0 (some ⟨p, 0, none⟩) m) := by kernel_rfl
set_option maxHeartbeats 4000000 in
theorem nnew_ok (b : Bool) (m N : Nat) (hm : 1 ≤ m ∧ m ≤ 1024) (hN : N ≤ 65536) (h4 : N % 4 = 0) (z : Int) (hz : z = N) (y : Int) (hy : y = m) (w : World) : Calls Try.prog 9 #[.bool b, .int .i64 y, .int .i64 z] w fun e w' =>
    ∃ s : Nat, e = .returned (.tuple #[.pointer (some ⟨s, 0, none⟩), .int .i64 0]) ∧ Born 0 (st0 b m N) w s w' := by
  have t2 : decide (1024 < y) = false := by simp; omega
  have t1 : decide (y < 1) = false := by simp; omega
  have HY := Lib.hid hy
  have HR := Lib.hid (R.gnew_ok N hN h4 z hz w)
  obtain ⟨fs, hu⟩ := und42
  clear hm hy hz h4 hN
  go_enter Try.func9, Try.ntmps9
  go_wp2_with fail
  refine HR.out.mono ?_
  rintro e wa ⟨p, m0, hp, hm0, rfl, hrg, hba⟩
  have hf : Try.prog.built 70 [(0, .pointer (some ⟨p, 0, none⟩)), (1, .int .i64 y)] = some (c0 (some ⟨p, 0, none⟩) y) := built70 p y
  obtain ⟨C, hC⟩ : ∃ C, c0 (some ⟨p, 0, none⟩) y = C := ⟨_, rfl⟩
  rw [hC] at hf
  have HC := Lib.hid hC
  have HRG := Lib.hid hrg
  have HBA := Lib.hid hba
  have HPM := Lib.hid (And.intro hp hm0)
  clear hC HR hrg hba hp hm0
  go_wp2_with (first | (refine wpList_buildTo rfl 70 _ rfl _ rfl C (Eq.trans (b := Try.prog.built 70 [(0, .pointer (some ⟨p, 0, none⟩)), (1, .int .i64 y)]) (by kernel_rfl) hf) ?_))
  generalize hw0 : wa.alloc _ = w0
  have h0 : w0.heap[wa.heap.size]? = some (.cells (c0 (some ⟨p, 0, none⟩) y) 70 (0, 0)) := by rw [← hw0, HC.out]; exact heap_alloc_new wa _
  have HB0 := Lib.hid (show Below wa.heap.size wa w0 by rw [← hw0]; exact (Below.refl _ _).alloc (Nat.le_refl _) _)
  have H0 := Lib.hid h0
  clear hw0 h0 t1 t2 hf
  obtain ⟨g, hg⟩ : ∃ g, wa.heap.size = g := ⟨_, rfl⟩
  rw [hg] at H0 HB0 ⊢
  have HG := Lib.hid hg
  clear hg
  have HN := Lib.hid (new_ok b w0)
  refine HN.out.mono ?_
  rintro e w1 ⟨pq, hpq, rfl, hl, hb⟩
  have h1 := (hb.block g (lt_of_heap H0.out)).trans H0.out
  have HB1 := Lib.hid (HB0.out.trans (hb.mono (by have := lt_of_heap H0.out; omega)))
  obtain ⟨cs, hcs, hq⟩ := hl.qs
  have hi : (Try.prog.info? 65).map (·.size) = some cs.length := by rw [hq.1]; exact info42
  have HQ := Lib.hid hq
  have hfit : 2 + cs.length ≤ (c0 (some ⟨p, 0, none⟩) y).size := by rw [hq.1]; simp [c0]
  clear hl hpq hb hq HN
  go_wp2_with (first
    | (refine wpList_load_mid rfl 65 (.tmp 32) rfl pq 0 rfl cs (.struct fs) hcs hu rfl hi ?_)
    | (refine wpList_store_in rfl 65 (.tmp 36) (.tmp 33) rfl g 2 cs rfl rfl 70 (c0 (some ⟨p, 0, none⟩) y) h1 hfit hi HQ.out.2.1 ?_
       intro w2 hg2 ho2
       have HB2 := Lib.hid (HB1.out.trans (ho2.below (by have := HB1.out.size; have := HG.out; omega) (Nat.le_refl _)))
       have H2 := Lib.hid hg2
       clear hg2 ho2 h1 hcs hfit))
  have HN := Lib.hid (new_ok false w2)
  refine HN.out.mono ?_
  rintro e w3 ⟨p3, hp3, rfl, hl, hb⟩
  have h3 := (hb.block g (lt_of_heap H2.out)).trans H2.out
  have HB3 := Lib.hid (HB2.out.trans (hb.mono (by have := lt_of_heap H2.out; omega)))
  obtain ⟨ds, hds, hq⟩ := hl.qs
  have hi2 : (Try.prog.info? 65).map (·.size) = some ds.length := by rw [hq.1]; exact info42
  have HQ2 := Lib.hid hq
  have hz := (show Dz (c0 (some ⟨p, 0, none⟩) y) p (st0 false m N) by rw [HY.out]; exact dz_c0 p m N).layS HQ.out (fun y hy => by simp at hy)
  have hfit : 53 + ds.length ≤ (lay (c0 (some ⟨p, 0, none⟩) y) 2 cs).size := by rw [hq.1, hz.size]; omega
  have HZ := Lib.hid hz
  clear hl hp3 hb hq HN hi hz
  go_wp2_with (first
    | (refine wpList_load_mid rfl 65 (.tmp 39) rfl p3 0 rfl ds (.struct fs) hds hu rfl hi2 ?_)
    | (refine wpList_store_in rfl 65 (.tmp 42) (.tmp 40) rfl g 53 ds rfl rfl 70 _ h3 hfit hi2 HQ2.out.2.1 ?_
       intro w4 hg4 ho4
       have HB4 := Lib.hid (HB3.out.trans (ho4.below (by have := HB3.out.size; have := HG.out; omega) (Nat.le_refl _)))
       have H4 := Lib.hid hg4
       clear hg4 ho4 h3 hds hfit))
  go_ret2
  have hb4 : Below wa.heap.size wa w4 := by rw [HG.out]; exact HB4.out
  exact ⟨g, rfl, p, m0, ⟨⟨_, H4.out, HZ.out.layR HQ2.out (fun y hy => by simp at hy)⟩, ⟨0, by omega, by omega, HRG.out.below hb4⟩, by have := HG.out; have := HBA.out.size; omega, HPM.out.1, HPM.out.2⟩, below_trans HBA.out hb4⟩

theorem und70 : ∃ fs, Try.prog.underlying 70 = some (.struct fs) := struct_of (by kernel_rfl)
theorem info70 : (Try.prog.info? 70).map (·.size) = some 87 := by kernel_rfl
theorem Dz.one {cs : Array Value} {p : Nat} {t : St} (r : Dz cs p t) : cs.all (·.oneCell') = true := by
  rw [Array.all_eq_true]
  intro i hi
  have hs := r.size
  have e : cs[i]? = some cs[i] := Array.getElem?_eq_getElem hi
  have one : ∀ u, cs[i]? = some u → u.oneCell' = true → (cs[i]).oneCell' = true := fun u hu ho => by rw [e] at hu; injection hu with hu; rw [hu]; exact ho
  by_cases c0 : i = 0
  · subst c0; exact one _ r.g rfl
  by_cases c1 : i = 1
  · subst c1; exact one _ r.m rfl
  by_cases c2 : i < 36
  · obtain ⟨u, h1, h2⟩ := r.s.one (i := i) (by omega) (by omega); exact one u h1 h2
  by_cases c3 : i < 53
  · obtain ⟨u, h1⟩ := r.w.1 (i - 36) (by omega)
    rw [show 36 + (i - 36) = i by omega] at h1
    exact one _ h1 rfl
  · obtain ⟨u, h1, h2⟩ := r.r.one (i := i) (by omega) (by omega); exact one u h1 h2

theorem zero_info : (Try.prog.info? 70).map (·.zero) = some (some (.agg (c0 none 0))) := by kernel_rfl
theorem zero70 (W : World) : (zeroValue 70).run Try.prog W = .ok (.agg (c0 none 0)) W := by
  have h := zero_info
  cases hq : Try.prog.info? 70 with
  | none => simp [hq] at h
  | some i =>
    have hz : i.zero = some (.agg (c0 none 0)) := by simpa [hq] using h
    simp [zeroValue, typeInfo, hq, hz]
theorem below_setRow' {B : Nat} {a w : World} (h : Below B a w) {g : Nat} (hg : B ≤ g) (cs : Array Value) : Below B a (w.setRow g cs) :=
  ⟨h.os, h.tape, h.output, by simpa [World.setRow] using h.size, fun k hk => (setRow_other w g k cs (by omega)).trans (h.block k hk)⟩
set_option maxHeartbeats 4000000 in
theorem apart_ok (B s p m : Nat) (C : Int) (t : St) (w : World) (h : Bf w B s p m C t) (hf : Fine t) : Calls Try.prog 25 #[.pointer (some ⟨s, 0, none⟩)] w fun e w' => ∃ s2 : Nat, e = .returned (.pointer (some ⟨s2, 0, none⟩)) ∧ Born C t w s2 w' := by
  obtain ⟨cs, hcs, hz⟩ := h.c
  obtain ⟨fs, hu⟩ := und70
  obtain ⟨fs3, hu3⟩ := und42
  have hi : (Try.prog.info? 70).map (·.size) = some cs.size := by rw [hz.size]; exact info70
  have hall := hz.one
  have HF := Lib.hid hf
  have H := Lib.hid h
  have HZ := Lib.hid hz
  have HEn := Lib.hid (ensure_any h.c)
  have hz70 := zero70
  obtain ⟨Z, hZ⟩ : ∃ Z, c0 none 0 = Z := ⟨_, rfl⟩
  have hzs : Z.size = cs.size := by rw [hz.size, ← hZ]; rfl
  rw [hZ] at hz70
  clear hZ
  clear hz h hf
  go_enter Try.func25, Try.ntmps25
  go_wp2_with fail
  refine HEn.out.mono ?_
  rintro e w1 ⟨rfl, rfl⟩
  go_wp2_with (first
    | (refine wpList_load_row rfl 70 (.tmp 7) rfl s rfl 70 cs (0, 0) (.struct fs) hcs hu rfl hi ?_)
    | (refine wpList_store_row rfl 70 (.tmp 3) (.tmp 8) rfl w.heap.size cs rfl rfl 70 _ (heap_alloc_new w _) hi hzs hall ?_
       generalize hw1 : World.setRow _ _ _ = w1
       have h1 : w1.heap[w.heap.size]? = some (.cells cs 70 (0, 0)) := by rw [← hw1]; exact setRow_heap _ _ _ _ _ _ (heap_alloc_new w _)
       have hb1 : Below w.heap.size w w1 := by rw [← hw1]; exact below_setRow' ((Below.refl _ _).alloc (Nat.le_refl _) _) (Nat.le_refl _) _
       have H1 := Lib.hid h1
       have HB1 := Lib.hid hb1
       have c0 := (H.out.below hb1).c.ring
       clear hw1 h1 hb1 hz70))
  have HQ1 := Lib.hid (H.out.below HB1.out)
  obtain ⟨c, q1, q2, rg⟩ := HQ1.out.g
  have HSG := Lib.hid H.out.lt
  obtain ⟨g, hg⟩ : ∃ g, w.heap.size = g := ⟨_, rfl⟩
  have HG := Lib.hid hg
  rw [hg] at H1 HB1 HSG ⊢
  have HR := Lib.hid (R.gtwin_any rg HF.out.n)
  have HC := Lib.hid (And.intro q1 q2)
  clear hg rg q1 q2 hcs hall hzs hi hu
  refine HR.out.mono ?_
  rintro e w2 ⟨p2, m2, hp2, hm2, rfl, hrg2, hb2⟩
  have h2 := (hb2.block g (lt_of_heap H1.out)).trans H1.out
  have f2 := frozen_of_row w2 g 0 cs 70 h2
  have e2 : w2.cell? ⟨g, 0, none⟩ = cs[0]? := cell_of_row w2 g 0 cs 70 (0, 0) h2
  rw [HZ.out.g] at e2
  have HB2 := Lib.hid (HB1.out.trans (hb2.mono (by have := lt_of_heap H1.out; omega)))
  have h3 := heap_setCell_same w2 g 0 cs 70 (.pointer (some ⟨p2, 0, none⟩)) h2
  have hb3 : Below w2.heap.size w2 w2 := Below.refl _ _
  have HQ2 := Lib.hid (HQ1.out.below hb2)
  have HL2 := Lib.hid (Nat.lt_of_lt_of_le (lt_of_heap H1.out) hb2.size)
  have HP2 := Lib.hid (show g < p2 ∧ g < m2 by have := lt_of_heap H1.out; omega)
  have HRG2 := Lib.hid hrg2
  have H3 := Lib.hid h3
  obtain ⟨Xs, hl, _⟩ := (show Dc (w2.setCell ⟨g, 0, none⟩ (.pointer (some ⟨p2, 0, none⟩))) s p t from HQ2.out.c.keep (Below.heap_setCell _ _ _ _ (by have := HSG.out; show s ≠ g; omega))).sq
  have HN := Lib.hid (twin_ok s 70 t.b t.S _ hl)
  clear hl h2 h3 hb2 hb3 hp2 hm2 hrg2 HR H1 HQ1 HB1
  go_wp2_with fail
  refine HN.out.mono ?_
  rintro e w4 ⟨pq, hpq, rfl, hl, hb⟩
  have h4 := (hb.block g (lt_of_heap H3.out)).trans H3.out
  have hlt3 := lt_of_heap H3.out
  have HB3 := Lib.hid (show Below g w (w2.setCell ⟨g, 0, none⟩ (.pointer (some ⟨p2, 0, none⟩))) from HB2.out.setCell (p := ⟨g, 0, none⟩) (Nat.le_refl _) _)
  have HB4 := Lib.hid (HB3.out.trans (hb.mono (Nat.le_of_lt hlt3)))
  have HC4 := Lib.hid ((HQ2.out.c.keep (Below.heap_setCell w2 ⟨g, 0, none⟩ (.pointer (some ⟨p2, 0, none⟩)) s (by have := HSG.out; show s ≠ g; omega))).keep (hb.block s (by have := HSG.out; omega)))
  have HRG4 := Lib.hid ((R.Rg.only HRG2.out (q := g) (r := g) (show R.Only g g w2 (w2.setCell ⟨g, 0, none⟩ (.pointer (some ⟨p2, 0, none⟩))) from (R.Only.refl g g w2).setCell (q := ⟨g, 0, none⟩) (.inl rfl) _) (by have := HP2.out; omega) (by have := HP2.out; omega) (by have := HP2.out; omega) (by have := HP2.out; omega)).below hb)
  obtain ⟨ys, hys, hq⟩ := hl.qs
  have hi : (Try.prog.info? 65).map (·.size) = some ys.length := by rw [hq.1]; exact info42
  have HQS := Lib.hid hq
  have HZ2 := Lib.hid (HZ.out.ring p2)
  obtain ⟨ds, hds⟩ : ∃ ds, cs.setIfInBounds 0 (.pointer (some ⟨p2, 0, none⟩)) = ds := ⟨_, rfl⟩
  rw [hds] at h4 HZ2
  have hfit : 2 + ys.length ≤ ds.size := by rw [hq.1, HZ2.out.size]; omega
  clear hl hpq hb hq HN HQ2 H3 HB2 HB3 HRG2 f2 e2 c0 hds hlt3
  go_wp2_with (first
    | (refine wpList_load_mid rfl 65 (.tmp 20) rfl pq 0 rfl ys (.struct fs3) hys hu3 rfl hi ?_)
    | (refine wpList_store_in rfl 65 (.tmp 23) (.tmp 21) rfl g 2 ys rfl rfl 70 ds h4 hfit hi HQS.out.2.1 ?_
       intro w5 hg5 ho5
       have HB5 := Lib.hid (HB4.out.trans (ho5.below (by have := HB4.out.size; have := HG.out; omega) (Nat.le_refl _)))
       have HC5 := Lib.hid (HC4.out.keep (ho5.block s HC4.out.lt (by have := HSG.out; omega)))
       have HRG5 := Lib.hid (R.Rg.only HRG4.out (q := g) (r := g) ⟨ho5.os, ho5.tape, ho5.output, ho5.size, fun k hk h1 _ => ho5.block k hk h1⟩ (by have := HP2.out; omega) (by have := HP2.out; omega) (by have := HP2.out; omega) (by have := HP2.out; omega))
       have H5 := Lib.hid hg5
       clear hg5 ho5 h4 hys hfit))
  obtain ⟨Xr, hl, _⟩ := HC5.out.rq
  have HN := Lib.hid (twin_ok s 70 false t.R w5 hl)
  clear hl
  refine HN.out.mono ?_
  rintro e w6 ⟨p6, hp6, rfl, hl, hb⟩
  have h6 := (hb.block g (lt_of_heap H5.out)).trans H5.out
  have HB6 := Lib.hid (HB5.out.trans (hb.mono (by have := lt_of_heap H5.out; omega)))
  have HRG6 := Lib.hid (HRG5.out.below hb)
  obtain ⟨bs, hbs, hq⟩ := hl.qs
  have hi2 : (Try.prog.info? 65).map (·.size) = some bs.length := by rw [hq.1]; exact info42
  have HQR := Lib.hid hq
  have hz4 := HZ2.out.layS HQS.out (fun y hy => hy)
  have hfit : 53 + bs.length ≤ (lay ds 2 ys).size := by rw [hq.1, hz4.size]; omega
  have HZ4 := Lib.hid hz4
  clear hl hp6 hb hq HN HC5 H5 HB5 HRG5 hi hz4
  go_wp2_with (first
    | (refine wpList_load_mid rfl 65 (.tmp 28) rfl p6 0 rfl bs (.struct fs3) hbs hu3 rfl hi2 ?_)
    | (refine wpList_store_in rfl 65 (.tmp 30) (.tmp 29) rfl g 53 bs rfl rfl 70 _ h6 hfit hi2 HQR.out.2.1 ?_
       intro w7 hg7 ho7
       have HB7 := Lib.hid (HB6.out.trans (ho7.below (by have := HB6.out.size; have := HG.out; omega) (Nat.le_refl _)))
       have HRG7 := Lib.hid (R.Rg.only HRG6.out (q := g) (r := g) ⟨ho7.os, ho7.tape, ho7.output, ho7.size, fun k hk h1 _ => ho7.block k hk h1⟩ (by have := HP2.out; omega) (by have := HP2.out; omega) (by have := HP2.out; omega) (by have := HP2.out; omega))
       have H7 := Lib.hid hg7
       clear hg7 ho7 h6 hbs hfit))
  go_ret
  refine ⟨g, rfl, p2, m2, ⟨⟨_, H7.out, HZ4.out.layR HQR.out HF.out.ids⟩, ⟨c, HC.out.1, HC.out.2, HRG7.out⟩, ?_, ?_, ?_⟩, by rw [HG.out]; exact HB7.out⟩
  · rw [HG.out]; exact Nat.le_refl _
  · have := HP2.out; rw [HG.out]; omega
  · have := HP2.out; rw [HG.out]; omega
end Go.Proofs.Ytneimdjgbblaoaa
