/- Contracts of package dtq: tasks, Senders, Receivers, Data, New, Twin. -/
import Derived.Test.YtnbepahanhcmeaaDqC
import Derived.Great.BuildSlice
namespace Go.Proofs.Ytnbepahanhcmeaa
open Go.RowKit
set_option maxRecDepth 100000

theorem below_grown {B : Nat} {a w w' : World} {row : Option Nat} (h : Below B a w) (g : w.grownBy w' row) (hB : B ≤ w.heap.size) (hr : ∀ k, row = some k → B ≤ k) : Below B a w' :=
  ⟨g.os.trans h.os, g.tape.trans h.tape, g.output.trans h.output, Nat.le_trans h.size g.size, fun k hk => (g.block k (by omega) (fun e => by have := hr k e.symm; omega)).trans (h.block k hk)⟩

theorem slf {w : World} {e : TypeId} {v : Value} {L : List It} (h : Sl w e v L) : ∃ (X : Option Addr) (k : Nat), v = .slice X L.length k ∧ L.length ≤ k ∧ k ≤ 9223372036854775807 := by
  rcases h with ⟨rfl, rfl⟩ | ⟨g, o, k, cs, h1, h2, h3, h4, h5⟩
  · exact ⟨none, 0, rfl, by simp, by omega⟩
  · exact ⟨_, k, h1, h2, h3⟩
theorem slo {w : World} {e : TypeId} {X : Option Addr} {m k : Nat} {L : List It} (h : Sl w e (.slice X m k) L) (h0 : 0 < L.length) : ∃ g o : Nat, X = some ⟨g, o, none⟩ ∧ g < w.heap.size ∧ ∀ (j : Nat) (x : It), L[j]? = some x → w.cell? ⟨g, o + j * 2, none⟩ = some (.int .i64 x.1) ∧ w.cell? ⟨g, o + j * 2 + 1, none⟩ = some (.int .i64 x.2) := by
  rcases h with ⟨_, h⟩ | ⟨g, o, k, cs, h1, h2, h3, h4, h5⟩
  · subst h; simp at h0
  · injection h1 with h1
    exact ⟨g, o, h1, lt_of_heap h4, fun j x hx => Sl.cell h4 h5 hx⟩

set_option maxHeartbeats 1600000 in
theorem tasks_ok (v : Value) (L : List It) (w : World) (h : Sl w 68 v L) (hn : L.length ≤ 16) :
    Calls Try.prog 51 #[v] w fun e w' => ∃ v', e = .returned v' ∧ Ow w' w.heap.size v' (L.map Prod.fst) ∧ Below w.heap.size w w' := by
  obtain ⟨X, k, rfl, hk1, hk2⟩ := slf h
  obtain ⟨m, hm⟩ : ∃ m, L.length = m := ⟨_, rfl⟩
  rw [hm] at h hk1 hn ⊢
  have HM := Lib.hid hm
  have HS := Lib.hid h
  clear h hm
  go_enter Try.func51, Try.ntmps51
  go_wp2
  go_loopw [8, 3] (fun i o wr => ∃ (t : Nat) (vo : Value), t ≤ m ∧ i = .int .i64 (t : Int) ∧ vo = o ∧ Ow wr w.heap.size vo ((L.take t).map Prod.fst) ∧ Below w.heap.size w wr) (fun i _ _ => m - (intOf i).toNat)
  case atStart =>
    exact ⟨0, _, Nat.zero_le _, rfl, rfl, ⟨rfl, .inl ⟨rfl, rfl⟩⟩, Below.refl _ _⟩
  case round =>
    obtain ⟨t, vo, ht, rfl, rfl, hown, hb⟩ := hrel
    have HB := Lib.hid hb
    by_cases hlt : t < m
    · have hlt' : (t : Int) < (m : Int) := by omega
      obtain ⟨y, hy⟩ : ∃ y, L[t]? = some y := ⟨_, List.getElem?_eq_getElem (by rw [HM.out]; exact hlt)⟩
      obtain ⟨g, oo, rfl, hgl, hcl⟩ := slo (HS.out.below hb) (by rw [HM.out]; omega)
      obtain ⟨hc1, hc2⟩ := hcl t y hy
      have HWR := Lib.hid (show Below wr.heap.size wr (wr.alloc (.cells #[.int .i64 y.1, .int .i64 y.2] 68)) from (Below.refl _ _).alloc (Nat.le_refl _) _)
      have bx := box_new wr 68 (.int .i64 y.1) (.int .i64 y.2)
      have q0 := bx.c0
      have HO := Lib.hid hown
      have hlen : ((L.take t).map Prod.fst).length = t := by simp; rw [HM.out]; omega
      have HL := Lib.hid hlen
      have HY := Lib.hid hy
      obtain ⟨wa, hwa⟩ : ∃ wa, wr.alloc (.cells #[.int .i64 y.1, .int .i64 y.2] 68) = wa := ⟨_, rfl⟩
      rw [hwa] at q0 HWR
      obtain ⟨wb, hwb⟩ : ∃ wb, wa.alloc (.cells #[.int .i64 y.1] 3) = wb := ⟨_, rfl⟩
      have HWB := Lib.hid (show Below wa.heap.size wa wb by rw [← hwb]; exact (Below.refl _ _).alloc (Nat.le_refl _) _)
      have src := K.sr_one K.ci wa 3 y.1
      rw [show (K.ci y.1).toArray = #[.int .i64 y.1] from rfl, hwb] at src
      have HBB := Lib.hid (below_trans HWR.out HWB.out)
      have hownb := K.own_below HO.out HBB.out
      unfold Ow at hownb
      rw [hlen] at hownb
      have hbs : w.heap.size ≤ wb.heap.size := by have := HB.out.size; have := HBB.out.size; omega
      have HBS := Lib.hid hbs
      have b2 : t + 1 ≤ 100000 := by omega
      clear hcl hown hb bx hlen hy hgl hbs
      go_wp2_with (first
        | (refine K.wpList_append_one K.ki (by decide) rfl _ _ rfl w.heap.size vo ((L.take t).map Prod.fst) y.1 t HL.out rfl hownb _ 1 rfl src b2 HBS.out ?_
           intro X7 k7 w7 hown7 hgr7 hwh7
           have HO7 := Lib.hid hown7
           have HB7 := Lib.hid (below_grown (HB.out.trans (HBB.out.mono HB.out.size)) hgr7 HBS.out (fun q hq => by obtain ⟨_, _, _, h1, _⟩ := own_blk HO.out hq; exact h1))
           clear hown7 hgr7 hwh7 hownb src q0 hc1 hc2 hwa hwb))
      have e1 : (L.take (t + 1)).map Prod.fst = (L.take t).map Prod.fst ++ [y.1] := by rw [List.take_add_one, HY.out]; simp
      have e2 : ((L.take (t + 1)).map Prod.fst).length = t + 1 := by rw [e1, List.length_append, HL.out]; rfl
      exact ⟨⟨t + 1, _, by omega, by go_num, rfl, by unfold Ow; rw [e2, e1]; exact HO7.out, HB7.out⟩, by simp [intOf]; omega⟩
    · obtain rfl : t = m := by omega
      have HO := Lib.hid hown
      clear hown hb
      go_wp2
      go_ret
      refine ⟨_, rfl, ?_, HB.out⟩
      have := HO.out
      rw [List.take_of_length_le (by rw [HM.out]; exact Nat.le_refl _)] at this
      exact this

set_option maxHeartbeats 800000 in
theorem senders_any (B s : Nat) (v : Value) (t : St) (w : World) (h : Dq w B s v t) (hf : Fine t) :
    Calls Try.prog 32 #[.pointer (some ⟨s, 0, none⟩)] w fun e w' => ∃ v', e = .returned v' ∧ Ow w' w.heap.size v' (t.S.map Prod.fst) ∧ Below w.heap.size w w' := by
  obtain ⟨X, hl, _⟩ := h.c.sq
  have HR := Lib.hid (row_ok s 82 t.b t.S w hl hf.s.len)
  have HN := Lib.hid hf.s.len
  clear h hf hl
  go_enter Try.func32, Try.ntmps32
  go_wp2_with fail
  refine HR.out.mono ?_
  rintro e w1 ⟨u, rfl, hs, hb⟩
  have HT := Lib.hid (tasks_ok u t.S w1 hs HN.out)
  have HB := Lib.hid hb
  clear hs hb HR
  go_wp2_with fail
  refine HT.out.mono ?_
  rintro e w2 ⟨u2, rfl, ho, hb⟩
  have HO := Lib.hid (K.own_base ho HB.out.size)
  have HB2 := Lib.hid (below_trans HB.out hb)
  clear ho hb HT
  go_wp2
  go_ret
  exact ⟨_, rfl, HO.out, HB2.out⟩
set_option maxHeartbeats 800000 in
theorem receivers_any (B s : Nat) (v : Value) (t : St) (w : World) (h : Dq w B s v t) (hf : Fine t) :
    Calls Try.prog 33 #[.pointer (some ⟨s, 0, none⟩)] w fun e w' => ∃ v', e = .returned v' ∧ Ow w' w.heap.size v' (t.R.map Prod.fst) ∧ Below w.heap.size w w' := by
  obtain ⟨X, hl, _⟩ := h.c.rq
  have HR := Lib.hid (row_ok s 82 false t.R w hl hf.r.len)
  have HN := Lib.hid hf.r.len
  clear h hf hl
  go_enter Try.func33, Try.ntmps33
  go_wp2_with fail
  refine HR.out.mono ?_
  rintro e w1 ⟨u, rfl, hs, hb⟩
  have HT := Lib.hid (tasks_ok u t.R w1 hs HN.out)
  have HB := Lib.hid hb
  clear hs hb HR
  go_wp2_with fail
  refine HT.out.mono ?_
  rintro e w2 ⟨u2, rfl, ho, hb⟩
  have HO := Lib.hid (K.own_base ho HB.out.size)
  have HB2 := Lib.hid (below_trans HB.out hb)
  clear ho hb HT
  go_wp2
  go_ret
  exact ⟨_, rfl, HO.out, HB2.out⟩

set_option maxHeartbeats 800000 in
theorem data_any (B s : Nat) (v : Value) (t : St) (w : World) (h : Dq w B s v t) (hn : t.D.length ≤ 1000) :
    Calls Try.prog 31 #[.pointer (some ⟨s, 0, none⟩)] w fun e w' => ∃ v', e = .returned v' ∧ Ow w' w.heap.size v' t.D ∧ Below w.heap.size w w' := by
  have c0 := h.c.data
  have ho := h.o
  obtain ⟨X, k, rfl, hk1, hk2⟩ := K.own_form ho
  have src := K.own_src rfl ho
  obtain ⟨n, hlen⟩ : ∃ n, t.D.length = n := ⟨_, rfl⟩
  have b2 : 0 + n ≤ 100000 := by omega
  have hown : w.ownsRow w.heap.size 3 1 (.slice none 0 0) 0 (K.vals K.ci []) := ⟨rfl, .inl ⟨rfl, rfl⟩⟩
  have HL := Lib.hid hlen
  rw [hlen] at c0
  clear h ho hlen hn hk1 hk2
  go_enter Try.func31, Try.ntmps31
  go_wp2_with (first
    | (refine K.wpList_append_row K.ki (by decide) rfl _ _ rfl w.heap.size _ [] t.D 0 rfl rfl hown X n k rfl HL.out src b2 (Nat.le_refl _) n (Nat.zero_add _) ?_
       intro X7 k7 w7 hown7 hgr7
       have HO7 := Lib.hid hown7
       have HB7 := Lib.hid (below_grown (Below.refl w.heap.size w) hgr7 (Nat.le_refl _) (fun q hq => by have hq' : (none : Option Nat) = some q := hq; cases hq'))
       clear hown7 hgr7 src c0))
  go_ret
  exact ⟨_, rfl, by unfold Ow; rw [HL.out]; exact HO7.out, HB7.out⟩

/-- cells laid into others from O on -/
def lay (cur : Array Value) (O : Nat) (cs : List Value) : Array Value := (cur.toList.take O ++ cs ++ cur.toList.drop (O + cs.length)).toArray
theorem lay_size {cur : Array Value} {O : Nat} {cs : List Value} (h : O + cs.length ≤ cur.size) : (lay cur O cs).size = cur.size := by unfold lay; simp; omega
theorem lay_in {cur : Array Value} {O : Nat} {cs : List Value} (h : O + cs.length ≤ cur.size) {i : Nat} (hi : i < cs.length) : (lay cur O cs)[O + i]? = cs[i]? := by
  unfold lay
  rw [List.getElem?_toArray, List.append_assoc, List.getElem?_append_right (by simp; omega), List.getElem?_append_left (by simp; omega)]
  congr 1; simp; omega
theorem lay_out {cur : Array Value} {O : Nat} {cs : List Value} (h : O + cs.length ≤ cur.size) {i : Nat} (hi : i < O ∨ O + cs.length ≤ i) : (lay cur O cs)[i]? = cur[i]? := by
  unfold lay
  rw [List.getElem?_toArray, List.append_assoc]
  rcases hi with hi | hi
  · rw [List.getElem?_append_left (by simp; omega), List.getElem?_take, if_pos hi, Array.getElem?_toList]
  · rw [List.getElem?_append_right (by simp; omega), List.getElem?_append_right (by simp; omega), List.getElem?_drop, Array.getElem?_toList]
    congr 1; simp; omega
theorem qc_lay {cur : Array Value} {O : Nat} {cs : List Value} {b : Bool} {L : List It} (q : Qs cs b L) (h : O + 34 ≤ cur.size) : Qc (lay cur O cs) O b L := by
  obtain ⟨h0, _, ⟨f, h1, r⟩, h2, h3⟩ := q
  have hf : O + cs.length ≤ cur.size := by omega
  exact ⟨⟨f, fun i hi => (lay_in hf (by omega)).trans (h1 i hi), r⟩, (lay_in hf (by omega)).trans h2, (lay_in hf (by omega)).trans h3⟩
theorem Dz.layS {cur : Array Value} {v : Value} {t : St} (r : Dz cur v t) {cs : List Value} {b : Bool} {L : List It} (q : Qs cs b L) : Dz (lay cur 0 cs) v { t with b := b, S := L } := by
  have h0 := q.1
  have hf : 0 + cs.length ≤ cur.size := by rw [r.size]; omega
  have e : ∀ i, 34 ≤ i → (lay cur 0 cs)[i]? = cur[i]? := fun i hi => lay_out hf (.inr (by omega))
  exact ⟨(lay_size hf).trans r.size, qc_lay q (by rw [r.size]; omega), fun i hi => (e _ (by omega)).trans (r.w i hi), r.r.congr (fun i h1 _ => e i (by omega)), (e _ (by omega)).trans r.m, (e _ (by omega)).trans r.d⟩
theorem Dz.layR {cur : Array Value} {v : Value} {t : St} (r : Dz cur v t) {cs : List Value} {L : List It} (q : Qs cs false L) : Dz (lay cur 51 cs) v { t with R := L } := by
  have h0 := q.1
  have hf : 51 + cs.length ≤ cur.size := by rw [r.size]; omega
  have e : ∀ i, i < 51 ∨ 85 ≤ i → (lay cur 51 cs)[i]? = cur[i]? := fun i hi => lay_out hf (by omega)
  exact ⟨(lay_size hf).trans r.size, r.s.congr (fun i _ h2 => e i (by omega)), fun i hi => (e _ (by omega)).trans (r.w i hi), qc_lay q (by rw [r.size]; omega), (e _ (by omega)).trans r.m, (e _ (by omega)).trans r.d⟩

theorem run_storeVar_in (w : World) (g o : Nat) (t ty : TypeId) (cur : Array Value) (cs : List Value) (hg : w.heap[g]? = some (.cells cur t (0, 0))) (hfit : o + cs.length ≤ cur.size)
    (hi : (Try.prog.info? ty).map (·.size) = some cs.length) (h1 : ∀ u ∈ cs, u.oneCell' = true) :
    (storeVar ty ⟨g, o, none⟩ (.agg cs.toArray)).run Try.prog w = .ok () (w.setRow g (lay cur o cs)) := by
  have := run_storeCells_at Try.prog g o t cs 0 cur w hg (by simpa using hfit) h1
  cases hq : Try.prog.info? ty with
  | none => simp [hq] at hi
  | some i =>
    have hs : cs.length = i.size := by simp [hq] at hi; omega
    simp only [Nat.add_zero] at this
    simp [storeVar, sizeOf, typeInfo, hq, Value.cells, hs, this, lay]
theorem wpList_store_in {ops : Array Oper} {rest : List Oper} {op : Oper} {a : Act} {w : World} {Q : Exit → Act → World → Prop} (hgd : op.guard = none) (ty : TypeId) (x y : Operand) (ho : op.op = .store ty x y)
    (g o : Nat) (cs : List Value) (hx : a.eval x = .pointer (some ⟨g, o, none⟩)) (hy : a.eval y = .agg cs.toArray) (t : TypeId) (cur : Array Value)
    (hg : w.heap[g]? = some (.cells cur t (0, 0))) (hfit : o + cs.length ≤ cur.size) (hi : (Try.prog.info? ty).map (·.size) = some cs.length) (h1 : ∀ u ∈ cs, u.oneCell' = true)
    (h : ∀ w', w'.heap[g]? = some (.cells (lay cur o cs) t (0, 0)) → Only g w w' → wpList Try.prog ops Q rest (a.put op.dst undef) w') : wpList Try.prog ops Q (op :: rest) a w :=
  wpList_plain hgd fun _ hK => by
    unfold Oper.wp execOp
    simp only [ho, hx, hy, Instr.storeAt, Instr.sureAddr, Sem.run_bind, Sem.run_pure, Result.andThen_ok, run_storeVar_in w g o t ty cur cs hg hfit hi h1]
    exact hK _ _ (h _ (setRow_heap _ _ _ _ _ _ hg) ⟨rfl, rfl, rfl, by simp [World.setRow], fun k _ h1 => setRow_other w g k _ h1⟩)

/-- a new data queue, all of whose memory is new -/
def Born (t : St) (w : World) (e : Ending) (w' : World) : Prop :=
  ∃ (s : Nat) (v : Value), e = .returned (.pointer (some ⟨s, 0, none⟩)) ∧ Dq w' w.heap.size s v t ∧ Below w.heap.size w w'

def st0 (b : Bool) (m : Nat) : St := ⟨b, m, [], [], fun _ => 0, []⟩
theorem st0_fine {b : Bool} {m : Nat} (h : m ≤ 64) : Fine (st0 b m) := ⟨good_nil _, good_nil _, by simp [st0], h⟩

/-- the cells that New builds -/
def c0 (m : Int) : Array Value := ((Array.replicate 33 (Value.int .i64 0)).push (.bool false) ++ Array.replicate 17 (Value.int .i64 0) ++ (Array.replicate 33 (Value.int .i64 0)).push (.bool false)).push (.int .i64 m) |>.push (.slice none 0 0)
theorem dz_c0 (m : Nat) : Dz (c0 m) (.slice none 0 0) (st0 false m) := by
  have hq : ∀ O, (O = 0 ∨ O = 51) → Qc (c0 m) O false [] := by
    intro O hO
    refine ⟨⟨fun _ => 0, fun i hi => ?_, fun j x hx => by simp at hx⟩, ?_, ?_⟩
    · rcases hO with rfl | rfl
      · match i, hi with
        | 0, _ | 1, _ | 2, _ | 3, _ | 4, _ | 5, _ | 6, _ | 7, _ | 8, _ | 9, _ | 10, _ | 11, _ | 12, _ | 13, _ | 14, _ | 15, _ | 16, _ | 17, _ | 18, _ | 19, _ | 20, _ | 21, _ | 22, _ | 23, _ | 24, _ | 25, _ | 26, _ | 27, _ | 28, _ | 29, _ | 30, _ | 31, _ => rfl
        | n + 32, h => omega
      · match i, hi with
        | 0, _ | 1, _ | 2, _ | 3, _ | 4, _ | 5, _ | 6, _ | 7, _ | 8, _ | 9, _ | 10, _ | 11, _ | 12, _ | 13, _ | 14, _ | 15, _ | 16, _ | 17, _ | 18, _ | 19, _ | 20, _ | 21, _ | 22, _ | 23, _ | 24, _ | 25, _ | 26, _ | 27, _ | 28, _ | 29, _ | 30, _ | 31, _ => rfl
        | n + 32, h => omega
    · rcases hO with rfl | rfl <;> rfl
    · rcases hO with rfl | rfl <;> rfl
  refine ⟨by simp [c0], hq 0 (.inl rfl), fun i hi => ?_, hq 51 (.inr rfl), rfl, rfl⟩
  match i, hi with
  | 0, _ | 1, _ | 2, _ | 3, _ | 4, _ | 5, _ | 6, _ | 7, _ | 8, _ | 9, _ | 10, _ | 11, _ | 12, _ | 13, _ | 14, _ | 15, _ | 16, _ => rfl
  | n + 17, h => omega

set_option maxHeartbeats 1600000 in
theorem dnew_bad (b : Bool) (m : Int) (hm : m < 0 ∨ 64 < m) (w : World) : Calls Try.prog 10 #[.bool b, .int .i64 m] w fun e w' => e = .returned (.tuple #[.pointer none, .int .i64 (-17)]) ∧ w = w' := by
  by_cases c : m < 0
  · have t1 : decide (m < 0) = true := by simpa using c
    clear hm
    go_enter Try.func10, Try.ntmps10
    go_wp2
    go_ret2
    exact ⟨rfl, rfl⟩
  · have t1 : decide (m < 0) = false := by simpa using c
    have t2 : decide (64 < m) = true := by simp; omega
    clear hm c
    go_enter Try.func10, Try.ntmps10
    go_wp2
    go_ret2
    exact ⟨rfl, rfl⟩

theorem built82 (m : Int) : Try.prog.built 82 [(1, .int .i64 m)] = some (c0 m) := by kernel_rfl
set_option maxHeartbeats 4000000 in
theorem dnew_ok (b : Bool) (m : Nat) (hm : m ≤ 64) (w : World) : Calls Try.prog 10 #[.bool b, .int .i64 (m : Int)] w fun e w' =>
    ∃ (s : Nat) (v : Value), e = .returned (.tuple #[.pointer (some ⟨s, 0, none⟩), .int .i64 0]) ∧ Dq w' w.heap.size s v (st0 b m) ∧ Below w.heap.size w w' := by
  have t2 : decide (64 < (m : Int)) = false := by simp; omega
  have t3 : decide (64 < m) = false := by simp; omega
  have t1 : decide ((m : Int) < 0) = false := by simp
  obtain ⟨fs, hu⟩ := und42
  have hf : Try.prog.built 82 [(1, .int .i64 (m : Int))] = some (c0 m) := built82 m
  obtain ⟨C, hC⟩ : ∃ C, c0 m = C := ⟨_, rfl⟩
  rw [hC] at hf
  have HC := Lib.hid hC
  clear hm hC
  go_enter Try.func10, Try.ntmps10
  go_wp2_with (first | (refine wpList_buildTo rfl 82 _ rfl _ rfl C (Eq.trans (b := Try.prog.built 82 [(1, .int .i64 (m : Int))]) (by kernel_rfl) hf) ?_))
  generalize hw0 : w.alloc _ = w0
  have h0 : w0.heap[w.heap.size]? = some (.cells (c0 m) 82 (0, 0)) := by rw [← hw0, HC.out]; exact heap_alloc_new w _
  have HB0 := Lib.hid (show Below w.heap.size w w0 by rw [← hw0]; exact (Below.refl _ _).alloc (Nat.le_refl _) _)
  have H0 := Lib.hid h0
  clear hw0 h0 t1 t2 t3
  obtain ⟨g, hg⟩ : ∃ g, w.heap.size = g := ⟨_, rfl⟩
  rw [hg] at H0 HB0 ⊢
  have HG := Lib.hid hg
  clear hg
  have HN := Lib.hid (new_ok b w0)
  refine HN.out.mono ?_
  rintro e w1 ⟨p, hp, rfl, hl, hb⟩
  have h1 := (hb.block g (lt_of_heap H0.out)).trans H0.out
  have HB1 := Lib.hid (HB0.out.trans (hb.mono (by have := lt_of_heap H0.out; omega)))
  obtain ⟨cs, hcs, hq⟩ := hl.qs
  have hi : (Try.prog.info? 73).map (·.size) = some cs.length := by rw [hq.1]; exact info42
  have HQ := Lib.hid hq
  have hfit : 0 + cs.length ≤ (c0 m).size := by rw [hq.1]; simp [c0]
  clear hl hp hb hq HN
  go_wp2_with (first
    | (refine wpList_load_mid rfl 73 (.tmp 19) rfl p 0 rfl cs (.struct fs) hcs hu rfl hi ?_)
    | (refine wpList_store_in rfl 73 (.tmp 24) (.tmp 20) rfl g 0 cs rfl rfl 82 (c0 m) h1 hfit hi HQ.out.2.1 ?_
       intro w2 hg2 ho2
       have HB2 := Lib.hid (HB1.out.trans (ho2.below (by have := HB1.out.size; have := HG.out; omega) (Nat.le_refl _)))
       have H2 := Lib.hid hg2
       clear hg2 ho2 h1 hcs hfit))
  have HN := Lib.hid (new_ok false w2)
  refine HN.out.mono ?_
  rintro e w3 ⟨p3, hp, rfl, hl, hb⟩
  have h3 := (hb.block g (lt_of_heap H2.out)).trans H2.out
  have HB3 := Lib.hid (HB2.out.trans (hb.mono (by have := lt_of_heap H2.out; omega)))
  obtain ⟨ds, hds, hq⟩ := hl.qs
  have hi2 : (Try.prog.info? 73).map (·.size) = some ds.length := by rw [hq.1]; exact info42
  have HQ2 := Lib.hid hq
  have hz := (dz_c0 m).layS HQ.out
  have hfit : 51 + ds.length ≤ (lay (c0 m) 0 cs).size := by rw [hq.1, hz.size]; omega
  have HZ := Lib.hid hz
  clear hl hp hb hq HN hi hz
  go_wp2_with (first
    | (refine wpList_load_mid rfl 73 (.tmp 27) rfl p3 0 rfl ds (.struct fs) hds hu rfl hi2 ?_)
    | (refine wpList_store_in rfl 73 (.tmp 32) (.tmp 28) rfl g 51 ds rfl rfl 82 _ h3 hfit hi2 HQ2.out.2.1 ?_
       intro w4 hg4 ho4
       have HB4 := Lib.hid (HB3.out.trans (ho4.below (by have := HB3.out.size; have := HG.out; omega) (Nat.le_refl _)))
       have H4 := Lib.hid hg4
       clear hg4 ho4 h3 hds hfit))
  go_ret2
  exact ⟨g, .slice none 0 0, rfl, ⟨⟨_, H4.out, HZ.out.layR HQ2.out⟩, ⟨rfl, .inl ⟨rfl, rfl⟩⟩, by rw [HG.out]; exact Nat.le_refl _⟩, by rw [HG.out]; exact HB4.out⟩

theorem und82 : ∃ fs, Try.prog.underlying 82 = some (.struct fs) := struct_of (by kernel_rfl)
theorem info82 : (Try.prog.info? 82).map (·.size) = some 87 := by kernel_rfl
theorem Dz.one {cs : Array Value} {v : Value} {t : St} (r : Dz cs v t) (hv : v.oneCell' = true) : cs.all (·.oneCell') = true := by
  rw [Array.all_eq_true]
  intro i hi
  have hs := r.size
  have e : cs[i]? = some cs[i] := Array.getElem?_eq_getElem hi
  have one : ∀ u, cs[i]? = some u → u.oneCell' = true → (cs[i]).oneCell' = true := fun u hu ho => by rw [e] at hu; injection hu with hu; rw [hu]; exact ho
  by_cases c1 : i < 34
  · obtain ⟨u, h1, h2⟩ := r.s.one (i := i) (by omega) (by omega); exact one u h1 h2
  by_cases c2 : i < 51
  · have := r.w (i - 34) (by omega)
    rw [show 34 + (i - 34) = i by omega] at this
    exact one _ this rfl
  by_cases c3 : i < 85
  · obtain ⟨u, h1, h2⟩ := r.r.one (i := i) (by omega) (by omega); exact one u h1 h2
  by_cases c4 : i = 85
  · subst c4; exact one _ r.m rfl
  · have c5 : i = 86 := by omega
    subst c5; exact one _ r.d hv

theorem zero_info : (Try.prog.info? 82).map (·.zero) = some (some (.agg (c0 0))) := by kernel_rfl
theorem zero82 (W : World) : (zeroValue 82).run Try.prog W = .ok (.agg (c0 0)) W := by
  have h := zero_info
  cases hq : Try.prog.info? 82 with
  | none => simp [hq] at h
  | some i =>
    have hz : i.zero = some (.agg (c0 0)) := by simpa [hq] using h
    simp [zeroValue, typeInfo, hq, hz]
set_option maxHeartbeats 4000000 in
theorem dtwin_ok (B s : Nat) (v : Value) (t : St) (w : World) (h : Dq w B s v t) (hf : Fine t) : Calls Try.prog 27 #[.pointer (some ⟨s, 0, none⟩)] w (Born t w) := by
  obtain ⟨X, k, rfl, _, _⟩ := K.own_form h.o
  obtain ⟨n, hn⟩ : ∃ n, t.D.length = n := ⟨_, rfl⟩
  rw [hn] at h
  obtain ⟨cs, hcs, hz⟩ := h.c
  obtain ⟨fs, hu⟩ := und82
  obtain ⟨fs3, hu3⟩ := und42
  have hi : (Try.prog.info? 82).map (·.size) = some cs.size := by rw [hz.size]; exact info82
  have hall := hz.one rfl
  have HF := Lib.hid hf
  have H := Lib.hid h
  have HZ := Lib.hid hz
  have hd1000 : t.D.length ≤ 1000 := by have := hf.d; have := hf.m; omega
  have HD := Lib.hid hd1000
  have hz82 := zero82
  obtain ⟨C, hC⟩ : ∃ C, c0 0 = C := ⟨_, rfl⟩
  have hzs : C.size = cs.size := by rw [hz.size, ← hC]; rfl
  rw [hC] at hz82
  clear hC
  clear hz h hf hn hd1000
  go_enter Try.func27, Try.ntmps27
  go_wp2_with (first
    | (refine wpList_load_row rfl 82 (.tmp 5) rfl s rfl 82 cs (0, 0) (.struct fs) hcs hu rfl hi ?_)
    | (refine wpList_store_row rfl 82 (.tmp 3) (.tmp 6) rfl w.heap.size cs rfl rfl 82 _ (heap_alloc_new w _) hi hzs hall ?_))
  generalize hw1 : World.setRow _ _ _ = w1
  have h1 : w1.heap[w.heap.size]? = some (.cells cs 82 (0, 0)) := by rw [← hw1]; exact setRow_heap _ _ _ _ _ _ (heap_alloc_new w _)
  have hb1 : Below w.heap.size w w1 := by rw [← hw1]; exact below_setRow ((Below.refl _ _).alloc (Nat.le_refl _) _) (Nat.le_refl _) _
  have hq1 := H.out.below hb1
  have HSG := Lib.hid H.out.lt
  obtain ⟨g, hg⟩ : ∃ g, w.heap.size = g := ⟨_, rfl⟩
  have HG := Lib.hid hg
  rw [hg] at h1 hb1 HSG ⊢
  have HQ1 := Lib.hid hq1
  have H1 := Lib.hid h1
  have HB1 := Lib.hid hb1
  obtain ⟨Xs, hl, _⟩ := hq1.c.sq
  have HN := Lib.hid (twin_ok s 82 t.b t.S w1 hl)
  clear hw1 h1 hb1 hq1 hl hg hcs hall hi hzs hu H hz82
  refine HN.out.mono ?_
  rintro e w2 ⟨p, hp, rfl, hl, hb⟩
  have h2 := (hb.block g (lt_of_heap H1.out)).trans H1.out
  have HB2 := Lib.hid (HB1.out.trans (hb.mono (by have := lt_of_heap H1.out; omega)))
  have HQ2 := Lib.hid (HQ1.out.below hb)
  obtain ⟨ys, hys, hq⟩ := hl.qs
  have hi : (Try.prog.info? 73).map (·.size) = some ys.length := by rw [hq.1]; exact info42
  have HQS := Lib.hid hq
  have hfit : 0 + ys.length ≤ cs.size := by rw [hq.1, HZ.out.size]; omega
  clear hl hp hb hq HN HQ1 H1 HB1
  go_wp2_with (first
    | (refine wpList_load_mid rfl 73 (.tmp 13) rfl p 0 rfl ys (.struct fs3) hys hu3 rfl hi ?_)
    | (refine wpList_store_in rfl 73 (.tmp 17) (.tmp 14) rfl g 0 ys rfl rfl 82 cs h2 hfit hi HQS.out.2.1 ?_
       intro w3 hg3 ho3
       have HB3 := Lib.hid (HB2.out.trans (ho3.below (by have := HB2.out.size; have := HG.out; omega) (Nat.le_refl _)))
       have HQ3 := Lib.hid (HQ2.out.only ho3 (by have := HSG.out; omega) (own_ne HQ2.out.o (fun cs fr e => by rw [h2] at e; injection e with e; injection e with _ e; cases e)))
       have H3 := Lib.hid hg3
       clear hg3 ho3 h2 hys hfit))
  obtain ⟨Xr, hl, _⟩ := HQ3.out.c.rq
  have HN := Lib.hid (twin_ok s 82 false t.R w3 hl)
  clear hl
  refine HN.out.mono ?_
  rintro e w4 ⟨p4, hp, rfl, hl, hb⟩
  have h4 := (hb.block g (lt_of_heap H3.out)).trans H3.out
  have HB4 := Lib.hid (HB3.out.trans (hb.mono (by have := lt_of_heap H3.out; omega)))
  have HQ4 := Lib.hid (HQ3.out.below hb)
  obtain ⟨bs, hbs, hq⟩ := hl.qs
  have hi2 : (Try.prog.info? 73).map (·.size) = some bs.length := by rw [hq.1]; exact info42
  have HQR := Lib.hid hq
  have hz4 := HZ.out.layS HQS.out
  have hfit : 51 + bs.length ≤ (lay cs 0 ys).size := by rw [hq.1, hz4.size]; omega
  have HZ4 := Lib.hid hz4
  clear hl hp hb hq HN HQ3 H3 HB3 hi hz4
  go_wp2_with (first
    | (refine wpList_load_mid rfl 73 (.tmp 24) rfl p4 0 rfl bs (.struct fs3) hbs hu3 rfl hi2 ?_)
    | (refine wpList_store_in rfl 73 (.tmp 28) (.tmp 25) rfl g 51 bs rfl rfl 82 _ h4 hfit hi2 HQR.out.2.1 ?_
       intro w5 hg5 ho5
       have HB5 := Lib.hid (HB4.out.trans (ho5.below (by have := HB4.out.size; have := HG.out; omega) (Nat.le_refl _)))
       have HQ5 := Lib.hid (HQ4.out.only ho5 (by have := HSG.out; omega) (own_ne HQ4.out.o (fun cs fr e => by rw [h4] at e; injection e with e; injection e with _ e; cases e)))
       have H5 := Lib.hid hg5
       clear hg5 ho5 h4 hbs hfit))
  have HN := Lib.hid (data_any B s _ t w5 HQ5.out HD.out)
  refine HN.out.mono ?_
  rintro e w6 ⟨u, rfl, ho, hb⟩
  have hc6 : Dc w6 g (.slice X n k) t := ⟨_, (hb.block g (lt_of_heap H5.out)).trans H5.out, HZ4.out.layR HQR.out⟩
  have HB6 := Lib.hid (HB5.out.trans (hb.mono (by have := lt_of_heap H5.out; omega)))
  have HO := Lib.hid (K.own_base ho (by have := lt_of_heap H5.out; omega : g ≤ w5.heap.size))
  obtain ⟨X6, k6, rfl, _⟩ := K.own_form ho
  have d6 := hc6.data
  have z6 := hc6.fz 86
  have HC6 := Lib.hid hc6
  clear ho hb HN HQ5 H5 HB5 hc6 hi2
  go_wp2
  go_ret
  refine ⟨g, _, rfl, ⟨(HC6.out.setData _ t.D), ?_, by rw [HG.out]; exact Nat.le_refl _⟩, by rw [HG.out]; exact HB6.out.setCell (p := ⟨g, 86, none⟩) (Nat.le_refl _) _⟩
  rw [HG.out]
  exact K.own_keep HO.out fun q cs hq _ => Below.heap_setCell _ _ _ _ (by rintro rfl; exact HC6.out.type (e := 3) (by decide) _ _ hq)
end Go.Proofs.Ytnbepahanhcmeaa
