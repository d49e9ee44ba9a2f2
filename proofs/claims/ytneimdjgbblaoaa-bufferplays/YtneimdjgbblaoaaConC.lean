/- Contracts of package order: lists behind removeAt and insertAt; New, Twin, Row. -/
import Derived.Test.YtneimdjgbblaoaaConB
import Derived.Deep.MidRow
namespace Go.Proofs.Ytneimdjgbblaoaa
open Go.RowKit
set_option maxRecDepth 100000
variable {O : Nat} {X : Nat → Option Value}

theorem rel_rem {f : Nat → Int} {L : List It} {a m : Nat} (h : Rel f L) (hl : L.length = m + 1) (ha : a ≤ m) : Rel (remF f a m) (L.eraseIdx a) := by
  intro j x hx
  have hj := (List.getElem?_eq_some_iff.1 hx).1
  rw [List.length_eraseIdx_of_lt (by omega)] at hj
  rw [List.getElem?_eraseIdx] at hx
  unfold remF
  by_cases c : j < a
  · rw [if_pos c] at hx
    obtain ⟨h1, h2⟩ := h j x hx
    rw [if_neg (by omega), if_neg (by omega), if_neg (by omega), if_neg (by omega), if_neg (by omega), if_neg (by omega)]
    exact ⟨h1, h2⟩
  · rw [if_neg c] at hx
    obtain ⟨h1, h2⟩ := h (j + 1) x hx
    rw [if_neg (by omega), if_neg (by omega), if_pos (by omega), if_neg (by omega), if_neg (by omega), if_pos (by omega)]
    rw [← h1, ← h2]
    exact ⟨by congr 1; omega, by congr 1; omega⟩

theorem getElem?_ins {L : List It} {a : Nat} (ha : a ≤ L.length) (x : It) (j : Nat) : (ins L a x)[j]? = if j < a then L[j]? else if j = a then some x else L[j - 1]? := by
  unfold ins
  rw [List.getElem?_append]
  have e : (L.take a).length = a := by simp; omega
  rw [e]
  by_cases c : j < a
  · rw [if_pos c, if_pos c, List.getElem?_take, if_pos c]
  · rw [if_neg c, if_neg c]
    by_cases c2 : j = a
    · subst c2; simp
    · rw [if_neg c2, List.getElem?_cons, if_neg (by omega), List.getElem?_drop]; congr 1; omega

theorem rel_ins {f : Nat → Int} {L : List It} {a : Nat} (h : Rel f L) (ha : a ≤ L.length) (x : It) : Rel (insF f a L.length x) (ins L a x) := by
  intro j y hy
  have hj := (List.getElem?_eq_some_iff.1 hy).1
  rw [ins_len ha] at hj
  rw [getElem?_ins ha] at hy
  unfold insF
  by_cases c : j < a
  · rw [if_pos c] at hy
    obtain ⟨h1, h2⟩ := h j y hy
    rw [if_neg (by omega), if_neg (by omega), if_neg (by omega), if_neg (by omega), if_neg (by omega), if_neg (by omega)]
    exact ⟨h1, h2⟩
  · rw [if_neg c] at hy
    by_cases c2 : j = a
    · rw [if_pos c2] at hy
      injection hy with hy
      subst hy c2
      exact ⟨by rw [if_neg (by omega), if_pos rfl], by rw [if_pos rfl]⟩
    · rw [if_neg c2] at hy
      obtain ⟨h1, h2⟩ := h (j - 1) y hy
      rw [if_neg (by omega), if_neg (by omega), if_pos (by omega), if_neg (by omega), if_neg (by omega), if_pos (by omega)]
      rw [← h1, ← h2]
      exact ⟨by congr 1; omega, by congr 1; omega⟩

theorem removeAt_ok (p T a : Nat) (b : Bool) (L : List It) (w : World) (hl : Ln O X w p T b L) (ha : a < L.length) (hn : L.length ≤ 16) (x : Int) (hx : x = (a : Int)) :
    Calls Try.prog 65 #[.pointer (some ⟨p, O, none⟩), .int .i64 x] w fun e w' => e = .returned (.tuple #[]) ∧ Ln O X w' p T b (L.eraseIdx a) ∧ Only p w w' := by
  obtain ⟨f, hl, r⟩ := hl
  obtain ⟨m, hm⟩ : ∃ m, L.length = m + 1 := ⟨L.length - 1, by omega⟩
  rw [hm] at hl
  refine (removeAt_c p T m a b f w hl (by omega) (by omega) x hx).mono ?_
  rintro e w' ⟨he, hl', ho⟩
  refine ⟨he, ⟨_, ?_, rel_rem r hm (by omega)⟩, ho⟩
  rw [List.length_eraseIdx_of_lt ha, hm]; exact hl'

theorem insertAt_ok (p T a : Nat) (b : Bool) (L : List It) (x : It) (w : World) (hl : Ln O X w p T b L) (ha : a ≤ L.length) (hn : L.length < 16) (i q : Int) (hi : i = x.1) (hq : q = x.2) :
    Calls Try.prog 74 #[.pointer (some ⟨p, O, none⟩), .int .i64 (a : Int), .agg #[.int .i64 i, .int .i64 q]] w fun e w' => e = .returned (.tuple #[]) ∧ Ln O X w' p T b (ins L a x) ∧ Only p w w' := by
  subst hi hq
  obtain ⟨f, hl, r⟩ := hl
  refine (insertAt_c p T L.length a b f x w hl ha hn).mono ?_
  rintro e w' ⟨he, hl', ho⟩
  refine ⟨he, ⟨_, ?_, rel_ins r ha x⟩, ho⟩
  rw [ins_len ha]; exact hl'

/-- a new queue, in a block of its own -/
def Made (b : Bool) (L : List It) (w : World) (e : Ending) (w' : World) : Prop :=
  ∃ p : Nat, w.heap.size ≤ p ∧ e = .returned (.pointer (some ⟨p, 0, none⟩)) ∧ Ln 0 (fun _ => none) w' p 65 b L ∧ Below w.heap.size w w'

theorem lm_zero (w : World) (T : Nat) (b : Bool) (cs : Array Value) (h : cs = (Array.replicate 33 (Value.int .i64 0)).push (.bool b)) : Ln 0 (fun _ => none) (w.alloc (.cells cs T)) w.heap.size T b [] := by
  subst h
  refine ⟨fun _ => 0, ⟨_, heap_alloc_new w _, fun i hi => ?_, ?_, ?_, fun i hi => ?_⟩, fun j x hx => by simp at hx⟩
  · rw [Nat.zero_add, Array.getElem?_push, if_neg (by simp; omega), Array.getElem?_replicate, if_pos (by omega)]
  · rfl
  · rw [Array.getElem?_push, if_pos (by simp)]
  · rw [Array.getElem?_eq_none (by simp; omega)]

set_option maxHeartbeats 800000 in
theorem new_ok (b : Bool) (w : World) : Calls Try.prog 33 #[.bool b] w (Made b [] w) := by
  go_enter Try.func33, Try.ntmps33
  go_wp2
  go_ret
  exact ⟨w.heap.size, Nat.le_refl _, rfl, lm_zero w 65 b _ rfl, (Below.refl _ _).alloc (Nat.le_refl _) _⟩

theorem und42 : ∃ fs, Try.prog.underlying 65 = some (.struct fs) := struct_of (by kernel_rfl)
theorem info42 : (Try.prog.info? 65).map (·.size) = some 34 := by kernel_rfl

/-- a queue's 34 cells, by themselves -/
def Qs (cs : List Value) (b : Bool) (L : List It) : Prop :=
  cs.length = 34 ∧ (∀ v ∈ cs, v.oneCell' = true) ∧ (∃ f : Nat → Int, (∀ i, i < 32 → cs[i]? = some (.int .i64 (f i))) ∧ Rel f L) ∧ cs[32]? = some (.int .i64 (L.length : Int)) ∧ cs[33]? = some (.bool b)

theorem Ln.qs {w : World} {p T : Nat} {b : Bool} {L : List It} (h : Ln O X w p T b L) : ∃ cs : List Value, w.rangeAt p O cs ∧ Qs cs b L := by
  obtain ⟨f, ⟨cs, hh, h1, h2, h3, h4⟩, r⟩ := h
  have hs : O + 33 < cs.size := (Array.getElem?_eq_some_iff.1 h3).1
  refine ⟨(cs.extract O (O + 34)).toList, World.rangeAt_of_block hh O 34, by simp; omega, fun v hv => ?_, ⟨f, fun i hi => ?_, r⟩, ?_, ?_⟩
  · obtain ⟨i, hi, e⟩ := List.getElem_of_mem hv
    simp at hi
    have e2 : cs[O + i]? = some v := by rw [← e]; simp
    rcases Nat.lt_trichotomy i 32 with c | c | c
    · rw [h1 i c] at e2; injection e2 with e2; rw [← e2]; rfl
    · subst c; rw [h2] at e2; injection e2 with e2; rw [← e2]; rfl
    · have c3 : i = 33 := by omega
      subst c3; rw [h3] at e2; injection e2 with e2; rw [← e2]; rfl
  · rw [Array.getElem?_toList, Array.getElem?_extract, if_pos (by omega)]; exact h1 i hi
  · rw [Array.getElem?_toList, Array.getElem?_extract, if_pos (by omega)]; exact h2
  · rw [Array.getElem?_toList, Array.getElem?_extract, if_pos (by omega)]; exact h3

/-- such cells, laid into a block from O on -/
theorem Qs.lay {cs : List Value} {b : Bool} {L : List It} (h : Qs cs b L) {w' : World} {p T : Nat} {cur : Array Value} (hfit : O + 34 ≤ cur.size)
    (hg : w'.heap[p]? = some (.cells (cur.toList.take O ++ cs ++ cur.toList.drop (O + cs.length)).toArray T (0, 0))) : Ln O (fun i => cur[i]?) w' p T b L := by
  obtain ⟨h0, _, ⟨f, h1, r⟩, h2, h3⟩ := h
  have hin : ∀ i, i < 34 → (cur.toList.take O ++ cs ++ cur.toList.drop (O + cs.length)).toArray[O + i]? = cs[i]? := fun i hi => by
    rw [List.getElem?_toArray, List.append_assoc, List.getElem?_append_right (by simp; omega), List.getElem?_append_left (by simp; omega)]
    congr 1; simp; omega
  refine ⟨f, ⟨_, hg, fun i hi => by rw [hin i (by omega)]; exact h1 i hi, by rw [hin 32 (by omega)]; exact h2, by rw [hin 33 (by omega)]; exact h3, fun i hi => ?_⟩, r⟩
  rw [List.getElem?_toArray, List.append_assoc]
  rcases hi with hi | hi
  · rw [List.getElem?_append_left (by simp; omega), List.getElem?_take, if_pos hi, Array.getElem?_toList]
  · rw [List.getElem?_append_right (by simp; omega), List.getElem?_append_right (by simp; omega), List.getElem?_drop, Array.getElem?_toList]
    congr 1; simp; omega

/-- such cells fill a new queue's block -/
theorem Qs.fill {cs : List Value} {b : Bool} {L : List It} (h : Qs cs b L) {w' : World} {p T : Nat} (hg : w'.heap[p]? = some (.cells cs.toArray T (0, 0))) : Ln 0 (fun _ => none) w' p T b L := by
  obtain ⟨h0, _, ⟨f, h1, r⟩, h2, h3⟩ := h
  exact ⟨f, ⟨_, hg, fun i hi => by rw [Nat.zero_add, List.getElem?_toArray]; exact h1 i hi, by rw [List.getElem?_toArray]; exact h2, by rw [List.getElem?_toArray]; exact h3,
    fun i hi => by rw [List.getElem?_toArray, List.getElem?_eq_none (by omega)]⟩, r⟩

set_option maxHeartbeats 800000 in
theorem twin_ok (p T : Nat) (b : Bool) (L : List It) (w : World) (hl : Ln O X w p T b L) : Calls Try.prog 58 #[.pointer (some ⟨p, O, none⟩)] w (Made b L w) := by
  obtain ⟨cs, hcs, hq⟩ := hl.qs
  obtain ⟨fs, hu⟩ := und42
  have hi : (Try.prog.info? 65).map (·.size) = some cs.length := by rw [hq.1]; exact info42
  have hi' : (Try.prog.info? 65).map (·.size) = some cs.toArray.size := by rw [List.size_toArray]; exact hi
  have hsz : cs.toArray.size = 34 := by rw [List.size_toArray]; exact hq.1
  have hall : cs.toArray.all (·.oneCell') = true := all_oneCell_toArray hq.2.1
  have HQ := Lib.hid hq
  clear hq
  go_enter Try.func58, Try.ntmps58
  go_wp2_with (first
    | (refine wpList_load_mid rfl 65 (.tmp 5) rfl p O rfl cs (.struct fs) hcs hu rfl hi ?_)
    | (refine wpList_store_row rfl 65 (.tmp 3) (.tmp 6) rfl w.heap.size cs.toArray rfl rfl 65 _ (heap_alloc_new w _) hi' hsz.symm hall ?_))
  go_ret
  exact ⟨w.heap.size, Nat.le_refl _, rfl, HQ.out.fill (setRow_heap _ _ _ _ _ _ (heap_alloc_new w _)), below_setRow ((Below.refl _ _).alloc (Nat.le_refl _) _) (Nat.le_refl _) _⟩

/-- a slice of items (element type e) that is read: L -/
def Sl (w : World) (e : TypeId) (v : Value) (L : List It) : Prop :=
  (v = .slice none 0 0 ∧ L = []) ∨ ∃ (g o k : Nat) (cs : Array Value), v = .slice (some ⟨g, o, none⟩) L.length k ∧ L.length ≤ k ∧ k ≤ 9223372036854775807 ∧ w.heap[g]? = some (.cells cs e (0, 0)) ∧
    ∀ (j : Nat) (x : It), L[j]? = some x → cs[o + j * 2]? = some (.int .i64 x.1) ∧ cs[o + j * 2 + 1]? = some (.int .i64 x.2)

theorem Sl.keep {w w' : World} {e : TypeId} {v : Value} {L : List It} (h : Sl w e v L) (k : ∀ (g : Nat) (cs : Array Value), w.heap[g]? = some (.cells cs e (0, 0)) → w'.heap[g]? = w.heap[g]?) : Sl w' e v L := by
  rcases h with h | ⟨g, o, c, cs, h1, h2, h3, h4, h5⟩
  · exact .inl h
  · exact .inr ⟨g, o, c, cs, h1, h2, h3, (k g cs h4).trans h4, h5⟩
theorem Sl.below {w w' : World} {e : TypeId} {v : Value} {L : List It} (h : Sl w e v L) (k : Below w.heap.size w w') : Sl w' e v L := h.keep fun g _ hg => k.block g (lt_of_heap hg)
/-- a block of another type has turned -/
theorem Sl.only {w w' : World} {e : TypeId} {v : Value} {L : List It} (h : Sl w e v L) {p : Nat} (k : Only p w w') (hp : ∀ cs fr, w.heap[p]? ≠ some (.cells cs e fr)) : Sl w' e v L :=
  h.keep fun g cs hg => k.block g (lt_of_heap hg) (by rintro rfl; exact hp cs _ hg)
theorem Ln.type {w : World} {p T : Nat} {b : Bool} {L : List It} (h : Ln O X w p T b L) {e : TypeId} (he : e ≠ T) : ∀ cs fr, w.heap[p]? ≠ some (.cells cs e fr) := by
  obtain ⟨f, ⟨cs, hh, _⟩, _⟩ := h
  intro cs2 fr h2
  rw [hh] at h2; injection h2 with h2; injection h2 with _ h3; exact he h3.symm
theorem Sl.cell {w : World} {e : TypeId} {g o : Nat} {cs : Array Value} (hg : w.heap[g]? = some (.cells cs e (0, 0))) {L : List It} (h5 : ∀ (j : Nat) (x : It), L[j]? = some x → cs[o + j * 2]? = some (.int .i64 x.1) ∧ cs[o + j * 2 + 1]? = some (.int .i64 x.2))
    {j : Nat} {x : It} (hx : L[j]? = some x) : w.cell? ⟨g, o + j * 2, none⟩ = some (.int .i64 x.1) ∧ w.cell? ⟨g, o + j * 2 + 1, none⟩ = some (.int .i64 x.2) := by
  rw [cell_of_row w g _ cs e (0, 0) hg, cell_of_row w g _ cs e (0, 0) hg]; exact h5 j x hx

theorem info37' : (Try.prog.info? 60).map (fun i => (i.zero, i.size, i.bytes)) = some (some (.agg #[.int .i64 0, .int .i64 0]), 2, 16) := by kernel_rfl

theorem run_make_items (n : Nat) (hn : n ≤ 65536) (W : World) :
    (Instr.makeSlice 115 (.int .i64 (n : Int)) (.int .i64 (n : Int))).run Try.prog W = .ok (.slice (some ⟨W.heap.size, 0, none⟩) n n) (W.alloc (.cells (madeCells #[.int .i64 0, .int .i64 0] (n * 2)) 60)) := by
  obtain ⟨i0, hi0, hz0, hz1, hz2⟩ := info_parts info37'
  have h := run_make (P := Try.prog) W 115 60 i0 _ Try.underlying115 hi0 hz0 .i64 .i64 n n (by omega) (by omega) (by rw [hz2]; omega) (by omega)
  simpa [hz1, Value.cells] using h

set_option maxHeartbeats 800000 in
theorem row_ok (p T : Nat) (b : Bool) (L : List It) (w : World) (hl : Ln O X w p T b L) (hn : L.length ≤ 16) :
    Calls Try.prog 62 #[.pointer (some ⟨p, O, none⟩)] w fun e w' => ∃ v, e = .returned v ∧ Sl w' 60 v L ∧ Below w.heap.size w w' := by
  obtain ⟨f, hl, r⟩ := hl
  obtain ⟨n, hlen⟩ : ∃ n, L.length = n := ⟨_, rfl⟩
  rw [hlen] at hn hl
  have HLN := Lib.hid hlen
  have HR := Lib.hid r
  clear hlen r
  have hmk := run_make_items n (by omega) w
  have h0 := hl.count
  have hcut := cut_h p O n hn
  go_enter Try.func62, Try.ntmps62
  go_wp2
  have hl1 := hl.alloc (.cells (madeCells #[.int .i64 0, .int .i64 0] (n * 2)) 60)
  have hb1 := (Below.refl w.heap.size w).alloc (Nat.le_refl _) (.cells (madeCells #[.int .i64 0, .int .i64 0] (n * 2)) 60)
  have hq1 := heap_alloc_new w (.cells (madeCells #[.int .i64 0, .int .i64 0] (n * 2)) 60)
  have hsz : (madeCells #[Value.int .i64 0, .int .i64 0] (n * 2)).size = n * 2 := size_madeCells _ _
  generalize w.alloc (.cells (madeCells #[.int .i64 0, .int .i64 0] (n * 2)) 60) = w1 at *
  generalize madeCells #[Value.int .i64 0, .int .i64 0] (n * 2) = cur at *
  clear hl hmk h0
  obtain ⟨g, hgs⟩ : ∃ g, w.heap.size = g := ⟨_, rfl⟩
  rw [hgs] at hq1 hb1 ⊢
  have HG := Lib.hid hgs
  clear hgs
  have h0 := hl1.count
  go_still_tail 9, (by kernel_rfl)
  change wpList _ _ _ _ _ w1.drew
  have hl2 : Lm O X w1.drew p T n b f := hl1
  have hb2 : Below g w w1.drew := hb1.drew
  have hq2 : w1.drew.heap[g]? = _ := hq1
  generalize w1.drew = w2 at *
  clear hl1 hb1 hq1 h0
  refine wpList_copy_items rfl _ _ rfl (some ⟨g, 0, none⟩) (some ⟨p, O, none⟩) n n n 16 rfl rfl (Nat.le_refl _) g 0 f cur 60 hq2 (fun h => ⟨rfl, p, O, rfl, fun j hj => hl2.at_ rfl (by omega)⟩) (by omega) ?_
  intro w3 cs3 hg3 hcp hsz3 ho
  have HC := Lib.hid hcp
  have HB := Lib.hid (hb2.trans (ho.below (by have := lt_of_heap hq2; omega) (Nat.le_refl _)))
  have HQ := Lib.hid hg3
  clear hl2 hb2 hq2 hcp hg3 ho hcut
  go_wp2
  go_ret
  refine ⟨_, rfl, .inr ⟨g, 0, n, cs3, by rw [HLN.out]; rfl, by rw [HLN.out]; omega, by omega, HQ.out, fun j x hx => ?_⟩, HG.out ▸ HB.out⟩
  have hj := (List.getElem?_eq_some_iff.1 hx).1
  rw [HLN.out] at hj
  obtain ⟨r1, r2⟩ := HR.out j x hx
  rw [HC.out, HC.out, if_pos (by omega), if_pos (by omega), ← r1, ← r2]
  simp
end Go.Proofs.Ytneimdjgbblaoaa
