/- The document's own rows (detentref3): their memory; New, Head, node, Of. -/
import Derived.Test.YtmfjhckacmdijaaConM
namespace Go.Proofs.Ytmfjhckacmdijaa
open Go.RowKit

/-- a slice of integers that is read: the row L; in a block that is neither m nor r -/
def Sl (w : World) (m r : Nat) (v : Value) (L : List Nat) : Prop :=
  (v = .slice none 0 0 ∧ L = []) ∨ ∃ b o k : Nat, v = .slice (some ⟨b, o, none⟩) L.length k ∧ L.length ≤ k ∧ k ≤ 9223372036854775807 ∧ b ≠ m ∧ b ≠ r ∧ b < w.heap.size ∧
    ∀ j x : Nat, L[j]? = some x → w.cell? ⟨b, o + j, none⟩ = some (.int .i64 (x : Int))

theorem Sl.keep {w w' : World} {m r : Nat} {v : Value} {L : List Nat} (h : Sl w m r v L) (hs : w.heap.size ≤ w'.heap.size) (k : ∀ i, i < w.heap.size → i ≠ m → i ≠ r → w'.heap[i]? = w.heap[i]?) : Sl w' m r v L := by
  rcases h with h | ⟨b, o, c, h1, h2, h3, h4, h5, h6, h7⟩
  · exact .inl h
  · refine .inr ⟨b, o, c, h1, h2, h3, h4, h5, by omega, fun j x hx => ?_⟩
    rw [World.cell?_of_block (w := w) (a := ⟨b, o + j, none⟩) (k b h6 h4 h5)]; exact h7 j x hx
theorem Sl.only {w w' : World} {m r q s : Nat} {v : Value} {L : List Nat} (h : Sl w m r v L) (k : Only q s w w') (hq : q = m ∨ q = r ∨ w.heap.size ≤ q) (hs : s = m ∨ s = r ∨ w.heap.size ≤ s) : Sl w' m r v L :=
  h.keep k.size fun i hi h1 h2 => k.block i hi (by omega) (by omega)
theorem Sl.below {w w' : World} {m r : Nat} {v : Value} {L : List Nat} (h : Sl w m r v L) (k : Below w.heap.size w w') : Sl w' m r v L :=
  h.keep k.size fun i hi _ _ => k.block i hi
theorem Sl.own {w : World} {B m r : Nat} {v : Value} {L : List Nat} (h : w.ownsRow B 3 1 v L.length (vals L)) (hm : m < B) (hr : r < B) : Sl w m r v L := by
  have h' := h
  rcases h.2 with ⟨rfl, h0⟩ | ⟨g, cap, cur, rfl, hg, hh, hc1, hc2, hsz, htk⟩
  · exact .inl ⟨rfl, List.eq_nil_of_length_eq_zero h0⟩
  · refine .inr ⟨g, 0, cap, rfl, hc1, by simp [maxLen] at hc2; omega, by omega, by omega, lt_of_heap hh, fun j x hx => ?_⟩
    have hj := (List.getElem?_eq_some_iff.1 hx).1
    rw [Nat.zero_add, h'.cellAt j (by omega)]
    simp [vals, hx]
/-- as Same reads it -/
theorem Sl.nd {w : World} {m r : Nat} {v : Value} {L : List Nat} (h : Sl w m r v L) : ∃ (A : Option Addr) (k : Nat), v = .slice A L.length k ∧ L.length ≤ k ∧ k ≤ 9223372036854775807 ∧ Nd w m A (ints L) := by
  rcases h with ⟨rfl, rfl⟩ | ⟨b, o, c, h1, h2, h3, h4, h5, h6, h7⟩
  · exact ⟨none, 0, rfl, by simp, by omega, fun h => by simp [ints] at h⟩
  · refine ⟨_, c, h1, h2, h3, fun _ => ⟨b, o, rfl, h4, fun j hj => ?_⟩⟩
    rw [ints_len] at hj
    have hx : L[j]? = some L[j] := List.getElem?_eq_getElem hj
    rw [h7 j _ hx, ints_nth L j _ hx]

/-- The document's rows: their struct lies in block q, the rows' slices in block r; m: the block of the other lists' links, into which no row leads. -/
def Rf (w : World) (q r m N H : Nat) (R : Nat → List Nat) : Prop :=
  (∃ k : Nat, w.heap[q]? = some (.cells #[.int .i64 (N : Int), .slice (some ⟨r, 0, none⟩) H k] 57 (0, 0)) ∧ H ≤ k ∧ k ≤ 9223372036854775807) ∧
  ∃ V : Nat → Value, w.rowIs r 31 H V ∧ ∀ h, h < H → Sl w m r (V h) (R h)

theorem Rf.ltq {w : World} {q r m N H : Nat} {R : Nat → List Nat} (h : Rf w q r m N H R) : q < w.heap.size := by obtain ⟨⟨k, hk, _⟩, _⟩ := h; exact lt_of_heap hk
theorem Rf.ltr {w : World} {q r m N H : Nat} {R : Nat → List Nat} (h : Rf w q r m N H R) : r < w.heap.size := by obtain ⟨_, V, hV, _⟩ := h; exact hV.lt
theorem Rf.ne {w : World} {q r m N H : Nat} {R : Nat → List Nat} (h : Rf w q r m N H R) : q ≠ r := by
  rintro rfl
  obtain ⟨⟨k, hk, _⟩, V, ⟨cs, hc, _⟩, _⟩ := h
  rw [hk] at hc; injection hc with hc; injection hc with _ ht; cases ht
theorem Rf.cells {w : World} {q r m N H : Nat} {R : Nat → List Nat} (h : Rf w q r m N H R) :
    ∃ k : Nat, w.cell? ⟨q, 0, none⟩ = some (.int .i64 (N : Int)) ∧ w.cell? ⟨q, 1, none⟩ = some (.slice (some ⟨r, 0, none⟩) H k) ∧ H ≤ k ∧ k ≤ 9223372036854775807 := by
  obtain ⟨⟨k, hk, a⟩, _⟩ := h
  exact ⟨k, by rw [cell_of_row w q 0 _ 57 (0, 0) hk]; rfl, by rw [cell_of_row w q 1 _ 57 (0, 0) hk]; rfl, a⟩
theorem Rf.row {w : World} {q r m N H : Nat} {R : Nat → List Nat} (h : Rf w q r m N H R) {i : Nat} (hi : i < H) : ∃ v, w.cell? ⟨r, i, none⟩ = some v ∧ Sl w m r v (R i) := by
  obtain ⟨_, V, hV, hs⟩ := h
  exact ⟨V i, hV.cell hi, hs i hi⟩
/-- blocks q and r stand, and the rows' blocks -/
theorem Rf.keep {w w' : World} {q r m N H : Nat} {R : Nat → List Nat} (h : Rf w q r m N H R) (hs : w.heap.size ≤ w'.heap.size) (k : ∀ i, i < w.heap.size → i ≠ m → w'.heap[i]? = w.heap[i]?) (hq : q ≠ m) (hr : r ≠ m) : Rf w' q r m N H R := by
  have lq := h.ltq; have lr := h.ltr
  obtain ⟨⟨c, hc, a⟩, V, hV, hS⟩ := h
  exact ⟨⟨c, (k q lq hq).trans hc, a⟩, V, hV.of_block (k r lr hr), fun i hi => (hS i hi).keep hs fun j hj h1 _ => k j hj h1⟩
theorem Rf.only {w w' : World} {q r m N H : Nat} {R : Nat → List Nat} (h : Rf w q r m N H R) (k : Only m m w w') (hq : q ≠ m) (hr : r ≠ m) : Rf w' q r m N H R :=
  h.keep k.size (fun i hi h1 => k.block i hi h1 h1) hq hr
theorem Rf.below {w w' : World} {q r m N H : Nat} {R : Nat → List Nat} (h : Rf w q r m N H R) (k : Below w.heap.size w w') : Rf w' q r m N H R := by
  have lq := h.ltq; have lr := h.ltr
  obtain ⟨⟨c, hc, a⟩, V, hV, hS⟩ := h
  exact ⟨⟨c, (k.block q lq).trans hc, a⟩, V, hV.of_block (k.block r lr), fun i hi => (hS i hi).below k⟩
theorem Rf.drewN {w : World} {q r m N H : Nat} {R : Nat → List Nat} (h : Rf w q r m N H R) (n : Nat) : Rf (w.drewN n) q r m N H R := h
theorem Rf.alloc {w : World} {q r m N H : Nat} {R : Nat → List Nat} (h : Rf w q r m N H R) (o : Obj) : Rf (w.alloc o) q r m N H R := h.below ((Below.refl _ _).alloc (Nat.le_refl _) _)
theorem Rf.congr {w : World} {q r m N H : Nat} {R R' : Nat → List Nat} (h : Rf w q r m N H R) (e : ∀ k, k < H → R' k = R k) : Rf w q r m N H R' := by
  obtain ⟨a, V, hV, hS⟩ := h
  exact ⟨a, V, hV, fun i hi => by rw [e i hi]; exact hS i hi⟩
/-- one row turned -/
theorem Rf.set {w : World} {q r m N H : Nat} {R : Nat → List Nat} (h : Rf w q r m N H R) (i : Nat) (v : Value) (L : List Nat) (hv : Sl w m r v L) : Rf (w.setCell ⟨r, i, none⟩ v) q r m N H (setR R i L) := by
  have hne := h.ne
  obtain ⟨⟨c, hc, a⟩, V, hV, hS⟩ := h
  refine ⟨⟨c, (Below.heap_setCell w ⟨r, i, none⟩ v q hne).trans hc, a⟩, _, hV.set i v, fun j hj => ?_⟩
  have hk : ∀ k, k < w.heap.size → k ≠ m → k ≠ r → (w.setCell ⟨r, i, none⟩ v).heap[k]? = w.heap[k]? := fun k _ _ h2 => Below.heap_setCell w ⟨r, i, none⟩ v k h2
  have hz : w.heap.size ≤ (w.setCell ⟨r, i, none⟩ v).heap.size := by simp [World.setCell]
  by_cases e : j = i
  · subst e; rw [setR_same]; simp only [if_true]; exact hv.keep hz hk
  · rw [setR_ne _ _ _ _ e]; simp only [if_neg e]; exact (hS j hj).keep hz hk

theorem info31 : (Try.prog.info? 31).map (fun i => (i.zero, i.size, i.bytes)) = some (some (.slice none 0 0), 1, 24) := by kernel_rfl

def MadeR (m N H : Nat) (w : World) (e : Ending) (w' : World) : Prop :=
  ∃ q r : Nat, w.heap.size ≤ q ∧ w.heap.size ≤ r ∧ e = .returned (.tuple #[.pointer (some ⟨q, 0, none⟩), .int .i64 0]) ∧ Rf w' q r m N H (fun _ => []) ∧ Below w.heap.size w w'

set_option maxHeartbeats 800000 in
theorem rnew_ok (m N H : Nat) (hN0 : 1 ≤ N) (hN : N ≤ 1024) (hH0 : 1 ≤ H) (hH : H ≤ 64) (w : World) : Calls Try.prog 11 #[.int .i64 (N : Int), .int .i64 (H : Int)] w (MadeR m N H w) := by
  have t1 : decide ((N : Int) < 1) = false := by simp; omega
  have t2 : decide ((1024 : Int) < (N : Int)) = false := by simp; omega
  have t3 : decide ((H : Int) < 1) = false := by simp; omega
  have t4 : decide ((64 : Int) < (H : Int)) = false := by simp; omega
  have hmk := run_make_row' (P := Try.prog) 55 31 (.slice none 0 0) 24 Try.underlying55 info31 rfl .i64 .i64 H (by omega) (by omega) w
  go_enter Try.func11, Try.ntmps11
  go_wp2
  go_ret2
  refine ⟨w.heap.size + 1, w.heap.size, by omega, by omega, rfl, ⟨⟨H, heap_alloc2_new w _ _, by omega, by omega⟩, fun _ => .slice none 0 0, ?_, fun h _ => .inl ⟨rfl, rfl⟩⟩, ((Below.refl _ _).alloc (Nat.le_refl _) _).alloc (by simp) _⟩
  exact (World.rowIs_made w (.slice none 0 0) H 31).alloc _

set_option maxHeartbeats 800000 in
theorem rnew_bad (a b : Int) (h : ¬ (1 ≤ a ∧ a ≤ 1024 ∧ 1 ≤ b ∧ b ≤ 64)) (w : World) : Calls Try.prog 11 #[.int .i64 a, .int .i64 b] w fun e w' => e = .returned (.tuple #[.pointer none, .int .i64 (-17)]) ∧ w = w' := by
  by_cases h1 : a < 1
  · go_enter Try.func11, Try.ntmps11
    go_wp2
    go_ret2
    exact ⟨rfl, rfl⟩
  have t1 : decide (a < 1) = false := by simpa using h1
  by_cases h2 : 1024 < a
  · go_enter Try.func11, Try.ntmps11
    go_wp2
    go_ret2
    exact ⟨rfl, rfl⟩
  have t2 : decide (1024 < a) = false := by simpa using h2
  by_cases h3 : b < 1
  · go_enter Try.func11, Try.ntmps11
    go_wp2
    go_ret2
    exact ⟨rfl, rfl⟩
  have t3 : decide (b < 1) = false := by simpa using h3
  have h4 : 64 < b := by omega
  clear h h1 h2 h3
  go_enter Try.func11, Try.ntmps11
  go_wp2
  go_ret2
  exact ⟨rfl, rfl⟩

set_option maxHeartbeats 400000 in
theorem rnode_any (q r m N H : Nat) (x : Int) (R : Nat → List Nat) (w : World) (hl : Rf w q r m N H R) (b : Bool) (hb : decide (0 ≤ x ∧ x < N) = b) :
    Calls Try.prog 31 #[.pointer (some ⟨q, 0, none⟩), .int .i64 x] w fun e w' => e = .returned (.bool b) ∧ w = w' := by
  obtain ⟨k, h0, h1, _, _⟩ := hl.cells
  subst hb
  by_cases c1 : 0 ≤ x
  · have e : decide (0 ≤ x ∧ x < (N : Int)) = decide (x < (N : Int)) := by simp [c1]
    rw [e]
    go_enter Try.func31, Try.ntmps31
    go_wp2
    go_ret
    exact ⟨rfl, rfl⟩
  · have e : decide (0 ≤ x ∧ x < (N : Int)) = false := by simp [c1]
    have t1 : decide (0 ≤ x) = false := by simpa using c1
    rw [e]
    go_enter Try.func31, Try.ntmps31
    go_wp2
    go_ret
    exact ⟨rfl, rfl⟩

set_option maxHeartbeats 400000 in
theorem rhead_any (q r m N H : Nat) (x : Int) (R : Nat → List Nat) (w : World) (hl : Rf w q r m N H R) (b : Bool) (hb : decide (0 ≤ x ∧ x < H) = b) :
    Calls Try.prog 30 #[.pointer (some ⟨q, 0, none⟩), .int .i64 x] w fun e w' => e = .returned (.bool b) ∧ w = w' := by
  obtain ⟨k, h0, h1, _, _⟩ := hl.cells
  subst hb
  by_cases c1 : 0 ≤ x
  · have e : decide (0 ≤ x ∧ x < (H : Int)) = decide (x < (H : Int)) := by simp [c1]
    rw [e]
    go_enter Try.func30, Try.ntmps30
    go_wp2
    go_ret
    exact ⟨rfl, rfl⟩
  · have e : decide (0 ≤ x ∧ x < (H : Int)) = false := by simp [c1]
    have t1 : decide (0 ≤ x) = false := by simpa using c1
    rw [e]
    go_enter Try.func30, Try.ntmps30
    go_wp2
    go_ret
    exact ⟨rfl, rfl⟩

/-- what Of tells: the row and the place, or -1 -/
def OfAt (H : Nat) (R : Nat → List Nat) (x : Int) (a b : Int) : Prop :=
  (∃ h i : Nat, h < H ∧ (∃ y : Nat, (R h)[i]? = some y ∧ (y : Int) = x) ∧ (∀ k, k < h → x ∉ ints (R k)) ∧ (∀ j, j < i → ∀ y : Nat, (R h)[j]? = some y → (y : Int) ≠ x) ∧ a = h ∧ b = i) ∨
  ((∀ k, k < H → x ∉ ints (R k)) ∧ a = -1 ∧ b = -1)

set_option maxHeartbeats 1600000 in
theorem rof_any (q r m N H : Nat) (x : Int) (R : Nat → List Nat) (w : World) (hl : Rf w q r m N H R) (_hH : H ≤ 64) (hlen : ∀ h, h < H → (R h).length ≤ 1024) (a b : Int) (ho : OfAt H R x a b) :
    Calls Try.prog 32 #[.pointer (some ⟨q, 0, none⟩), .int .i64 x] w fun e w' => e = .returned (.tuple #[.int .i64 a, .int .i64 b]) ∧ w = w' := by
  obtain ⟨k, h0, h1, hk1, hk2⟩ := hl.cells
  have HO := Lib.hid ho
  have HL := Lib.hid hlen
  clear ho hlen
  go_enter Try.func32, Try.ntmps32
  go_wp2
  go_loop [6] (fun h => ∃ t : Nat, t ≤ H ∧ h = .int .i64 (t : Int) ∧ ∀ k, k < t → x ∉ ints (R k)) (fun h => H - (intOf h).toNat)
  case atStart => exact ⟨0, Nat.zero_le _, rfl, fun k hk => absurd hk (by omega)⟩
  case round =>
    obtain ⟨t, ht, rfl, hno⟩ := hrel
    have HN := Lib.hid hno
    clear hno
    by_cases hlt : t < H
    · obtain ⟨v, hv, hs⟩ := hl.row hlt
      have hl3 := HL.out t hlt
      have it : (t : Int) < (H : Int) := by omega
      go_wp2
      go_loop [7] (fun i => ∃ s : Nat, s ≤ (R t).length ∧ i = .int .i64 (s : Int) ∧ ∀ j, j < s → ∀ y : Nat, (R t)[j]? = some y → (y : Int) ≠ x) (fun i => (R t).length - (intOf i).toNat)
      case atStart => exact ⟨0, Nat.zero_le _, rfl, fun k hk => absurd hk (by omega)⟩
      case round =>
        obtain ⟨s, hs2, rfl, hno2⟩ := hrel
        have HN2 := Lib.hid hno2
        clear hno2
        by_cases hlt2 : s < (R t).length
        · obtain ⟨y, hy⟩ : ∃ y, (R t)[s]? = some y := ⟨_, List.getElem?_eq_getElem hlt2⟩
          rcases hs with ⟨_, e⟩ | ⟨b1, o1, c1, rfl, hc1, hc2, _, _, _, hcl⟩
          · rw [e] at hlt2; simp at hlt2
          have hc := hcl s y hy
          have HY := Lib.hid hy
          clear hcl hy
          by_cases hxy : (y : Int) = x
          · subst hxy
            go_wp2
            go_ret2
            refine ⟨?_, rfl⟩
            rcases HO.out with ⟨h, i, hh, ⟨y', hy1, hy2⟩, hb1, hb2, rfl, rfl⟩ | ⟨hb1, _, _⟩
            · have e1 : h = t := by
                rcases Nat.lt_trichotomy h t with g | g | g
                · exact absurd (by rw [← hy2]; exact List.mem_map.2 ⟨y', List.mem_of_getElem? hy1, rfl⟩) (HN.out h g)
                · exact g
                · exact absurd (List.mem_map.2 ⟨y, List.mem_of_getElem? HY.out, rfl⟩) (hb1 t g)
              subst e1
              have e2 : i = s := by
                rcases Nat.lt_trichotomy i s with g | g | g
                · exact absurd hy2 (HN2.out i g y' hy1)
                · exact g
                · exact absurd rfl (hb2 s g y HY.out)
              subst e2
              rfl
            · exact absurd (List.mem_map.2 ⟨y, List.mem_of_getElem? HY.out, rfl⟩) (hb1 t hlt)
          · have f1 : ((y : Int) == x) = false := by simpa using hxy
            go_wp2
            go_round
            case rel =>
              refine ⟨s + 1, by omega, by go_num, fun j hj y' hy' => ?_⟩
              by_cases e : j = s
              · subst e; rw [HY.out] at hy'; injection hy' with hy'; rw [← hy']; exact hxy
              · exact HN2.out j (by omega) y' hy'
            case measure => simp [intOf]; omega
        · obtain ⟨A, kk, rfl, hc1, hc2, _⟩ := hs.nd
          go_wp2
          go_round
          case rel =>
            refine ⟨t + 1, by omega, by go_num, fun k hk hm => ?_⟩
            by_cases e : k = t
            · subst e
              obtain ⟨y, hy, e2⟩ := List.mem_map.1 hm
              obtain ⟨j, hj, e3⟩ := List.getElem_of_mem hy
              exact HN2.out j (by omega) y (by rw [List.getElem?_eq_getElem hj, e3]) e2
            · exact HN.out k (by omega) hm
          case measure => simp [intOf]; omega
    · go_wp2
      go_ret2
      refine ⟨?_, rfl⟩
      rcases HO.out with ⟨h, i, hh, ⟨y', hy1, hy2⟩, _⟩ | ⟨_, rfl, rfl⟩
      · exact absurd (by rw [← hy2]; exact List.mem_map.2 ⟨y', List.mem_of_getElem? hy1, rfl⟩) (HN.out h (by omega))
      · rfl
end Go.Proofs.Ytmfjhckacmdijaa
