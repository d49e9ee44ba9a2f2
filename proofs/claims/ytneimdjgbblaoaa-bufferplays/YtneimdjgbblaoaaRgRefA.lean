/- The document's own ring (detentref6): its memory, appending texts; New, Free, Fits. -/
import Derived.Test.YtneimdjgbblaoaaRgConK
import Derived.Laws.AppendOwnNone
import Derived.Deep.RegionLaw
import Derived.Deep.RegionHeld3
namespace Go.Proofs.Ytneimdjgbblaoaa.R
open Go.RowKit
set_option maxRecDepth 100000

/-- a message as a text -/
def str (x : List Int) : ByteArray := strOf x.length (nth x)
theorem str_size (x : List Int) : (str x).size = x.length := by unfold str strOf ByteArray.size; simp
theorem str_mkm (n : Nat) (q : Nat → Int) : str (mkm n q) = strOf n q := by
  unfold str; rw [mkm_len]; exact strOf_congr (fun i hi => nth_mkm n q i hi)
/-- messages as cells -/
def vals (L : List (List Int)) : List Value := L.map fun x => .string (str x)
theorem vals_len (L : List (List Int)) : (vals L).length = L.length := by simp [vals]
theorem vals_append (L M : List (List Int)) : vals (L ++ M) = vals L ++ vals M := by simp [vals]

/-- a slice of texts -/
def Sl (w : World) (v : Value) (L : List (List Int)) : Prop :=
  (v = .slice none 0 0 ∧ L = []) ∨ ∃ (g o k : Nat) (cs : Array Value), v = .slice (some ⟨g, o, none⟩) L.length k ∧ L.length ≤ k ∧ k ≤ 9223372036854775807 ∧ w.heap[g]? = some (.cells cs 9 (0, 0)) ∧ ∀ j u, (vals L)[j]? = some u → cs[o + j]? = some u
theorem Sl.keep {w w' : World} {v : Value} {L : List (List Int)} (h : Sl w v L) (hk : ∀ (g : Nat) (cs : Array Value), w.heap[g]? = some (.cells cs 9 (0, 0)) → w'.heap[g]? = w.heap[g]?) : Sl w' v L := by
  rcases h with h | ⟨g, o, k, cs, h1, h2, h3, h4, h5⟩
  · exact .inl h
  · exact .inr ⟨g, o, k, cs, h1, h2, h3, (hk g cs h4).trans h4, h5⟩
theorem Sl.below {w w' : World} {v : Value} {L : List (List Int)} (h : Sl w v L) (k : Below w.heap.size w w') : Sl w' v L :=
  h.keep fun g _ hg => k.block g (lt_of_heap hg)

/-- the document's ring in block q -/
def Rf (w : World) (q N : Nat) (L : List (List Int)) : Prop :=
  ∃ (X : Option Addr) (k : Nat), w.heap[q]? = some (.cells #[.int .i64 (N : Int), .slice X L.length k] 73 (0, 0)) ∧ Sl w (.slice X L.length k) L ∧ L.length ≤ k ∧ k ≤ 9223372036854775807

theorem Rf.lt {w : World} {q N : Nat} {L : List (List Int)} (h : Rf w q N L) : q < w.heap.size := by obtain ⟨X, k, h, _⟩ := h; exact lt_of_heap h
theorem Rf.below {w w' : World} {q N : Nat} {L : List (List Int)} (h : Rf w q N L) (k : Below w.heap.size w w') : Rf w' q N L := by
  obtain ⟨X, c, h1, h2, h3⟩ := h
  exact ⟨X, c, (k.block q (lt_of_heap h1)).trans h1, h2.below k, h3⟩
theorem Rf.type {w : World} {q N : Nat} {L : List (List Int)} (h : Rf w q N L) {e : TypeId} (he : e ≠ 73) : ∀ cs fr, w.heap[q]? ≠ some (.cells cs e fr) := by
  obtain ⟨X, c, h1, _⟩ := h
  intro cs2 fr h2
  rw [h1] at h2; injection h2 with h2; injection h2 with _ h3; exact he h3.symm
theorem Rf.drewN {w : World} {q N : Nat} {L : List (List Int)} (h : Rf w q N L) (n : Nat) : Rf (w.drewN n) q N L := h
theorem Rg.typep {w : World} {p m N : Nat} {c : Int} {L : List (List Int)} (h : Rg w p m N c L) {e : TypeId} (he : e ≠ 113) : ∀ cs fr, w.heap[p]? ≠ some (.cells cs e fr) := by
  obtain ⟨F, f, ⟨_, ⟨k, hk, _⟩, _⟩, _⟩ := h
  intro cs2 fr h2
  rw [hk] at h2; injection h2 with h2; injection h2 with _ h3; exact he h3.symm
theorem Rg.typem {w : World} {p m N : Nat} {c : Int} {L : List (List Int)} (h : Rg w p m N c L) {e : TypeId} (he : e ≠ 5) : ∀ cs fr, w.heap[m]? ≠ some (.cells cs e fr) := by
  obtain ⟨F, f, ⟨_, _, cs, hk, _⟩, _⟩ := h
  intro cs2 fr h2
  rw [hk] at h2; injection h2 with h2; injection h2 with _ h3; exact he h3.symm
/-- the document's ring under a turn of the program's, and the other way -/
theorem Rf.only {w w' : World} {q N N' p m : Nat} {L M : List (List Int)} {c : Int} (h : Rf w q N L) (hg : Rg w p m N' c M) (k : Only p m w w') : Rf w' q N L := by
  obtain ⟨X, d, h1, h2, h3⟩ := h
  refine ⟨X, d, (k.block q (lt_of_heap h1) ?_ ?_).trans h1, h2.keep fun g cs hh => k.block g (lt_of_heap hh) ?_ ?_, h3⟩
  · rintro rfl; exact hg.typep (e := 73) (by decide) _ _ h1
  · rintro rfl; exact hg.typem (e := 73) (by decide) _ _ h1
  · rintro rfl; exact hg.typep (e := 9) (by decide) _ _ hh
  · rintro rfl; exact hg.typem (e := 9) (by decide) _ _ hh
theorem Rg.ronly {w w' : World} {q N N' p m : Nat} {L M : List (List Int)} {c : Int} (hg : Rg w p m N' c M) (h : Rf w q N L) (k : Only q q w w') : Rg w' p m N' c M := by
  have h1 : p ≠ q := by rintro rfl; obtain ⟨X, d, h1, _⟩ := h; exact hg.typep (e := 73) (by decide) _ _ h1
  have h2 : m ≠ q := by rintro rfl; obtain ⟨X, d, h1, _⟩ := h; exact hg.typem (e := 73) (by decide) _ _ h1
  exact hg.only k h1 h1 h2 h2
theorem Rf.open {w : World} {q N : Nat} {L : List (List Int)} (h : Rf w q N L) : ∃ (X : Option Addr) (k : Nat), w.cell? ⟨q, 0, none⟩ = some (.int .i64 (N : Int)) ∧ w.cell? ⟨q, 1, none⟩ = some (.slice X L.length k) ∧ Sl w (.slice X L.length k) L ∧ L.length ≤ k ∧ k ≤ 9223372036854775807 ∧ w.frozen? ⟨q, 1, none⟩ = false := by
  obtain ⟨X, c, h1, h2, h3, h4⟩ := h
  exact ⟨X, c, by rw [cell_of_row w q 0 _ 73 (0, 0) h1]; rfl, by rw [cell_of_row w q 1 _ 73 (0, 0) h1]; rfl, h2, h3, h4, frozen_of_row w q 1 _ 73 h1⟩
/-- another slice is laid into it -/
theorem Rf.set {w : World} {q N : Nat} {L L' : List (List Int)} (h : Rf w q N L) (X : Option Addr) (n k : Nat) (hn : L'.length = n) (hs : Sl w (.slice X n k) L') (h1 : n ≤ k) (h2 : k ≤ 9223372036854775807) : Rf (w.setCell ⟨q, 1, none⟩ (.slice X n k)) q N L' := by
  subst hn
  have ht := h.type (e := 9) (by decide)
  obtain ⟨X0, c, h3, _⟩ := h
  exact ⟨X, k, heap_setCell_same w q 1 _ 73 _ h3, hs.keep fun g cs hg => Below.heap_setCell w ⟨q, 1, none⟩ _ g (by rintro rfl; exact ht _ _ hg), h1, h2⟩

theorem info9' : (Try.prog.info? 9).map (fun i => (i.zero, i.size, i.bytes)) = some (some (.string ByteArray.empty), 1, 16) := by kernel_rfl

theorem Sl.own {w : World} {B n : Nat} {v : Value} {L : List (List Int)} (hn : L.length = n) (h : w.ownsRow B 9 1 v n (vals L)) : Sl w v L := by
  subst hn
  rcases h.2 with ⟨rfl, h0⟩ | ⟨g, cap, cur, rfl, hg, hh, hc1, hc2, hsz, htk⟩
  · exact .inl ⟨rfl, List.eq_nil_of_length_eq_zero h0⟩
  · refine .inr ⟨g, 0, cap, cur, rfl, hc1, by simp [maxLen] at hc2; omega, hh, fun j u hu => ?_⟩
    have hj : j < L.length := by have := (List.getElem?_eq_some_iff.1 hu).1; rwa [vals_len] at this
    rw [← hu, ← htk, List.getElem?_take, if_pos (by omega), Array.getElem?_toList, Nat.zero_add]

/-- a source of append: nil, or cells that are read -/
def Sr (w : World) (X : Option Addr) (k : Nat) (L : List (List Int)) : Prop :=
  (X = none ∧ L = [] ∧ k = 0) ∨ ∃ b o : Nat, X = some ⟨b, o, none⟩ ∧ b < w.heap.size ∧ ∀ j u, (vals L)[j]? = some u → w.cell? ⟨b, o + j, none⟩ = some u
theorem Sr.below {w w' : World} {X : Option Addr} {k : Nat} {L : List (List Int)} (h : Sr w X k L) (hb : Below w.heap.size w w') : Sr w' X k L := by
  rcases h with h | ⟨b, o, h1, h2, h3⟩
  · exact .inl h
  · exact .inr ⟨b, o, h1, Nat.lt_of_lt_of_le h2 hb.size, fun j x hx => by rw [hb.cell (p := ⟨b, o + j, none⟩) h2]; exact h3 j x hx⟩
theorem Sl.src {w : World} {X : Option Addr} {n k : Nat} {L : List (List Int)} (h : Sl w (.slice X n k) L) : Sr w X k L := by
  rcases h with ⟨h, rfl⟩ | ⟨b, o, c, cs, h1, _, _, h4, h5⟩
  · injection h with h1 _ h3; exact .inl ⟨h1, rfl, h3⟩
  · injection h1 with h1; subst h1
    exact .inr ⟨b, o, rfl, lt_of_heap h4, fun j u hu => by rw [cell_of_row w b _ cs 9 (0, 0) h4]; exact h5 j u hu⟩
theorem grownBy_refl (w : World) (row : Option Nat) : w.grownBy w row := ⟨rfl, rfl, rfl, Nat.le_refl _, fun _ _ _ => rfl⟩
theorem own_form9 {w : World} {B n : Nat} {v : Value} {xs : List Value} (h : w.ownsRow B 9 1 v n xs) : ∃ X k, v = .slice X n k ∧ n ≤ k ∧ k ≤ 9223372036854775807 := by
  rcases h.2 with ⟨rfl, rfl⟩ | ⟨g, cap, cur, rfl, _, _, h1, h2, _⟩
  · exact ⟨none, 0, rfl, Nat.le_refl _, by omega⟩
  · exact ⟨_, cap, rfl, h1, by simp [maxLen] at h2; omega⟩

theorem wp_append_row {w : World} {o : Oper} {a : Act} {K : Act → World → Prop} {Q : Exit → Act → World → Prop} (s x : Operand)
    (ho : o.op = .call { callee := .builtin .append, args := #[s, x], argTypes := #[71, 71] })
    (base : Nat) (v : Value) (L1 L2 : List (List Int)) (n1 : Nat) (hn1 : L1.length = n1) (hs : a.eval s = v) (hown : w.ownsRow base 9 1 v n1 (vals L1)) (X : Option Addr) (n k : Nat) (hx : a.eval x = .slice X n k) (hn : L2.length = n)
    (hsrc : Sr w X k L2) (h63 : n1 + n ≤ 100000) (hbase : base ≤ w.heap.size) (c : Nat) (hcc : n1 + n = c)
    (h : ∀ X' k' w', w'.ownsRow base 9 1 (.slice X' c k') c (vals (L1 ++ L2)) → w.grownBy w' v.ownBlock → K (a.put o.dst (.slice X' c k')) w') : o.wp Try.prog a w K Q := by
  obtain ⟨i0, hi, hz0, hz1, hz2⟩ := info_parts info9'
  subst hn hn1 hcc
  rcases hsrc with ⟨rfl, rfl, rfl⟩ | ⟨b, off, rfl, _, hc⟩
  · have hrun := run_append_owned_none (P := Try.prog) (w := w) base 71 o.type 9 i0 1 Try.underlying71 hi v L1.length (vals L1) hown
    obtain ⟨X', k', rfl, _⟩ := own_form9 hown
    unfold Oper.wp
    simp only [List.length_nil] at hx
    simp [execOp, ho, resolve, invoke, builtin, hs, hx, hrun, Result.andThen]
    exact h X' k' w (by simpa using hown) (grownBy_refl _ _)
  · refine wp_append_own _ s x 71 ho base 9 i0 (.string ByteArray.empty) 1 16 Try.underlying71 hi hz0 hz1 hz2 rfl (by decide) v L1.length (vals L1) hs hown ⟨b, off, none⟩ L2.length k (vals L2) hx (by rw [vals_len, Nat.mul_one]) ?_ ?_ (by unfold maxLen; omega) (by omega) hbase ?_
    · intro j u hu
      rw [add_at]
      exact hc j u hu
    · intro u hu
      unfold vals at hu
      obtain ⟨y, _, rfl⟩ := List.mem_map.1 hu
      rfl
    · intro v' w' h1 h2 _
      have h3 : w'.ownsRow base 9 1 v' (L1.length + L2.length) (vals (L1 ++ L2)) := by rw [vals_append]; exact h1
      obtain ⟨X', k', rfl, _⟩ := own_form9 h3
      exact h X' k' w' h3 h2

theorem wpList_append_row {w : World} {ops : Array Oper} {rest : List Oper} {o : Oper} {a : Act} {Q : Exit → Act → World → Prop} (hgd : o.guard = none) (s x : Operand)
    (ho : o.op = .call { callee := .builtin .append, args := #[s, x], argTypes := #[71, 71] })
    (base : Nat) (v : Value) (L1 L2 : List (List Int)) (n1 : Nat) (hn1 : L1.length = n1) (hs : a.eval s = v) (hown : w.ownsRow base 9 1 v n1 (vals L1)) (X : Option Addr) (n k : Nat) (hx : a.eval x = .slice X n k) (hn : L2.length = n)
    (hsrc : Sr w X k L2) (h63 : n1 + n ≤ 100000) (hbase : base ≤ w.heap.size) (c : Nat) (hcc : n1 + n = c)
    (h : ∀ X' k' w', w'.ownsRow base 9 1 (.slice X' c k') c (vals (L1 ++ L2)) → w.grownBy w' v.ownBlock → wpList Try.prog ops Q rest (a.put o.dst (.slice X' c k')) w') : wpList Try.prog ops Q (o :: rest) a w :=
  wpList_plain hgd fun _ hK => wp_append_row s x ho base v L1 L2 n1 hn1 hs hown X n k hx hn hsrc h63 hbase c hcc fun X' k' w' h1 h2 => hK _ _ (h X' k' w' h1 h2)

theorem step_append_row {w : World} {ops : Array Oper} {o : Oper} {a : Act} {K : Act → World → Prop} {Q : Exit → Act → World → Prop} {E : Prop} (hgd : o.guard = none) (s x : Operand)
    (ho : o.op = .call { callee := .builtin .append, args := #[s, x], argTypes := #[71, 71] })
    (base : Nat) (v : Value) (L1 L2 : List (List Int)) (n1 : Nat) (hn1 : L1.length = n1) (hs : a.eval s = v) (hown : w.ownsRow base 9 1 v n1 (vals L1)) (X : Option Addr) (n k : Nat) (hx : a.eval x = .slice X n k) (hn : L2.length = n)
    (hsrc : Sr w X k L2) (h63 : n1 + n ≤ 100000) (hbase : base ≤ w.heap.size) (c : Nat) (hcc : n1 + n = c)
    (h : ∀ X' k' w', w'.ownsRow base 9 1 (.slice X' c k') c (vals (L1 ++ L2)) → w.grownBy w' v.ownBlock → K (a.put o.dst (.slice X' c k')) w') :
    if Region.wanted o (yielded ops a.tmps) = true then Oper.wp Try.prog o a w K Q else E := by
  have hw : Region.wanted o (yielded ops a.tmps) = true := by simp [Region.wanted, hgd]
  rw [if_pos hw]
  exact wp_append_row s x ho base v L1 L2 n1 hn1 hs hown X n k hx hn hsrc h63 hbase c hcc h

theorem sr_one (w : World) (x : List Int) : Sr (w.alloc (.cells #[.string (str x)] 9)) (some ⟨w.heap.size, 0, none⟩) 1 [x] := by
  refine .inr ⟨w.heap.size, 0, rfl, by simp, fun j y hy => ?_⟩
  rw [cell_of_row _ w.heap.size _ _ 9 (0, 0) (heap_alloc_new w _), Nat.zero_add]
  have e : vals [x] = [.string (str x)] := rfl
  rw [e] at hy
  simpa using hy

set_option maxHeartbeats 400000 in
theorem rnew_ok (N : Nat) (hN : N ≤ 65536) (h4 : N % 4 = 0) (w : World) : Calls Try.prog 34 #[.int .i64 (N : Int)] w fun e w' => e = .returned (.tuple #[.pointer (some ⟨w.heap.size, 0, none⟩), .int .i64 0]) ∧ Rf w' w.heap.size N [] ∧ Below w.heap.size w w' := by
  have t0 : decide ((N : Int) < 0) = false := by simp
  have t1 : decide ((65536 : Int) < (N : Int)) = false := by simp; omega
  have t2 : ((N : Int) % 4 != 0) = false := by simp; omega
  have t3 : ((N : Int) % 4 == 0) = true := by simp; omega
  clear h4
  go_enter Try.func34, Try.ntmps34
  go_wp2
  go_ret2
  exact ⟨rfl, ⟨none, 0, heap_alloc_new _ _, .inl ⟨rfl, rfl⟩, Nat.le_refl _, by omega⟩, (Below.refl _ _).alloc (Nat.le_refl _) _⟩

set_option maxHeartbeats 400000 in
theorem rnew_bad (z : Int) (hz : z < 0 ∨ 65536 < z ∨ z % 4 ≠ 0) (w : World) : Calls Try.prog 34 #[.int .i64 z] w fun e w' => e = .returned (.tuple #[.pointer none, .int .i64 (-17)]) ∧ w = w' := by
  by_cases c1 : z < 0
  · clear hz
    go_enter Try.func34, Try.ntmps34
    go_wp2
    go_ret2
    exact ⟨rfl, rfl⟩
  have k1 : decide (z < 0) = false := by simpa using c1
  by_cases c2 : 65536 < z
  · clear hz c1
    go_enter Try.func34, Try.ntmps34
    go_wp2
    go_ret2
    exact ⟨rfl, rfl⟩
  have k2 : decide (65536 < z) = false := by simpa using c2
  have c3 : z % 4 ≠ 0 := by omega
  have t1 : (z.tmod 4 != 0) = true := by simp; exact fun h => c3 ((tmod4 z).1 h)
  have t2 : (z.tmod 4 == 0) = false := by simp; exact fun h => c3 ((tmod4 z).1 h)
  have t3 : (z % 4 != 0) = true := by simpa using c3
  have t4 : (z % 4 == 0) = false := by simpa using c3
  clear hz c1 c2 c3
  go_enter Try.func34, Try.ntmps34
  go_wp2
  go_ret2
  exact ⟨rfl, rfl⟩

theorem tot_take (L : List (List Int)) (t : Nat) (x : List Int) (h : L[t]? = some x) : tot (L.take (t + 1)) = tot (L.take t) + occ x.length := by
  obtain ⟨hlt, e⟩ := List.getElem?_eq_some_iff.1 h
  rw [List.take_succ_eq_append_getElem hlt, tot_append, e]
theorem tot_take_le (L : List (List Int)) : ∀ t, tot (L.take t) ≤ tot L := by
  induction L with
  | nil => intro t; simp
  | cons y L ih =>
    intro t
    cases t with
    | zero => simp [tot]
    | succ t => simp only [List.take_succ_cons, tot]; have := ih t; omega

theorem sl_open {w : World} {X : Option Addr} {m k : Nat} {L : List (List Int)} (h : Sl w (.slice X m k) L) (h0 : 0 < L.length) : ∃ g o : Nat, X = some ⟨g, o, none⟩ ∧ ∀ (j : Nat) (x : List Int), L[j]? = some x → w.cell? ⟨g, o + j, none⟩ = some (.string (str x)) := by
  rcases h with ⟨_, h⟩ | ⟨g, o, k, cs, h1, h2, h3, h4, h5⟩
  · subst h; simp at h0
  · injection h1 with h1
    exact ⟨g, o, h1, fun j x hx => by rw [cell_of_row w g _ cs 9 (0, 0) h4]; exact h5 j _ (by unfold vals; rw [List.getElem?_map, hx]; rfl)⟩

set_option maxHeartbeats 800000 in
theorem rfree_any (q N : Nat) (L : List (List Int)) (w : World) (h : Rf w q N L) (hfit : tot L ≤ N) (hN : N ≤ 65536) (hm : ∀ x, x ∈ L → x.length ≤ 1024) :
    Calls Try.prog 28 #[.pointer (some ⟨q, 0, none⟩)] w fun e w' => e = .returned (.int .i64 ((N : Int) - (tot L : Int))) ∧ w = w' := by
  obtain ⟨X, k, h0, h1, hs, hk1, hk2, _⟩ := h.open
  obtain ⟨n, hlen⟩ : ∃ n, L.length = n := ⟨_, rfl⟩
  have HS := Lib.hid hs
  have HM := Lib.hid hm
  have hl := tot_len L
  rw [hlen] at h1 hk1 HS hl
  have HLN := Lib.hid hlen
  clear hlen hs hm h
  go_enter Try.func28, Try.ntmps28
  go_wp2
  go_loop [3, 4] (fun v i => ∃ t : Nat, t ≤ n ∧ i = .int .i64 (t : Int) ∧ v = .int .i64 ((N : Int) - (tot (L.take t) : Int))) (fun _ i => n - (intOf i).toNat)
  case atStart => exact ⟨0, Nat.zero_le _, rfl, by simp [tot]⟩
  case round =>
    obtain ⟨t, ht, rfl, rfl⟩ := hrel
    by_cases hlt : t < n
    · obtain ⟨x, hx⟩ : ∃ x, L[t]? = some x := ⟨_, List.getElem?_eq_getElem (by rw [HLN.out]; exact hlt)⟩
      obtain ⟨g, o, rfl, hc⟩ := sl_open HS.out (by rw [HLN.out]; omega)
      have hcx := hc t x hx
      have hsz := str_size x
      have hxl : x.length ≤ 1024 := HM.out x (List.mem_of_getElem? hx)
      have b1 := tot_take_le L t
      have b2 := tot_take_le L (t + 1)
      have HT := Lib.hid (tot_take L t x hx)
      have b3 := tot_take L t x hx
      clear hc hx
      generalize tot (List.take t L) = T at *
      generalize hT2 : tot (List.take (t + 1) L) = T' at *
      have HT2 := Lib.hid hT2
      clear hT2
      generalize str x = s at *
      generalize x.length = y at *
      subst hsz
      have ho := occ_lo s.size
      obtain ⟨oy, hoy⟩ : ∃ oy, occ s.size = oy := ⟨_, rfl⟩
      have HTK := Lib.hid (takes_any s.size (by omega) _ rfl w)
      rw [hoy] at HTK b3 ho
      clear hoy HT
      go_wp2_with fail
      refine HTK.out.mono ?_
      rintro e w' ⟨rfl, rfl⟩
      go_wp2
      go_round
      case rel => exact ⟨t + 1, by omega, by go_num, by rw [HT2.out]; congr 1; omega⟩
      case measure => simp [intOf] <;> omega
    · have e : L.take t = L := List.take_of_length_le (by rw [HLN.out]; omega)
      have HE := Lib.hid e
      clear e
      go_wp2
      go_ret
      exact ⟨ret_int (by rw [HE.out]), rfl⟩

set_option maxHeartbeats 800000 in
theorem rfits_any (q N : Nat) (L : List (List Int)) (w : World) (h : Rf w q N L) (hfit : tot L ≤ N) (hN : N ≤ 65536) (hm : ∀ x, x ∈ L → x.length ≤ 1024) (z : Int) (r : Bool) (hr : fits N (tot L) z = r) :
    Calls Try.prog 71 #[.pointer (some ⟨q, 0, none⟩), .int .i64 z] w fun e w' => e = .returned (.bool r) ∧ w = w' := by
  subst hr
  by_cases c1 : 0 ≤ z
  · by_cases c2 : z ≤ 1024
    · have HO := Lib.hid (takes_any z.toNat (by omega) z (by omega) w)
      have HF := Lib.hid (rfree_any q N L w h hfit hN hm)
      have HE := Lib.hid (show decide (((occ z.toNat : Nat) : Int) ≤ (N : Int) - (tot L : Int)) = fits N (tot L) z by unfold fits; rw [Bool.eq_iff_iff]; simp [c1, c2]; omega)
      clear h hfit hm
      generalize ((occ z.toNat : Nat) : Int) = y at *
      generalize (N : Int) - (tot L : Int) = x at *
      go_enter Try.func71, Try.ntmps71
      go_wp2_with fail
      refine HO.out.mono ?_
      rintro e w' ⟨rfl, rfl⟩
      go_wp2_with fail
      refine HF.out.mono ?_
      rintro e w' ⟨rfl, rfl⟩
      go_wp2
      go_ret
      exact ⟨ret_bool HE.out, rfl⟩
    · have HE := Lib.hid (show false = fits N (tot L) z by unfold fits; simp [c2])
      have t : decide (z ≤ 1024) = false := by simpa using c2
      clear h c2 hm
      go_enter Try.func71, Try.ntmps71
      go_wp2
      go_ret
      exact ⟨ret_bool HE.out, rfl⟩
  · have HE := Lib.hid (show false = fits N (tot L) z by unfold fits; simp [c1])
    have t : decide (0 ≤ z) = false := by simpa using c1
    clear h c1 hm
    go_enter Try.func71, Try.ntmps71
    go_wp2
    go_ret
    exact ⟨ret_bool HE.out, rfl⟩
end Go.Proofs.Ytneimdjgbblaoaa.R
