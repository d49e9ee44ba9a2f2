/- Contracts of package ready: levels' add and remove, enter, Pri, Add, Remove, Change, Rotate, First. -/
import Derived.Test.YtfilggkdhcjpbaaDoorRdA
namespace Go.Proofs.YtfilggkdhcjpbaaDoor
open Go.RowKit
variable {X : Nat → Int} {B : Nat → Bool}

theorem below_drewN (p : Nat) (w : World) (n : Nat) : Below p w (w.drewN n) := ⟨rfl, rfl, rfl, Nat.le_refl _, fun _ _ => rfl⟩
/-- a literal's cells are read -/
theorem src_lit (w : World) (p : Nat) (hp : p < w.heap.size) (L : List Int) : Src p (w.alloc (.cells (L.map (Value.int .i64)).toArray 3)) (some ⟨w.heap.size, 0, none⟩) L := fun _ => by
  refine ⟨w.heap.size, 0, rfl, by simp, by omega, fun j x hx => ?_⟩
  rw [Nat.zero_add, cell_of_row _ w.heap.size j _ 3 (0, 0) (heap_alloc_new w _)]
  simp [hx]
theorem set_lit (p : Nat) (L : List Int) (n : Nat) (hn : L.length = n) (hz : n ≤ 100) (w : World) (hm : Mp w p X B) (C : Array Value) (hC : C = (L.map (Value.int .i64)).toArray) :
    Calls Tryd.prog 45 #[.pointer (some ⟨p, 0, none⟩), .slice (some ⟨w.heap.size, 0, none⟩) n n] (w.alloc (.cells C 3)) (Done p X (upd B L true) w) := by
  subst hC
  exact (set_any p B _ L n n _ (hm.alloc _) (src_lit w p hm.lt L) hn (by omega)).mono fun e w' ⟨h1, h2, h3⟩ => ⟨h1, h2, ((Only.refl p w).alloc _).trans h3⟩
theorem clear_lit (p : Nat) (L : List Int) (n : Nat) (hn : L.length = n) (hz : n ≤ 100) (w : World) (hm : Mp w p X B) (C : Array Value) (hC : C = (L.map (Value.int .i64)).toArray) :
    Calls Tryd.prog 39 #[.pointer (some ⟨p, 0, none⟩), .slice (some ⟨w.heap.size, 0, none⟩) n n] (w.alloc (.cells C 3)) (Done p X (upd B L false) w) := by
  subst hC
  exact (clear_any p B _ L n n _ (hm.alloc _) (src_lit w p hm.lt L) hn (by omega)).mono fun e w' ⟨h1, h2, h3⟩ => ⟨h1, h2, ((Only.refl p w).alloc _).trans h3⟩

/-- how a Queue's integers lie -/
structure Lay (X : Nat → Int) (S : St) : Prop where
  count : ∀ a, a ≤ 16 → X (4 + a * 17 + 16) = ((S.R a).length : Int)
  row : ∀ a, a ≤ 16 → ∀ i x, (S.R a)[i]? = some x → X (4 + a * 17 + i) = x
  pri : ∀ t : Nat, t ≤ 16 → X (293 + t) = (S.P (t : Int) : Int)
/-- a Queue in block p -/
def Qu (w : World) (p : Nat) (S : St) : Prop := Good S ∧ ∃ X, Mp w p X S.set ∧ Lay X S
theorem Qu.lt {w : World} {p : Nat} {S : St} (h : Qu w p S) : p < w.heap.size := by obtain ⟨_, X, h, _⟩ := h; exact h.lt
theorem Qu.pos {w : World} {p : Nat} {S : St} (h : Qu w p S) : p ≠ 0 := by obtain ⟨_, X, h, _⟩ := h; exact h.1
theorem Qu.keep {w w' : World} {p : Nat} {S : St} (h : Qu w p S) (k : w'.heap[p]? = w.heap[p]?) : Qu w' p S := by obtain ⟨g, X, h, r⟩ := h; exact ⟨g, X, h.keep k, r⟩
theorem Qu.only {w w' : World} {p q : Nat} {S : St} (h : Qu w p S) (k : Only q w w') (h1 : p ≠ q) : Qu w' p S := h.keep (k.block p h.lt h1)
theorem Qu.below {w w' : World} {p : Nat} {S : St} (h : Qu w p S) (k : Below w.heap.size w w') : Qu w' p S := h.keep (k.block p h.lt)
theorem Qu.drewN {w : World} {p : Nat} {S : St} (h : Qu w p S) (n : Nat) : Qu (w.drewN n) p S := h

theorem Lay.put {S : St} (h : Lay X S) (hg : Good S) {a x n : Nat} (ha : a ≤ 16) (hx : x ≤ 16) (hn : (S.R a).length = n) (hr : n ≤ 15) :
    Lay (fun j => if j = 293 + x then (a : Int) else addX X (4 + a * 17) n (x : Int) j) (S.put (x : Int) a) := by
  refine ⟨fun b hb => ?_, fun b hb i y hy => ?_, fun t ht => ?_⟩
  · show (if _ then _ else addX X (4 + a * 17) n (x : Int) _) = (((if b = a then S.R b ++ [(x : Int)] else S.R b).length : Nat) : Int)
    rw [if_neg (by omega)]
    unfold addX
    by_cases e : b = a
    · subst e; rw [if_pos rfl, if_pos rfl]; simp [hn]
    · rw [if_neg (by omega), if_neg (by omega), if_neg e]; exact h.count b hb
  · have hy' : (if b = a then S.R b ++ [(x : Int)] else S.R b)[i]? = some y := hy
    show (if _ then _ else addX X (4 + a * 17) n (x : Int) _) = y
    unfold addX
    by_cases e : b = a
    · subst e
      rw [if_pos rfl] at hy'
      have hi := (List.getElem?_eq_some_iff.1 hy').1
      simp [hn] at hi
      rw [if_neg (by omega), if_neg (by omega)]
      by_cases c : i = n
      · subst c; rw [if_pos rfl]; rw [List.getElem?_append_right (by omega), hn] at hy'; simpa using hy'
      · rw [if_neg (by omega)]; rw [List.getElem?_append_left (by omega)] at hy'; exact h.row b hb i y hy'
    · rw [if_neg e] at hy'
      have hi := (List.getElem?_eq_some_iff.1 hy').1
      have := hg.len b
      rw [if_neg (by omega), if_neg (by omega), if_neg (by omega)]
      exact h.row b hb i y hy'
  · show (if _ then _ else addX X (4 + a * 17) n (x : Int) _) = (((if (t : Int) = (x : Int) then a else S.P (t : Int)) : Nat) : Int)
    unfold addX
    by_cases e : t = x
    · subst e; rw [if_pos rfl, if_pos rfl]
    · rw [if_neg (by omega), if_neg (by omega), if_neg (by omega), if_neg (by omega)]; exact h.pri t ht

theorem filter_split {l : List Int} {x : Int} {k : Nat} (hn : l.Nodup) (hk : l[k]? = some x) : l.filter (· != x) = l.eraseIdx k := by
  have hlt := (List.getElem?_eq_some_iff.1 hk).1
  have e : l = l.take k ++ x :: l.drop (k + 1) := by
    conv => lhs; rw [← List.take_append_drop k l, List.drop_eq_getElem_cons hlt]
    rw [(List.getElem?_eq_some_iff.1 hk).2]
  rw [List.eraseIdx_eq_take_drop_succ]
  rw [e] at hn
  have h1 := List.nodup_append.1 hn
  have h2 : x ∉ l.take k := fun h => h1.2.2 x h x (by simp) rfl
  have h3 := (List.nodup_cons.1 h1.2.1).1
  conv => lhs; rw [e]
  rw [List.filter_append, List.filter_cons_of_neg (by simp), filter_id h2, filter_id h3]

theorem Lay.del {S : St} (h : Lay X S) (hg : Good S) {a x n k : Nat} (ha : a ≤ 16) (hx : x ≤ 16) (hn : (S.R a).length = n) (hk : (S.R a)[k]? = some (x : Int)) :
    Lay (fun j => if j = 293 + x then 0 else if j = 4 + a * 17 + 16 then (n : Int) - 1 else delX X (4 + a * 17) k n j) (S.del (x : Int)) := by
  have hkn := (List.getElem?_eq_some_iff.1 hk).1
  have hn16 := hg.len a
  have hP := ((hg.mem a x).1 (List.mem_of_getElem? hk)).2
  have hoth : ∀ b, b ≠ a → (S.R b).filter (· != (x : Int)) = S.R b := fun b hb => filter_id fun h1 => by
    have := ((hg.mem b x).1 h1).2; omega
  have hthis := filter_split (hg.nodup a) hk
  refine ⟨fun b hb => ?_, fun b hb i y hy => ?_, fun t ht => ?_⟩
  · show (if _ then _ else if _ then _ else delX X (4 + a * 17) k n _) = ((((S.R b).filter (· != (x : Int))).length : Nat) : Int)
    rw [if_neg (by omega)]
    by_cases e : b = a
    · subst e; rw [if_pos rfl, hthis, List.length_eraseIdx_of_lt hkn]; omega
    · rw [if_neg (by omega), hoth b e]
      unfold delX
      rw [if_neg (by omega), if_neg (by omega)]; exact h.count b hb
  · have hy' : ((S.R b).filter (· != (x : Int)))[i]? = some y := hy
    show (if _ then _ else if _ then _ else delX X (4 + a * 17) k n _) = y
    unfold delX
    by_cases e : b = a
    · subst e
      rw [hthis] at hy'
      have hi := (List.getElem?_eq_some_iff.1 hy').1
      rw [List.length_eraseIdx_of_lt hkn] at hi
      rw [if_neg (by omega), if_neg (by omega)]
      rw [List.getElem?_eraseIdx] at hy'
      by_cases c : i < k
      · rw [if_pos c] at hy'; rw [if_neg (by omega), if_neg (by omega)]; exact h.row b hb i y hy'
      · rw [if_neg c] at hy'; rw [if_pos (by omega)]; exact h.row b hb (i + 1) y hy'
    · rw [hoth b e] at hy'
      have hi := (List.getElem?_eq_some_iff.1 hy').1
      have := hg.len b
      rw [if_neg (by omega), if_neg (by omega), if_neg (by omega), if_neg (by omega)]
      exact h.row b hb i y hy'
  · show (if _ then _ else if _ then _ else delX X (4 + a * 17) k n _) = (((if (t : Int) = (x : Int) then 0 else S.P (t : Int)) : Nat) : Int)
    unfold delX
    by_cases e : t = x
    · subst e; rw [if_pos rfl, if_pos rfl]; rfl
    · rw [if_neg (by omega), if_neg (by omega), if_neg (by omega), if_neg (by omega), if_neg (by omega)]; exact h.pri t ht

theorem put_set (S : St) (x : Int) (a : Nat) (q : Nat) : (S.put x a).set q = upd S.set [(a : Int)] true q := by
  unfold upd
  show (!(if q = a then S.R q ++ [x] else S.R q).isEmpty) = _
  by_cases e : q = a
  · subst e; simp
  · rw [if_neg e, if_neg (by simp; omega)]; rfl
theorem del_set {S : St} (hg : Good S) {x : Int} {a : Nat} (hP : S.P x = a) (q : Nat) : (S.del x).set q = if q = a then !((S.R a).filter (· != x)).isEmpty else S.set q := by
  show (!((S.R q).filter (· != x)).isEmpty) = _
  by_cases e : q = a
  · subst e; rw [if_pos rfl]
  · rw [if_neg e, filter_id fun h1 => e (((hg.mem q x).1 h1).2.symm.trans hP)]; rfl

/-- levels' add -/
theorem ladd_any (p a n : Nat) (x : Int) (w : World) (hm : Mp w p X B) (ha : a ≤ 16) (hc : X (4 + a * 17 + 16) = (n : Int)) (hn : n < 16) :
    Calls Tryd.prog 37 #[.pointer (some ⟨p, 0, none⟩), .int .i64 x, .int .i64 (a : Int)] w fun e w' => e = .returned (.tuple #[]) ∧ Mp w' p (addX X (4 + a * 17) n x) (upd B [(a : Int)] true) ∧ Only p w w' := by
  have HR := Lib.hid (radd_any p (4 + a * 17) n x w hm (by omega) (by omega) hc hn)
  have hai : (a : Int) < 17 := by omega
  clear hm hc
  go_enter Tryd.func37, Tryd.ntmps37
  go_wp2_with fail
  refine HR.out.mono ?_
  rintro e w1 ⟨rfl, hm1, ho1⟩
  go_wp2_with fail
  refine (set_lit p [(a : Int)] 1 rfl (by decide) w1 hm1 _ rfl).mono ?_
  rintro e w2 ⟨rfl, hm2, ho2⟩
  go_wp2
  go_end0
  exact ⟨rfl, hm2, ho1.trans ho2⟩

/-- enter -/
theorem enter_any (p a x : Nat) (S : St) (w : World) (hq : Qu w p S) (ha : 1 ≤ a) (ha2 : a ≤ 16) (hx : inR (x : Int)) (h0 : S.P (x : Int) = 0) :
    Calls Tryd.prog 27 #[.pointer (some ⟨p, 0, none⟩), .int .i64 (x : Int), .int .i64 (a : Int)] w fun e w' => e = .returned (.tuple #[]) ∧ Qu w' p (S.put (x : Int) a) ∧ Only p w w' := by
  obtain ⟨hg, X, hm, hl⟩ := hq
  have hrm := hg.room hx h0 a
  have hx1 := hx.1
  have hx2 := hx.2
  have HR := Lib.hid (ladd_any p a _ (x : Int) w hm ha2 (hl.count a ha2) (by omega))
  have HG := Lib.hid (hg.put hx h0 ha ha2)
  have HL := Lib.hid (hl.put (x := x) hg ha2 (by omega) rfl hrm)
  have hxi : (x : Int) < 17 := by omega
  have hx3 : x ≤ 16 := by omega
  clear hm hl hg h0 hx1 hx2 hx hrm
  generalize (S.R a).length = n at *
  go_enter Tryd.func27, Tryd.ntmps27
  go_wp2_with fail
  refine HR.out.mono ?_
  rintro e w1 ⟨rfl, hm1, ho1⟩
  have c1 := hm1.ix (j := 293 + x) (by omega) (by omega)
  have f1 := hm1.frozen (293 + x)
  have HM1 := Lib.hid hm1
  have HO1 := Lib.hid ho1
  clear hm1 ho1
  generalize addX X (4 + a * 17) n (x : Int) (293 + x) = z at c1
  go_wp2
  go_end0
  exact ⟨rfl, ⟨HG.out, _, (HM1.out.put (293 + x) (a : Int) (by omega) (by omega)).setB fun q _ _ => put_set S _ a q, HL.out⟩, HO1.out.setCell (q := ⟨p, 293 + x, none⟩) (.inl rfl) _⟩

/-- Pri -/
theorem pri_any (p : Nat) (S : St) (x : Int) (w : World) (hq : Qu w p S) (r : Nat) (hr : S.P x = r) :
    Calls Tryd.prog 24 #[.pointer (some ⟨p, 0, none⟩), .int .i64 x] w fun e w' => e = .returned (.tuple #[.int .i64 (r : Int), .bool (decide (0 < r))]) ∧ w = w' := by
  obtain ⟨hg, X, hm, hl⟩ := hq
  by_cases c : inR x
  · obtain ⟨t, rfl⟩ : ∃ t : Nat, x = (t : Int) := ⟨x.toNat, by have := c.1; omega⟩
    have h1 := c.1
    have h2 := c.2
    have c1 := hm.ix (j := 293 + t) (by omega) (by omega)
    rw [hl.pri t (by omega), hr] at c1
    have HT := Lib.hid (isTask_any (t : Int) w true (by simpa using c))
    have hti : (t : Int) < 17 := by omega
    clear hm hl hg c hr
    by_cases hz : r = 0
    · subst hz
      go_enter Tryd.func24, Tryd.ntmps24
      go_wp2_with fail
      refine HT.out.mono ?_
      rintro e w' ⟨rfl, rfl⟩
      go_wp2
      go_ret2
      exact ⟨rfl, rfl⟩
    · have hz1 : ((r : Int) == 0) = false := by simpa using hz
      have hz2 : decide (0 < r) = true := by simp; omega
      rw [hz2]
      clear hz hz2
      go_enter Tryd.func24, Tryd.ntmps24
      go_wp2_with fail
      refine HT.out.mono ?_
      rintro e w' ⟨rfl, rfl⟩
      go_wp2
      go_ret2
      exact ⟨rfl, rfl⟩
  · have hz : r = 0 := by
      rw [← hr]; apply Classical.byContradiction; intro h; exact c (hg.dom x h)
    subst hz
    have HT := Lib.hid (isTask_any x w false (by simpa using c))
    clear hm hl hg c hr
    go_enter Tryd.func24, Tryd.ntmps24
    go_wp2_with fail
    refine HT.out.mono ?_
    rintro e w' ⟨rfl, rfl⟩
    go_wp2
    go_ret2
    exact ⟨rfl, rfl⟩

/-- levels' remove: x stood at place k of row a -/
theorem lremove_any (p a n k : Nat) (x : Int) (w : World) (hm : Mp w p X B) (ha : a ≤ 16) (hc : X (4 + a * 17 + 16) = (n : Int)) (hn : n ≤ 16) (hk : k < n) (hno : ∀ i, i < n → i ≠ k → X (4 + a * 17 + i) ≠ x) (hyes : X (4 + a * 17 + k) = x) :
    Calls Tryd.prog 30 #[.pointer (some ⟨p, 0, none⟩), .int .i64 x, .int .i64 (a : Int)] w fun e w' => e = .returned (.tuple #[]) ∧ Mp w' p (fun j => if j = 4 + a * 17 + 16 then (n : Int) - 1 else delX X (4 + a * 17) k n j) (if n = 1 then upd B [(a : Int)] false else B) ∧ Only p w w' := by
  have HR := Lib.hid (rremove_any p (4 + a * 17) n k x w hm (by omega) (by omega) hc hn hk hno hyes)
  have hai : (a : Int) < 17 := by omega
  clear hm hc hno hyes
  by_cases e1 : n = 1
  · rw [if_pos e1]
    have t1 : ((n : Int) - 1 == 0) = true := by subst e1; rfl
    clear e1
    go_enter Tryd.func30, Tryd.ntmps30
    go_wp2_with fail
    refine HR.out.mono ?_
    rintro e w1 ⟨rfl, hm1, ho1⟩
    have c1 := hm1.ix (j := 4 + a * 17 + 16) (by omega) (by omega)
    rw [if_pos rfl] at c1
    have HM1 := Lib.hid hm1
    have HO1 := Lib.hid ho1
    clear hm1 ho1
    go_wp2_with fail
    refine (clear_lit p [(a : Int)] 1 rfl (by decide) w1 HM1.out _ rfl).mono ?_
    rintro e w2 ⟨rfl, hm2, ho2⟩
    go_wp2
    go_end0
    exact ⟨rfl, hm2, HO1.out.trans ho2⟩
  · rw [if_neg e1]
    have t1 : ((n : Int) - 1 == 0) = false := by simp; omega
    clear e1
    go_enter Tryd.func30, Tryd.ntmps30
    go_wp2_with fail
    refine HR.out.mono ?_
    rintro e w1 ⟨rfl, hm1, ho1⟩
    have c1 := hm1.ix (j := 4 + a * 17 + 16) (by omega) (by omega)
    rw [if_pos rfl] at c1
    have HM1 := Lib.hid hm1
    have HO1 := Lib.hid ho1
    clear hm1 ho1
    go_wp2
    go_end0
    exact ⟨rfl, HM1.out, HO1.out⟩

theorem upd_one (B : Nat → Bool) (a q : Nat) (b : Bool) : upd B [(a : Int)] b q = if q = a then b else B q := by
  unfold upd
  by_cases e : q = a
  · subst e; simp
  · rw [if_neg e, if_neg (by simp; omega)]

/-- Remove -/
theorem remove_any (p : Nat) (S : St) (x : Int) (w : World) (hq : Qu w p S) (r : Bool) (hr : decide (S.P x ≠ 0) = r) :
    Calls Tryd.prog 12 #[.pointer (some ⟨p, 0, none⟩), .int .i64 x] w fun e w' => e = .returned (.bool r) ∧ Qu w' p (S.del x) ∧ Only p w w' := by
  have hg := hq.1
  by_cases h0 : S.P x = 0
  · have e : r = false := by rw [← hr]; simp [h0]
    subst e
    have HP := Lib.hid (pri_any p S x w hq 0 h0)
    rw [hg.del0 h0]
    clear hr h0
    go_enter Tryd.func12, Tryd.ntmps12
    go_wp2_with fail
    refine HP.out.mono ?_
    rintro e w' ⟨rfl, rfl⟩
    go_wp2
    go_ret
    exact ⟨rfl, hq, Only.refl _ _⟩
  · have e : r = true := by rw [← hr]; simp [h0]
    subst e
    have hin := hg.dom x h0
    obtain ⟨t, rfl⟩ : ∃ t : Nat, x = (t : Int) := ⟨x.toNat, by omega⟩
    obtain ⟨a, ha⟩ : ∃ a, S.P (t : Int) = a := ⟨_, rfl⟩
    have HP := Lib.hid (pri_any p S (t : Int) w hq a ha)
    obtain ⟨_, X, hm, hl⟩ := hq
    have ha16 : a ≤ 16 := by rw [← ha]; exact hg.le _
    have hmem : (t : Int) ∈ S.R a := (hg.mem a t).2 ⟨by omega, ha⟩
    obtain ⟨k, hk⟩ := List.mem_iff_getElem?.1 hmem
    have hkn := (List.getElem?_eq_some_iff.1 hk).1
    have hn16 := hg.len a
    have HL := Lib.hid (hl.del hg ha16 (by omega) rfl hk)
    have HG := Lib.hid (hg.del (t : Int))
    have hB : ∀ q, (S.del (t : Int)).set q = (if (S.R a).length = 1 then upd S.set [(a : Int)] false else S.set) q := fun q => by
      rw [del_set hg ha]
      have e2 : ((S.R a).filter (· != (t : Int))).isEmpty = decide ((S.R a).length = 1) := by
        rw [filter_split (hg.nodup a) hk]
        have := List.length_eraseIdx_of_lt hkn
        by_cases e3 : (S.R a).length = 1
        · rw [decide_eq_true e3, List.isEmpty_iff_length_eq_zero]; omega
        · rw [decide_eq_false e3, ← Bool.not_eq_true, List.isEmpty_iff_length_eq_zero]; omega
      rw [e2]
      by_cases e3 : (S.R a).length = 1
      · rw [if_pos e3, upd_one]; simp [e3]
      · rw [if_neg e3]
        by_cases e4 : q = a
        · subst e4; rw [if_pos rfl]; simp [e3]
          show (!(S.R q).isEmpty) = true
          have : (S.R q).isEmpty = false := by rw [← Bool.not_eq_true, List.isEmpty_iff_length_eq_zero]; omega
          rw [this]; rfl
        · rw [if_neg e4]
    have HB := Lib.hid hB
    have HR := Lib.hid (lremove_any p a _ k (t : Int) w hm ha16 (hl.count a ha16) hn16 hkn (fun i hi hik he => by
      obtain ⟨y, hy⟩ : ∃ y, (S.R a)[i]? = some y := ⟨_, List.getElem?_eq_getElem hi⟩
      rw [hl.row a ha16 i y hy] at he
      subst he
      exact hik ((List.getElem?_inj (List.getElem?_eq_some_iff.1 hy).1 (hg.nodup a)).1 (hy.trans hk.symm))) (hl.row a ha16 k _ hk))
    have hti : (t : Int) < 17 := by omega
    have ht16 : t ≤ 16 := by omega
    have ha0 : decide (0 < a) = true := by simp; omega
    clear hm hl hg h0 hmem hk hkn hB hr hin ha hn16
    generalize (S.R a).length = n at *
    rw [ha0] at HP
    go_enter Tryd.func12, Tryd.ntmps12
    go_wp2_with fail
    refine HP.out.mono ?_
    rintro e w' ⟨rfl, rfl⟩
    go_wp2_with fail
    refine HR.out.mono ?_
    rintro e w1 ⟨rfl, hm1, ho1⟩
    have c1 := hm1.ix (j := 293 + t) (by omega) (by omega)
    have f1 := hm1.frozen (293 + t)
    have HM1 := Lib.hid hm1
    have HO1 := Lib.hid ho1
    generalize (if 293 + t = 4 + a * 17 + 16 then (n : Int) - 1 else delX X (4 + a * 17) k n (293 + t)) = z at c1
    clear hm1 ho1
    go_wp2
    go_ret
    exact ⟨rfl, ⟨HG.out, _, (HM1.out.put (293 + t) 0 (by omega) (by omega)).setB fun q _ _ => HB.out q, HL.out⟩, HO1.out.setCell (q := ⟨p, 293 + t, none⟩) (.inl rfl) _⟩

theorem inR_nat {x : Int} (h : inR x) : ∃ t : Nat, x = (t : Int) ∧ 1 ≤ t ∧ t ≤ 16 := ⟨x.toNat, by have := h.1; omega, by have := h.1; omega, by have := h.2; omega⟩
theorem ret_code {a b : Int} (h : a = b) : Ending.returned (.int .i64 a) = .returned (.int .i64 b) := by rw [h]

/-- Add -/
theorem add_any (p : Nat) (S : St) (x a : Int) (w : World) (hq : Qu w p S) (c : Int) (hc : S.addC x a = c) :
    Calls Tryd.prog 10 #[.pointer (some ⟨p, 0, none⟩), .int .i64 x, .int .i64 a] w fun e w' => e = .returned (.int .i64 c) ∧ Qu w' p (S.add x a) ∧ Only p w w' := by
  subst hc
  unfold St.addC St.add
  by_cases hx : inR x
  · have HT := Lib.hid (isTask_any x w true (by simpa using hx))
    by_cases ha : inR a
    · have HP := Lib.hid (isPri_any a w true (by simpa using ha))
      obtain ⟨t, rfl, ht1, ht2⟩ := inR_nat hx
      obtain ⟨b, rfl, hb1, hb2⟩ := inR_nat ha
      rw [if_pos ⟨hx, ha⟩]
      have hti : (t : Int) < 17 := by omega
      have c1 : ∃ X, Mp w p X S.set ∧ Lay X S := hq.2
      obtain ⟨X, hm, hl⟩ := c1
      have c1 := hm.ix (j := 293 + t) (by omega) (by omega)
      rw [hl.pri t ht2] at c1
      clear hm hl
      by_cases h0 : S.P (t : Int) = 0
      · rw [if_pos h0, if_pos ⟨hx, ha, h0⟩, Int.toNat_natCast]
        have HE := Lib.hid (enter_any p b t S w hq hb1 hb2 hx h0)
        rw [h0] at c1
        clear hq hx ha h0
        go_enter Tryd.func10, Tryd.ntmps10
        go_wp2_with fail
        refine HT.out.mono ?_
        rintro e w' ⟨rfl, rfl⟩
        go_wp2_with fail
        refine HP.out.mono ?_
        rintro e w' ⟨rfl, rfl⟩
        go_wp2_with fail
        refine HE.out.mono ?_
        rintro e w' ⟨rfl, hq1, ho1⟩
        go_wp2
        go_ret
        exact ⟨rfl, hq1, ho1⟩
      · rw [if_neg h0, if_neg fun h => h0 h.2.2]
        have h1 : ((S.P (t : Int) : Int) != 0) = true := by simpa using h0
        clear hx ha h0
        generalize S.P (t : Int) = n at *
        go_enter Tryd.func10, Tryd.ntmps10
        go_wp2_with fail
        refine HT.out.mono ?_
        rintro e w' ⟨rfl, rfl⟩
        go_wp2_with fail
        refine HP.out.mono ?_
        rintro e w' ⟨rfl, rfl⟩
        go_wp2
        go_ret
        exact ⟨rfl, hq, Only.refl _ _⟩
    · rw [if_neg fun h => ha h.2, if_neg fun h => ha h.2.1]
      have HP := Lib.hid (isPri_any a w false (by simpa using ha))
      clear hx ha
      go_enter Tryd.func10, Tryd.ntmps10
      go_wp2_with fail
      refine HT.out.mono ?_
      rintro e w' ⟨rfl, rfl⟩
      go_wp2_with fail
      refine HP.out.mono ?_
      rintro e w' ⟨rfl, rfl⟩
      go_wp2
      go_ret
      exact ⟨rfl, hq, Only.refl _ _⟩
  · rw [if_neg fun h => hx h.1, if_neg fun h => hx h.1]
    have HT := Lib.hid (isTask_any x w false (by simpa using hx))
    clear hx
    go_enter Tryd.func10, Tryd.ntmps10
    go_wp2_with fail
    refine HT.out.mono ?_
    rintro e w' ⟨rfl, rfl⟩
    go_wp2
    go_ret
    exact ⟨rfl, hq, Only.refl _ _⟩

/-- Change -/
theorem change_any (p : Nat) (S : St) (x a : Int) (w : World) (hq : Qu w p S) (r : Bool) (hr : decide (inR a ∧ S.P x ≠ 0) = r) :
    Calls Tryd.prog 14 #[.pointer (some ⟨p, 0, none⟩), .int .i64 x, .int .i64 a] w fun e w' => e = .returned (.bool r) ∧ Qu w' p (S.chg x a) ∧ Only p w w' := by
  subst hr
  unfold St.chg
  by_cases ha : inR a
  · have HP := Lib.hid (isPri_any a w true (by simpa using ha))
    obtain ⟨b, rfl, hb1, hb2⟩ := inR_nat ha
    by_cases h0 : S.P x = 0
    · have HR := Lib.hid (remove_any p S x w hq false (by simp [h0]))
      rw [if_neg fun h => h.2 h0, decide_eq_false fun h => h.2 h0]
      rw [hq.1.del0 h0] at HR
      clear hq ha h0
      go_enter Tryd.func14, Tryd.ntmps14
      go_wp2_with fail
      refine HP.out.mono ?_
      rintro e w' ⟨rfl, rfl⟩
      go_wp2_with fail
      refine HR.out.mono ?_
      rintro e w' ⟨rfl, hq1, ho1⟩
      go_wp2
      go_ret
      exact ⟨rfl, hq1, ho1⟩
    · have HR := Lib.hid (remove_any p S x w hq true (by simp [h0]))
      rw [if_pos ⟨ha, h0⟩, decide_eq_true ⟨ha, h0⟩, Int.toNat_natCast]
      have hx := hq.1.dom x h0
      obtain ⟨t, rfl, ht1, ht2⟩ := inR_nat hx
      have HE := Lib.hid (fun w1 (h1 : Qu w1 p (S.del (t : Int))) => enter_any p b t (S.del (t : Int)) w1 h1 hb1 hb2 hx (del_P S _))
      clear hq ha h0 hx
      go_enter Tryd.func14, Tryd.ntmps14
      go_wp2_with fail
      refine HP.out.mono ?_
      rintro e w' ⟨rfl, rfl⟩
      go_wp2_with fail
      refine HR.out.mono ?_
      rintro e w1 ⟨rfl, hq1, ho1⟩
      go_wp2_with fail
      refine (HE.out w1 hq1).mono ?_
      rintro e w2 ⟨rfl, hq2, ho2⟩
      go_wp2
      go_ret
      exact ⟨rfl, hq2, ho1.trans ho2⟩
  · rw [if_neg fun h => ha h.1, decide_eq_false fun h => ha h.1]
    have HP := Lib.hid (isPri_any a w false (by simpa using ha))
    clear ha
    go_enter Tryd.func14, Tryd.ntmps14
    go_wp2_with fail
    refine HP.out.mono ?_
    rintro e w' ⟨rfl, rfl⟩
    go_wp2
    go_ret
    exact ⟨rfl, hq, Only.refl _ _⟩

/-- Rotate -/
theorem rotate_any (p : Nat) (S : St) (a : Int) (w : World) (hq : Qu w p S) (c : Int) (hc : (if inR a then 0 else -17) = c) :
    Calls Tryd.prog 16 #[.pointer (some ⟨p, 0, none⟩), .int .i64 a] w fun e w' => e = .returned (.int .i64 c) ∧ Qu w' p (S.rot a) ∧ Only p w w' := by
  subst hc
  by_cases ha : inR a
  · have HP := Lib.hid (isPri_any a w true (by simpa using ha))
    rw [if_pos ha]
    obtain ⟨b, rfl, hb1, hb2⟩ := inR_nat ha
    obtain ⟨X, hm, hl⟩ := hq.2
    have hhas : has S.set (b : Int) = !(S.R b).isEmpty := by rw [has_in (by omega) (by omega), Int.toNat_natCast]; rfl
    rcases hr : S.R b with _ | ⟨y, r⟩
    · rw [rot_nil (by rw [Int.toNat_natCast]; exact hr)]
      rw [hr] at hhas
      have HH := Lib.hid (has_any p S.set (b : Int) w hm false hhas)
      clear hm hl hhas hr ha
      go_enter Tryd.func16, Tryd.ntmps16
      go_wp2_with fail
      refine HP.out.mono ?_
      rintro e w' ⟨rfl, rfl⟩
      go_wp2_with fail
      refine HH.out.mono ?_
      rintro e w' ⟨rfl, n, rfl⟩
      go_wp2
      go_ret
      exact ⟨rfl, hq.drewN n, (Only.refl _ _).drewN n⟩
    · rw [rot_chg hq.1 ha (by rw [Int.toNat_natCast]; exact hr)]
      rw [hr] at hhas
      have HH := Lib.hid (has_any p S.set (b : Int) w hm true hhas)
      have hP := ((hq.1.mem b y).1 (by simp [hr])).2
      have HC := Lib.hid (fun n => change_any p S y (b : Int) (w.drewN n) (hq.drewN n) true (by simp [ha]; omega))
      have c1 := fun n => (hm.drewN n).ix (j := 4 + b * 17) (by omega) (by omega)
      have e1 := hl.row b hb2 0 y (by simp [hr])
      rw [Nat.add_zero] at e1
      rw [e1] at c1
      have hbi : (b : Int) < 17 := by omega
      clear hm hl hhas hr ha e1
      go_enter Tryd.func16, Tryd.ntmps16
      go_wp2_with fail
      refine HP.out.mono ?_
      rintro e w' ⟨rfl, rfl⟩
      go_wp2_with fail
      refine HH.out.mono ?_
      rintro e w' ⟨rfl, n, rfl⟩
      have c2 := c1 n
      clear c1
      go_wp2_with fail
      refine (HC.out n).mono ?_
      rintro e w2 ⟨rfl, hq2, ho2⟩
      go_wp2
      go_ret
      exact ⟨rfl, hq2, ((Only.refl _ _).drewN n).trans ho2⟩
  · rw [if_neg ha]
    have e : S.rot a = S := by unfold St.rot; rw [if_neg ha]
    rw [e]
    have HP := Lib.hid (isPri_any a w false (by simpa using ha))
    clear ha e
    go_enter Tryd.func16, Tryd.ntmps16
    go_wp2_with fail
    refine HP.out.mono ?_
    rintro e w' ⟨rfl, rfl⟩
    go_wp2
    go_ret
    exact ⟨rfl, hq, Only.refl _ _⟩

/-- First -/
theorem qfirst_any (p : Nat) (S : St) (w : World) (hq : Qu w p S) (hT : Tab w) (y : Int) (ok : Bool) (hy : S.first = y) (hok : (!S.all.isEmpty) = ok) :
    Calls Tryd.prog 23 #[.pointer (some ⟨p, 0, none⟩)] w fun e w' => e = .returned (.tuple #[.int .i64 y, .bool ok]) ∧ w = w' := by
  subst hy hok
  obtain ⟨hg, X, hm, hl⟩ := hq
  have HF := Lib.hid (first_any p S.set w hm hT _ rfl)
  have h16 := hg.nxt16 0
  by_cases h0 : nxt S.set 0 = 0
  · have e1 := first_none S h0
    have e2 : S.first = 0 := by unfold St.first; rw [e1]; rfl
    rw [e2, e1]
    rw [h0] at HF
    unfold tell at HF
    clear hm hl hg h16 h0 e1 e2 hT
    go_enter Tryd.func23, Tryd.ntmps23
    go_wp2_with fail
    refine HF.out.mono ?_
    rintro e w' ⟨rfl, rfl⟩
    go_wp2
    go_ret2
    exact ⟨rfl, rfl⟩
  · obtain ⟨y, r, h1, h2, h3⟩ := first_some S h0
    have e3 : (!S.all.isEmpty) = true := by cases hA : S.all with
      | nil => exact absurd hA h3
      | cons _ _ => rfl
    rw [h2, e3]
    have c1 := hm.ix (j := 4 + nxt S.set 0 * 17) (by omega) (by omega)
    have e1 := hl.row _ h16 0 y (by simp [h1])
    rw [Nat.add_zero] at e1
    rw [e1] at c1
    unfold tell at HF
    have e4 : decide (0 < nxt S.set 0) = true := by simp; omega
    rw [e4] at HF
    clear hm hl hg h1 h2 h3 e1 e3 e4 hT
    generalize nxt S.set 0 = a at *
    have hai : (a : Int) < 17 := by omega
    go_enter Tryd.func23, Tryd.ntmps23
    go_wp2_with fail
    refine HF.out.mono ?_
    rintro e w' ⟨rfl, rfl⟩
    go_wp2
    go_ret2
    exact ⟨rfl, rfl⟩
end Go.Proofs.YtfilggkdhcjpbaaDoor
