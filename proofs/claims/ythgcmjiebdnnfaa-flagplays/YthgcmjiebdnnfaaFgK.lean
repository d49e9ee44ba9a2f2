/- What the laws of package flag use: the contracts with their world held below; bits; known. -/
import Derived.Test.YthgcmjiebdnnfaaFgE
import Derived.Laws.BitsLemmas
namespace Go.Proofs.Ythgcmjiebdnnfaa
open Go.RowKit
set_option maxRecDepth 100000

/-! ## Bits -/
/-- a number of 32 bits -/
def U (z : Int) : Prop := 0 ≤ z ∧ z < 4294967296
theorem U.nat {z : Int} (h : U z) : ∃ n : Nat, z = (n : Int) ∧ n < 4294967296 := ⟨z.toNat, by have := h.1; omega, by have := h.1; have := h.2; omega⟩
theorem u_of {a : Int} (h : (Lit.int .u32 a).wf = true) : U a := by have := bounds_u32 h; exact ⟨by omega, by omega⟩
theorem wraps_u32 (n : Int) (h0 : 0 ≤ n) (h1 : n < 2 ^ 32) : IntKind.u32.wrap n = n := by rw [IntKind.wrap_u32]; omega
theorem and_u32 (a b : Nat) (ha : a < 4294967296) (hb : b < 4294967296) : bits .and .u32 (a : Int) (b : Int) = ((a &&& b : Nat) : Int) := by
  have h := bits_nat .u32 32 (by decide) wraps_u32 a b (by omega) (by omega)
  exact h.1
theorem or_u32 (a b : Nat) (ha : a < 4294967296) (hb : b < 4294967296) : bits .or .u32 (a : Int) (b : Int) = ((a ||| b : Nat) : Int) := by
  have h := bits_nat .u32 32 (by decide) wraps_u32 a b (by omega) (by omega)
  exact h.2
theorem U.or {x y : Int} (hx : U x) (hy : U y) : U (bits .or .u32 x y) := by
  obtain ⟨a, rfl, ha⟩ := hx.nat
  obtain ⟨b, rfl, hb⟩ := hy.nat
  rw [or_u32 a b ha hb]
  have : a ||| b < 2 ^ 32 := Nat.or_lt_two_pow (by omega) (by omega)
  exact ⟨by omega, by omega⟩
theorem U.and {x y : Int} (hx : U x) (hy : U y) : U (bits .and .u32 x y) := by
  obtain ⟨a, rfl, ha⟩ := hx.nat
  obtain ⟨b, rfl, hb⟩ := hy.nat
  rw [and_u32 a b ha hb]
  have : a &&& b ≤ a := Nat.and_le_left
  exact ⟨by omega, by omega⟩
theorem and_comm32 {x y : Int} (hx : U x) (hy : U y) : bits .and .u32 x y = bits .and .u32 y x := by
  obtain ⟨a, rfl, ha⟩ := hx.nat
  obtain ⟨b, rfl, hb⟩ := hy.nat
  rw [and_u32 a b ha hb, and_u32 b a hb ha, Nat.and_comm]
theorem zero_and {y : Int} (hy : U y) : bits .and .u32 0 y = 0 := by
  obtain ⟨b, rfl, hb⟩ := hy.nat
  have := and_u32 0 b (by omega) hb
  rw [Nat.zero_and] at this; exact this
theorem zero_or {y : Int} (hy : U y) : bits .or .u32 0 y = y := by
  obtain ⟨b, rfl, hb⟩ := hy.nat
  have := or_u32 0 b (by omega) hb
  rw [Nat.zero_or] at this; exact this
theorem and_self32 {y : Int} (hy : U y) : bits .and .u32 y y = y := by
  obtain ⟨b, rfl, hb⟩ := hy.nat
  rw [and_u32 b b hb hb, Nat.and_self]
/-- bits that are there stay there -/
theorem or_and {x y v : Int} (hx : U x) (hy : U y) (hv : U v) : (bits .and .u32 x v = v → bits .and .u32 (bits .or .u32 x y) v = v) ∧ (bits .and .u32 x v ≠ 0 → bits .and .u32 (bits .or .u32 x y) v ≠ 0) := by
  obtain ⟨a, rfl, ha⟩ := hx.nat
  obtain ⟨b, rfl, hb⟩ := hy.nat
  obtain ⟨c, rfl, hc⟩ := hv.nat
  have hab : a ||| b < 2 ^ 32 := Nat.or_lt_two_pow (by omega) (by omega)
  rw [or_u32 a b ha hb, and_u32 a c ha hc, and_u32 (a ||| b) c (by omega) hc, Nat.and_or_distrib_right]
  refine ⟨fun h => ?_, fun h => ?_⟩
  · have h : a &&& c = c := by omega
    rw [h]
    have : c ||| b &&& c = c := by
      apply Nat.eq_of_testBit_eq
      intro i
      rw [Nat.testBit_or, Nat.testBit_and]
      cases c.testBit i <;> simp
    omega
  · intro e
    have e : (a &&& c) ||| (b &&& c) = 0 := by omega
    have := (Nat.or_eq_zero_iff.1 e).1
    omega
theorem met_or {x y : Int} {v : Wi} (hx : U x) (hy : U y) (hv : U v.1) (h : met x v = true) : met (bits .or .u32 x y) v = true := by
  unfold met at h ⊢
  simp only [decide_eq_true_eq] at h ⊢
  obtain ⟨h1, h2⟩ := h
  have := or_and hx hy hv
  exact ⟨this.2 h1, h2.imp id this.1⟩
theorem met_zero {v : Wi} (hv : U v.1) : met 0 v = false := by
  unfold met
  simp [zero_and hv]

/-! ## One way of each call -/
theorem poll_bad {S : St} {v : Wi} (h : perm v = false) : poll S v = (S, 0, false, -17) := by unfold poll; rw [h]; rfl
theorem poll_full {S : St} {v : Wi} (h : perm v = true) (h1 : full S = true) : poll S v = (S, 0, false, -28) := by unfold poll; rw [h, h1]; rfl
theorem poll_yes {S : St} {v : Wi} (h : perm v = true) (h1 : full S = false) (h2 : met S.x v = true) : poll S v = (got S, S.x, true, 0) := by unfold poll; rw [h, h1, h2]; rfl
theorem poll_no {S : St} {v : Wi} (h : perm v = true) (h1 : full S = false) (h2 : met S.x v = false) : poll S v = (S, 0, false, 0) := by unfold poll; rw [h, h1, h2]; rfl
theorem wait_no {S : St} {id pri : Int} {v : Wi} (h : perm v = true) (h1 : full S = false) (h2 : met S.x v = false) : wait S id pri v = (addW S id pri v, 0, false, addC S.L id pri) := by
  unfold wait; rw [poll_no h h1 h2]; rfl
theorem wait_full {S : St} {id pri : Int} {v : Wi} (h : perm v = true) (h1 : full S = true) : wait S id pri v = (S, 0, false, -28) := by
  unfold wait; rw [poll_full h h1]; rfl

/-! ## With the world held below -/
/-- an eventflag that came behind B; what was there ahead of B is as it was in w -/
def At (w : World) (s p : Nat) (S : St) (w' : World) : Prop := w.heap.size ≤ s ∧ w.heap.size ≤ p ∧ Sq w' s p S ∧ Below w.heap.size w w'
theorem At.sq {w w' : World} {s p : Nat} {S : St} (h : At w s p S w') : Sq w' s p S := h.2.2.1
theorem At.b {w w' : World} {s p : Nat} {S : St} (h : At w s p S w') : Below w.heap.size w w' := h.2.2.2
theorem At.c0 {w w' : World} {s p : Nat} {S : St} (h : At w s p S w') : w'.cell? ⟨s, 0, none⟩ = some (.pointer (some ⟨p, 0, none⟩)) := h.sq.c0
theorem At.c1 {w w' : World} {s p : Nat} {S : St} (h : At w s p S w') : w'.cell? ⟨s, 1, none⟩ = some (.int .u32 S.x) := h.sq.c1
theorem At.below {w w1 w2 : World} {s p : Nat} {S : St} (h : At w s p S w1) (k : Below w1.heap.size w1 w2) : At w s p S w2 :=
  ⟨h.1, h.2.1, h.sq.below k, h.b.trans (k.mono h.b.size)⟩
theorem At.alloc {w w1 : World} {s p : Nat} {S : St} (h : At w s p S w1) (o : Obj) : At w s p S (w1.alloc o) := h.below ((Below.refl _ _).alloc (Nat.le_refl _) o)
theorem At.drewN {w w1 : World} {s p : Nat} {S : St} (h : At w s p S w1) (n : Nat) : At w s p S (w1.drewN n) := h.below ⟨rfl, rfl, rfl, Nat.le_refl _, fun _ _ => rfl⟩

theorem new_at (w w1 : World) (b m c : Bool) (x : Int) (hb : Below w.heap.size w w1) :
    Calls Try.prog 10 #[.bool b, .bool m, .bool c, .int .u32 x] w1 fun e w' => ∃ s p : Nat, e = .returned (.pointer (some ⟨s, 0, none⟩)) ∧ At w s p ⟨b, m, c, x, [], fun _ => (0, 0)⟩ w' ∧ w1.heap.size ≤ s ∧ w1.heap.size ≤ p ∧ Below w1.heap.size w1 w' := by
  refine (newflag_ok b m c x w1).mono ?_
  rintro e w2 ⟨_, rfl, s, p, h1, h2, rfl, h3, h4⟩
  exact ⟨s, p, rfl, ⟨Nat.le_trans hb.size h1, Nat.le_trans hb.size h2, h3, hb.trans (h4.mono hb.size)⟩, h1, h2, h4⟩
theorem poll_at {w w1 : World} {s p : Nat} {S S' : St} {a k y : Int} {r : Bool} {e : Int} (h : At w s p S w1) (hs : poll S (a, k) = (S', y, r, e)) :
    Calls Try.prog 14 #[.pointer (some ⟨s, 0, none⟩), .int .u32 a, .int .i64 k] w1 fun en w' => en = .returned (.tuple #[.int .u32 y, .bool r, .int .i64 e]) ∧ At w s p S' w' ∧ On2 s p w1 w' := by
  refine (poll_any s p S S' a k y r e w1 h.sq hs).mono ?_
  rintro en w2 ⟨rfl, h2, ho⟩
  exact ⟨rfl, ⟨h.1, h.2.1, h2, h.b.trans (ho.below h.b.size h.1)⟩, On2.fst ho⟩
theorem wait_at {w w1 : World} {s p : Nat} {S S' : St} {id pri a k y : Int} {r : Bool} {e : Int} (h : At w s p S w1) (hf : Fine S) (hs : wait S id pri (a, k) = (S', y, r, e)) :
    Calls Try.prog 12 #[.pointer (some ⟨s, 0, none⟩), .int .i64 id, .int .i64 pri, .int .u32 a, .int .i64 k] w1 fun en w' => en = .returned (.tuple #[.int .u32 y, .bool r, .int .i64 e]) ∧ At w s p S' w' ∧ On2 s p w1 w' := by
  refine (wait_any s p S S' id pri a k y r e w1 h.sq hf hs).mono ?_
  rintro en w2 ⟨rfl, h2, ho⟩
  exact ⟨rfl, ⟨h.1, h.2.1, h2, h.b.trans (ho.below h.b.size h.1 h.2.1)⟩, ho⟩
theorem lower_at {w w1 : World} {s p : Nat} {S : St} {y : Int} (h : At w s p S w1) :
    Calls Try.prog 19 #[.pointer (some ⟨s, 0, none⟩), .int .u32 y] w1 fun en w' => en = .returned (.tuple #[]) ∧ At w s p (low S y) w' := by
  refine (lower_any s p S y w1 h.sq).mono ?_
  rintro en w2 ⟨rfl, h2, ho⟩
  exact ⟨rfl, h.1, h.2.1, h2, h.b.trans (ho.below h.b.size h.1)⟩
theorem len_at {w w1 : World} {s p : Nat} {S : St} {n : Int} (h : At w s p S w1) (hn : (S.L.length : Int) = n) :
    Calls Try.prog 26 #[.pointer (some ⟨p, 0, none⟩)] w1 fun e w' => e = .returned (.int .i64 n) ∧ w1 = w' := by
  subst hn
  obtain ⟨f, h1, h2, h3⟩ := h.sq
  exact len_ok p 70 S.b S.L w1 h3

/-- a row of those woken, to be read (elements of type e) -/
def Wk (w : World) (e : TypeId) (X : Option Addr) (n : Nat) (o : List (Int × Int)) : Prop :=
  o.length = n ∧ (0 < n → ∃ (g : Nat) (cs : Array Value), X = some ⟨g, 0, none⟩ ∧ w.heap[g]? = some (.cells cs e (0, 0)) ∧ ∀ (j : Nat) (z : Int × Int), o[j]? = some z → cs[j * 2]? = some (.int .i64 z.1) ∧ cs[j * 2 + 1]? = some (.int .u32 z.2))
theorem Wk.keep {w w' : World} {e : TypeId} {X : Option Addr} {n : Nat} {o : List (Int × Int)} (h : Wk w e X n o) (k : ∀ (g : Nat) (cs : Array Value), w.heap[g]? = some (.cells cs e (0, 0)) → w'.heap[g]? = w.heap[g]?) : Wk w' e X n o := by
  refine ⟨h.1, fun h0 => ?_⟩
  obtain ⟨g, cs, h1, h2, h3⟩ := h.2 h0
  exact ⟨g, cs, h1, (k g cs h2).trans h2, h3⟩
theorem Wk.below {w w' : World} {e : TypeId} {X : Option Addr} {n : Nat} {o : List (Int × Int)} (h : Wk w e X n o) (k : Below w.heap.size w w') : Wk w' e X n o := h.keep fun g _ hg => k.block g (lt_of_heap hg)
theorem Wk.on2 {w w' : World} {e : TypeId} {X : Option Addr} {n s p : Nat} {o : List (Int × Int)} {S : St} (h : Wk w e X n o) (q : Sq w s p S) (he : e ≠ 58) (he2 : e ≠ 70) (k : On2 s p w w') : Wk w' e X n o := by
  obtain ⟨f, q1, _, q3⟩ := q
  refine h.keep fun g cs hg => k.block g (lt_of_heap hg) ?_ ?_
  · rintro rfl; exact q1.type he _ _ hg
  · rintro rfl; exact q3.type he2 _ _ hg
theorem Wk.open {w : World} {e : TypeId} {X : Option Addr} {n : Nat} {o : List (Int × Int)} (h : Wk w e X n o) (h0 : 0 < n) : ∃ g, X = some ⟨g, 0, none⟩ ∧ ∀ (j : Nat) (z : Int × Int), o[j]? = some z → w.cell? ⟨g, j * 2, none⟩ = some (.int .i64 z.1) ∧ w.cell? ⟨g, j * 2 + 1, none⟩ = some (.int .u32 z.2) := by
  obtain ⟨g, cs, h1, h2, h3⟩ := h.2 h0
  refine ⟨g, h1, fun j z hz => ?_⟩
  rw [cell_of_row w g _ cs e (0, 0) h2, cell_of_row w g _ cs e (0, 0) h2]
  exact h3 j z hz
theorem Wk.one {w : World} {e : TypeId} {X : Option Addr} {z : Int × Int} (h : Wk w e X 1 [z]) : ∃ g, X = some ⟨g, 0, none⟩ ∧ w.cell? ⟨g, 0, none⟩ = some (.int .i64 z.1) ∧ w.cell? ⟨g, 1, none⟩ = some (.int .u32 z.2) := by
  obtain ⟨g, h1, h2⟩ := h.open (by omega)
  exact ⟨g, h1, (h2 0 z rfl).1, (h2 0 z rfl).2⟩
theorem wk_of {w : World} {B : Nat} {e : TypeId} {v : Value} {o : List (Int × Int)} (h : w.ownsRow B e 2 v o.length (K.vals K.cw o)) : ∃ X k, v = .slice X o.length k ∧ Wk w e X o.length o := by
  rcases h.2 with ⟨rfl, h0⟩ | ⟨g, cap, cur, rfl, _, hh, h1, h2, h3, h4⟩
  · exact ⟨none, 0, by rw [h0], rfl, fun h => by omega⟩
  · refine ⟨_, cap, rfl, rfl, fun _ => ⟨g, cur, rfl, hh, fun j z hz => ?_⟩⟩
    have hj := (List.getElem?_eq_some_iff.1 hz).1
    have key : ∀ r, r < 2 → cur[j * 2 + r]? = (K.cw z)[r]? := fun r hr => by
      have a := K.vals_get K.cw_len o j r z hr hz
      rw [← h4, List.getElem?_take, if_pos (by omega)] at a
      rw [← a]; simp
    exact ⟨by have := key 0 (by omega); rw [Nat.add_zero] at this; rw [this]; rfl, by rw [key 1 (by omega)]; rfl⟩
theorem raise_at {w w1 : World} {s p n cap : Nat} {S S' : St} {A : Option Addr} {ys : List Int} {o : List (Int × Int)} (h : At w s p S w1) (hf : Fine S) (hu : Us w1 A s ys) (hn : ys.length = n) (hz : n ≤ 9223372036854775807) (hs : raise S ys = (S', o)) {c : Nat} (hc : o.length = c) :
    Calls Try.prog 17 #[.pointer (some ⟨s, 0, none⟩), .slice A n cap] w1 fun e w' => ∃ X k, e = .returned (.slice X c k) ∧ Wk w' 74 X c o ∧ At w s p S' w' ∧ On2 s p w1 w' := by
  subst hc
  refine (raise_any s p S S' o A ys n cap w1 h.sq hf hu hn hz hs).mono ?_
  rintro e w2 ⟨v, rfl, ho, h2, h3⟩
  obtain ⟨X, k, rfl, hw⟩ := wk_of ho
  exact ⟨X, k, rfl, hw, ⟨h.1, h.2.1, h2, h.b.trans (h3.below h.b.size h.1 h.2.1)⟩, h3⟩
/-- numbers that a call lays by itself -/
theorem us_one (w : World) (s : Nat) (y : Int) (hs : s < w.heap.size) : Us (w.alloc (.cells #[.int .u32 y] 22)) (some ⟨w.heap.size, 0, none⟩) s [y] := fun _ =>
  ⟨w.heap.size, 0, rfl, by show _ < (w.heap.push _).size; simp, by omega, fun j z hz => by
    have hj := (List.getElem?_eq_some_iff.1 hz).1
    obtain rfl : j = 0 := by simp at hj; omega
    simp at hz; subst hz
    rw [cell_of_row _ w.heap.size _ _ 22 (0, 0) (heap_alloc_new w _)]; rfl⟩
theorem us_two (w : World) (s : Nat) (x y : Int) (hs : s < w.heap.size) : Us (w.alloc (.cells #[.int .u32 x, .int .u32 y] 22)) (some ⟨w.heap.size, 0, none⟩) s [x, y] := fun _ =>
  ⟨w.heap.size, 0, rfl, by show _ < (w.heap.push _).size; simp, by omega, fun j z hz => by
    have hj := (List.getElem?_eq_some_iff.1 hz).1
    rw [cell_of_row _ w.heap.size _ _ 22 (0, 0) (heap_alloc_new w _)]
    rcases Nat.lt_or_ge j 1 with h | h
    · obtain rfl : j = 0 := by omega
      simp at hz; subst hz; rfl
    · obtain rfl : j = 1 := by simp at hj; omega
      simp at hz; subst hz; rfl⟩

/-- one waits, and is met -/
theorem raise_one {b m c : Bool} {x : Int} {y : It} {W : Int → Wi} {ys : List Int} (h : met (ors x ys) (W y.1) = true) :
    raise ⟨b, m, c, x, [y], W⟩ ys = (⟨b, m, c, if c then 0 else ors x ys, [], W⟩, [(y.1, ors x ys)]) := by
  unfold raise wake
  have hh : hit (setx ⟨b, m, c, x, [y], W⟩ (ors x ys)) y = true := h
  cases c with
  | true =>
    have hi : List.findIdx (hit (setx ⟨b, m, true, x, [y], W⟩ (ors x ys))) [y] = 0 := by simp [List.findIdx_cons, hh]
    rw [if_pos rfl]
    rw [show (setx ⟨b, m, true, x, [y], W⟩ (ors x ys)).L = [y] from rfl, hi]
    rfl
  | false =>
    rw [if_neg (by intro h; cases h)]
    rw [show (setx ⟨b, m, false, x, [y], W⟩ (ors x ys)).L = [y] from rfl]
    simp only [List.filter_cons, hh]
    rfl

/-- the first one waits -/
theorem one_wait (b m c : Bool) (x id pri : Int) (v : Wi) (W : Int → Wi) (h1 : 1 ≤ id ∧ id ≤ 16) (h2 : 1 ≤ pri ∧ pri ≤ 16) (hp : perm v = true) (hm : met x v = false) :
    ∃ W' : Int → Wi, W' id = v ∧ wait ⟨b, m, c, x, [], W⟩ id pri v = (⟨b, m, c, x, [(id, pri)], W'⟩, 0, false, 0) := by
  have hf : full ⟨b, m, c, x, [], W⟩ = false := by simp [full]
  have e0 : addC [] id pri = 0 := by unfold addC; rw [if_pos ⟨h1, h2⟩]; simp
  have e1 : addL b [] id pri = [(id, pri)] := by unfold addL; rw [if_pos ⟨h1, h2, by simp⟩]; simp [ins]
  refine ⟨fun i => if addC [] id pri = 0 ∧ i = id then v else W i, by simp only [e0]; simp, ?_⟩
  rw [wait_no (S := ⟨b, m, c, x, [], W⟩) hp hf hm]
  show ((⟨b, m, c, x, addL b [] id pri, fun i => if addC [] id pri = 0 ∧ i = id then v else W i⟩ : St), (0 : Int), false, addC [] id pri) = _
  rw [e1]
  exact congrArg (fun z : Int => ((⟨b, m, c, x, [(id, pri)], fun i => if addC [] id pri = 0 ∧ i = id then v else W i⟩ : St), (0 : Int), false, z)) e0

set_option maxHeartbeats 1600000 in
theorem known_ok (w : World) : Calls Try.prog 9 #[] w fun e w' => e = .returned (.bool true) ∧ Below w.heap.size w w' := by
  have F0 := Lib.hid (fine_new false true true 1 (fun _ => (0, 0)))
  have P1 : perm (3, 0) = true := by decide
  have M1 : met 1 (3, 0) = false := by decide
  have E1 := Lib.hid (wait_no (S := ⟨false, true, true, 1, [], fun _ => (0, 0)⟩) (id := 1) (pri := 5) (v := (3, 0)) P1 rfl M1)
  have F1 := Lib.hid (F0.out.wait E1.out)
  have E2 : Hid (raise (addW ⟨false, true, true, 1, [], fun _ => (0, 0)⟩ 1 5 (3, 0)) [2, 4] = (⟨false, true, true, 0, [], fun i => if addC [] 1 5 = 0 ∧ i = 1 then (3, 0) else (0, 0)⟩, [(1, 7)])) := Lib.hid (by
    have := raise_one (b := false) (m := true) (c := true) (x := 1) (y := (1, 5)) (W := fun i => if addC [] 1 5 = 0 ∧ i = 1 then (3, 0) else (0, 0)) (ys := [2, 4]) (by decide)
    rw [show ors 1 [2, 4] = 7 from by decide] at this
    exact this)
  have E3 := Lib.hid (poll_bad (S := ⟨false, true, true, 0, [], fun i => if addC [] 1 5 = 0 ∧ i = 1 then (3, 0) else (0, 0)⟩) (v := (0, 1)) (by decide))
  have C1 : addC [] 1 5 = 0 := by decide
  clear P1 M1
  go_enter Try.func9, Try.ntmps9
  go_wp2_with fail
  refine (new_at w w false true true 1 (Below.refl _ _)).mono ?_
  rintro e w1 ⟨s, p, rfl, h1, _, _, _⟩
  have d0 := h1.c0
  go_wp2_with fail
  rw [show addC (St.L ⟨false, true, true, 1, [], fun _ => (0, 0)⟩) 1 5 = 0 from C1] at E1
  refine (wait_at h1 F0.out E1.out).mono ?_
  rintro e w2 ⟨rfl, h2, _⟩
  clear d0 h1
  have HA2 := Lib.hid (h2.alloc (.cells #[.int .u32 2, .int .u32 4] 22))
  have HU := Lib.hid (us_two w2 s 2 4 h2.sq.lts)
  have H2 := Lib.hid h2
  clear h2
  go_wp2_with fail
  refine (raise_at HA2.out F1.out HU.out (n := 2) (cap := 2) rfl (by omega) E2.out (c := 1) rfl).mono ?_
  rintro e w3 ⟨X, k, rfl, hw, h3, _⟩
  clear HA2 HU H2
  go_wp2_with fail
  refine (poll_at h3 E3.out).mono ?_
  rintro e w4 ⟨rfl, h4, ho4⟩
  obtain ⟨g, rfl, q0, q1⟩ := (hw.on2 h3.sq (by decide) (by decide) ho4).one
  have d0 := h4.c0
  have d1 := h4.c1
  have HL := Lib.hid (len_at h4 (n := 0) rfl)
  have HB := Lib.hid h4.b
  clear hw h3 ho4 h4
  simp only at d1 q0 q1
  go_wp2_with fail
  refine HL.out.mono ?_
  rintro e w7 ⟨rfl, rfl⟩
  go_wp2
  go_ret
  exact ⟨rfl, HB.out⟩
end Go.Proofs.Ythgcmjiebdnnfaa
