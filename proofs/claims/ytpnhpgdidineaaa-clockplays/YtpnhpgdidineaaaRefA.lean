/- The document's own timers (detentref7): their memory; Find, least, Next, Left. -/
import Derived.Test.YtpnhpgdidineaaaConN
namespace Go.Proofs.Ytpnhpgdidineaaa
open Go.RowKit

theorem Tm.ne {w : World} {B p g z : Nat} {S : List En} {last : Int} (h : Tm w B p g S last) (h1 : ∀ cs fr, w.heap[z]? ≠ some (.cells cs 77 fr)) (h2 : ∀ cs fr, w.heap[z]? ≠ some (.cells cs 80 fr)) : z ≠ p ∧ z ≠ g := by
  obtain ⟨H, v, a1, a2, a3, a4, a5⟩ := h.row
  refine ⟨by rintro rfl; exact h1 _ _ a3, ?_⟩
  rcases a5 with a5 | ⟨_, rfl⟩
  · rcases a4.2 with ⟨e1, _⟩ | ⟨g', cap, cur, e1, _, e2, _⟩
    · rw [e1] at a5; cases a5
    · rw [e1] at a5; injection a5 with a5; subst a5; rintro rfl; exact h2 _ _ e2
  · rintro rfl; exact h1 _ _ a3
/-- the document's timers in block q: entries by their handles, the same as the sorted row S -/
structure Rf (w : World) (q : Nat) (S : List En) (last : Int) : Prop where
  row : ∃ (L : List En) (v : Value), L.Perm S ∧ (L.Pairwise fun x y => x.2.1 < y.2.1) ∧ w.heap[q]? = some (.cells #[v, .int .i64 last] 64 (0, 0)) ∧ w.ownsRow 0 89 3 v L.length (vals cr L)
  good : Good S last

theorem Rf.lt {w : World} {q : Nat} {S : List En} {last : Int} (h : Rf w q S last) : q < w.heap.size := by obtain ⟨L, v, _, _, h1, _⟩ := h.row; exact lt_of_heap h1
theorem Rf.below {w w' : World} {q : Nat} {S : List En} {last : Int} (h : Rf w q S last) (k : Below w.heap.size w w') : Rf w' q S last := by
  obtain ⟨⟨L, v, a1, a2, a3, a4⟩, hG⟩ := h
  exact ⟨⟨L, v, a1, a2, (k.block q (lt_of_heap a3)).trans a3, own_below a4 k⟩, hG⟩
theorem Rf.fr {w w' : World} {B q : Nat} {S : List En} {last : Int} (h : Rf w q S last) (k : Fr B w w') : Rf w' q S last := by
  obtain ⟨⟨L, v, a1, a2, a3, a4⟩, hG⟩ := h
  refine ⟨⟨L, v, a1, a2, (k.block q (lt_of_heap a3) (.inr fun cs fr => ⟨?_, ?_⟩)).trans a3, own_keep a4 fun g cs hg _ => k.block g (lt_of_heap hg) (.inr fun cs2 fr => ⟨?_, ?_⟩)⟩, hG⟩
  · intro h2; rw [a3] at h2; injection h2 with h2; injection h2 with _ h3; cases h3
  · intro h2; rw [a3] at h2; injection h2 with h2; injection h2 with _ h3; cases h3
  · intro h2; rw [hg] at h2; injection h2 with h2; injection h2 with _ h3; cases h3
  · intro h2; rw [hg] at h2; injection h2 with h2; injection h2 with _ h3; cases h3
theorem Rf.type {w : World} {q : Nat} {S : List En} {last : Int} (h : Rf w q S last) {e : TypeId} (he : e ≠ 64) : ∀ cs fr, w.heap[q]? ≠ some (.cells cs e fr) := by
  obtain ⟨L, v, _, _, a3, _⟩ := h.row
  intro cs2 fr h2
  rw [a3] at h2; injection h2 with h2; injection h2 with _ h3; exact he h3.symm
/-- the program's timers under a turn of the document's block -/
theorem Tm.ronly {w w' : World} {B p g q : Nat} {S M : List En} {last l2 : Int} (h : Tm w B p g S last) (hr : Rf w q M l2) (k : Only q q w w') : Tm w' B p g S last := by
  obtain ⟨h1, h2⟩ := h.ne (hr.type (by decide)) (hr.type (by decide))
  exact h.only k (Ne.symm h1) (Ne.symm h1) (Ne.symm h2) (Ne.symm h2)
theorem Rf.open {w : World} {q : Nat} {S : List En} {last : Int} (h : Rf w q S last) : ∃ (L : List En) (X : Option Addr) (k : Nat), L.Perm S ∧ (L.Pairwise fun x y => x.2.1 < y.2.1) ∧ L.length = S.length ∧ w.heap[q]? = some (.cells #[.slice X S.length k, .int .i64 last] 64 (0, 0)) ∧ w.ownsRow 0 89 3 (.slice X S.length k) S.length (vals cr L) ∧ S.length ≤ k ∧ k ≤ 9223372036854775807 := by
  obtain ⟨L, v, a1, a2, a3, a4⟩ := h.row
  have hl := a1.length_eq
  obtain ⟨X, k, hv, h1, h2⟩ := own_form a4
  rw [hl] at hv h1 a4
  subst hv
  exact ⟨L, X, k, a1, a2, hl, a3, a4, h1, h2⟩
/-- the document's entries read -/
theorem own_cr {w : World} {B n k : Nat} {X : Option Addr} {L : List En} (h : w.ownsRow B 89 3 (.slice X n k) n (vals cr L)) (hn : L.length = n) (h0 : 0 < n) :
    ∃ b : Nat, X = some ⟨b, 0, none⟩ ∧ ∀ (j : Nat), j < n → w.cell? ⟨b, j * 3, none⟩ = some (.int .i64 (ix L j).2.1) ∧ w.cell? ⟨b, j * 3 + 1, none⟩ = some (.int .u64 (ix L j).1) ∧ w.cell? ⟨b, j * 3 + 2, none⟩ = some (.int .i64 (ix L j).2.2) := by
  subst hn
  rcases h.2 with ⟨_, h2⟩ | ⟨g, cap, cur, h1, hB, hh, hc, _, _, ht⟩
  · omega
  · injection h1 with e1 _ e2
    subst e2
    refine ⟨g, e1, fun j hj => ?_⟩
    have hx := get_ix hj
    have key : ∀ i, i < L.length * 3 → cur[i]? = (vals cr L)[i]? := fun i hi => by rw [← ht, List.getElem?_take, if_pos hi, Array.getElem?_toList]
    have g0 := vals_get cr_len L j 0 _ (by omega) hx
    have g1 := vals_get cr_len L j 1 _ (by omega) hx
    have g2 := vals_get cr_len L j 2 _ (by omega) hx
    rw [Nat.add_zero] at g0
    rw [cell_of_row w g _ cur 89 (0, 0) hh, cell_of_row w g _ cur 89 (0, 0) hh, cell_of_row w g _ cur 89 (0, 0) hh, key _ (by omega), key _ (by omega), key _ (by omega), g0, g1, g2]
    exact ⟨rfl, rfl, rfl⟩

/-- what Find tells -/
def RFnd (L : List En) (h : Int) (r : Int) : Prop :=
  (∃ i : Nat, r = (i : Int) ∧ i < L.length ∧ (ix L i).2.1 = h) ∨ (r = -1 ∧ ∀ x, x ∈ L → x.2.1 ≠ h)

set_option maxHeartbeats 800000 in
theorem rfind_any (q n k : Nat) (X : Option Addr) (L : List En) (last : Value) (w : World) (hh : w.heap[q]? = some (.cells #[.slice X n k, last] 64 (0, 0))) (hw : w.ownsRow 0 89 3 (.slice X n k) n (vals cr L)) (hn : L.length = n) (hn2 : n ≤ 256) (h : Int) :
    Calls Try.prog 38 #[.pointer (some ⟨q, 0, none⟩), .int .i64 h] w fun e w' => ∃ r : Int, e = .returned (.int .i64 r) ∧ RFnd L h r ∧ w = w' := by
  have c0 : w.cell? ⟨q, 0, none⟩ = some (.slice X n k) := by rw [cell_of_row w q 0 _ 64 (0, 0) hh]; rfl
  have HL := Lib.hid hn
  have HW := Lib.hid hw
  clear hh hn hw
  go_enter Try.func38, Try.ntmps38
  go_wp2
  go_loopw [5] (fun i wr => ∃ t : Nat, t ≤ n ∧ i = .int .i64 (t : Int) ∧ Hid (∀ j : Nat, j < t → (ix L j).2.1 ≠ h) ∧ wr = w) (fun i _ => n - (intOf i).toNat)
  case atStart => exact ⟨0, by omega, rfl, fun j hj => absurd hj (by omega), rfl⟩
  case round =>
    obtain ⟨t, ht, rfl, hno, rfl⟩ := hrel
    by_cases hlt : t < n
    · have i1 : (t : Int) < (n : Int) := by omega
      obtain ⟨b, rfl, hc⟩ := own_cr HW.out HL.out (by omega)
      obtain ⟨d0, _, _⟩ := hc t hlt
      obtain ⟨x, hx⟩ : ∃ x, ix L t = x := ⟨_, rfl⟩
      rw [hx] at d0
      have HX := Lib.hid hx
      clear hx hc
      by_cases he : x.2.1 = h
      · have te : (x.2.1 == h) = true := by simpa using he
        have HE := Lib.hid he
        clear he
        go_wp2
        go_ret
        exact ⟨t, rfl, .inl ⟨t, rfl, by rw [HL.out]; exact hlt, by rw [HX.out]; exact HE.out⟩, rfl⟩
      · have te : (x.2.1 == h) = false := by simpa using he
        have HE := Lib.hid he
        clear he
        go_wp2
        go_roundw
        case rel =>
          refine ⟨t + 1, by omega, by go_num, fun j hj => ?_, by first | rfl | trivial⟩
          by_cases e : j = t
          · subst e; rw [HX.out]; exact HE.out
          · exact hno.out j (by omega)
        case measure => simp [intOf]; omega
    · have i1 : decide ((t : Int) < (n : Int)) = false := by simp; omega
      go_wp2
      go_ret
      refine ⟨-1, rfl, .inr ⟨rfl, fun x hx => ?_⟩, rfl⟩
      obtain ⟨j, hj, rfl⟩ := mem_ix hx
      exact hno.out j (by rw [HL.out] at hj; omega)

/-- what least knows when it has looked at t of them -/
def LsUp (L : List En) (t r : Nat) : Prop := r < t ∧ ∀ j, j < t → (ix L r).1 ≤ (ix L j).1 ∧ (j < r → (ix L r).1 < (ix L j).1)
theorem head_min {s x : En} {S : List En} (hs : (s :: S).Pairwise lt) (hx : x ∈ s :: S) (h : ∀ y, y ∈ s :: S → le x y) : x = s := by
  rcases List.mem_cons.1 hx with e | e
  · exact e
  · exact absurd ((List.pairwise_cons.1 hs).1 x e) (h s List.mem_cons_self)
theorem ls_end {L S : List En} {s : En} {r : Nat} (hp : L.Perm (s :: S)) (hs : (s :: S).Pairwise lt) (hL : L.Pairwise fun x y => x.2.1 < y.2.1) (h : LsUp L L.length r) : ix L r = s := by
  refine head_min hs (hp.mem_iff.1 (ix_mem h.1)) fun y hy => ?_
  obtain ⟨j, hj, rfl⟩ := mem_ix (hp.mem_iff.2 hy)
  obtain ⟨h1, h2⟩ := h.2 j hj
  unfold le lt
  rintro (h3 | ⟨h3, h4⟩)
  · omega
  · by_cases c : j < r
    · have := h2 c; omega
    · by_cases c2 : j = r
      · subst c2; omega
      · have hp2 := List.pairwise_iff_getElem.1 hL r j h.1 hj (by omega)
        rw [ix_eq h.1, ix_eq hj] at hp2
        omega

set_option maxHeartbeats 1600000 in
theorem least_any (q n k : Nat) (X : Option Addr) (L : List En) (last : Value) (w : World) (hh : w.heap[q]? = some (.cells #[.slice X n k, last] 64 (0, 0))) (hw : w.ownsRow 0 89 3 (.slice X n k) n (vals cr L)) (hn : L.length = n) (hn2 : n ≤ 256) :
    Calls Try.prog 45 #[.pointer (some ⟨q, 0, none⟩)] w fun e w' => (∃ d, w' = w.drewN d) ∧ ((n = 0 ∧ e = .returned (.int .i64 (-1))) ∨ ∃ r : Nat, e = .returned (.int .i64 (r : Int)) ∧ LsUp L n r) := by
  have c0 : w.cell? ⟨q, 0, none⟩ = some (.slice X n k) := by rw [cell_of_row w q 0 _ 64 (0, 0) hh]; rfl
  have HL := Lib.hid hn
  have HW := Lib.hid hw
  have HC := Lib.hid c0
  clear hh hn hw c0
  go_enter Try.func45, Try.ntmps45
  go_wp2
  go_loopw [3, 4] (fun kv i wr => ∃ t : Nat, t ≤ n ∧ i = .int .i64 (t : Int) ∧ ((t = 0 ∧ kv = .int .i64 (-1)) ∨ ∃ r : Nat, r < t ∧ kv = .int .i64 (r : Int) ∧ Hid (LsUp L t r)) ∧ Hid (∃ d, wr = w.drewN d)) (fun _ i _ => n - (intOf i).toNat)
  case atStart => exact ⟨0, by omega, rfl, .inl ⟨rfl, rfl⟩, ⟨0, rfl⟩⟩
  case round =>
    obtain ⟨t, ht, rfl, hk, hD⟩ := hrel
    obtain ⟨dr, hdr⟩ := hD.out
    have c1 : wr.cell? ⟨q, 0, none⟩ = some (.slice X n k) := by rw [hdr]; exact HC.out
    have own1 : wr.ownsRow 0 89 3 (.slice X n k) n (vals cr L) := by rw [hdr]; exact HW.out
    have HD2 : Hid (∃ d, wr = w.drewN d) := ⟨dr, hdr⟩
    clear hdr hD
    by_cases hlt : t < n
    · have i1 : (t : Int) < (n : Int) := by omega
      obtain ⟨b, rfl, hc⟩ := own_cr own1 HL.out (by omega)
      rcases hk with ⟨rfl, rfl⟩ | ⟨r, hr, rfl, hls⟩
      · clear hc own1
        go_wp2
        go_big_quiet (fail)
        go_wp2
        go_roundw
        case rel =>
          obtain ⟨d9, e9⟩ := HD2.out
          refine ⟨1, by omega, by go_num, .inr ⟨0, by omega, rfl, ⟨by omega, fun j hj => ?_⟩⟩, ⟨d9 + nq, by rw [e9]; simp [World.drewN, Nat.add_assoc]⟩⟩
          obtain rfl : j = 0 := by omega
          exact ⟨Int.le_refl _, fun h => absurd h (by omega)⟩
        case measure => simp [intOf]; omega
      · obtain ⟨_, d1, _⟩ := hc t hlt
        obtain ⟨_, e1, _⟩ := hc r (by omega)
        obtain ⟨x, hx⟩ : ∃ x, (ix L t).1 = x := ⟨_, rfl⟩
        obtain ⟨y, hy⟩ : ∃ y, (ix L r).1 = y := ⟨_, rfl⟩
        rw [hx] at d1
        rw [hy] at e1
        have HX := Lib.hid hx
        have HY := Lib.hid hy
        have i2 : (r : Int) < (n : Int) := by omega
        have i3 : decide ((r : Int) < 0) = false := by simp <;> omega
        clear hx hy hc own1
        by_cases c : x < y
        · have te : decide (x < y) = true := by simpa using c
          have HE := Lib.hid c
          clear c
          go_wp2
          go_big_quiet (fail)
          go_wp2
          go_roundw
          case rel =>
            obtain ⟨d9, e9⟩ := HD2.out
            refine ⟨t + 1, by omega, by go_num, .inr ⟨t, by omega, rfl, ⟨by omega, fun j hj => ?_⟩⟩, ⟨d9 + nq, by rw [e9]; simp [World.drewN, Nat.add_assoc]⟩⟩
            have h1 := HX.out
            have h2 := HY.out
            have h3 := HE.out
            by_cases e : j = t
            · subst e; exact ⟨Int.le_refl _, fun h => absurd h (by omega)⟩
            · have := (hls.out.2 j (by omega)).1
              exact ⟨by omega, fun _ => by omega⟩
          case measure => simp [intOf]; omega
        · have te : decide (x < y) = false := by simpa using c
          have HE := Lib.hid c
          clear c
          go_wp2
          go_big_quiet (fail)
          go_wp2
          go_roundw
          case rel =>
            obtain ⟨d9, e9⟩ := HD2.out
            refine ⟨t + 1, by omega, by go_num, .inr ⟨r, by omega, rfl, ⟨by omega, fun j hj => ?_⟩⟩, ⟨d9 + nq, by rw [e9]; simp [World.drewN, Nat.add_assoc]⟩⟩
            have h1 := HX.out
            have h2 := HY.out
            have h3 := HE.out
            by_cases e : j = t
            · subst e; exact ⟨by omega, fun h => absurd h (by omega)⟩
            · exact hls.out.2 j (by omega)
          case measure => simp [intOf]; omega
    · have i1 : decide ((t : Int) < (n : Int)) = false := by simp; omega
      have etn : t = n := by omega
      clear own1
      rcases hk with ⟨h0, rfl⟩ | ⟨r, hr, rfl, hls⟩
      · go_wp2
        go_ret
        exact ⟨HD2.out, .inl ⟨by omega, rfl⟩⟩
      · have HLS : Hid (LsUp L n r) := by have := hls.out; rw [etn] at this; exact this
        clear hls etn
        go_wp2
        go_ret
        exact ⟨HD2.out, .inr ⟨r, rfl, HLS.out⟩⟩
end Go.Proofs.Ytpnhpgdidineaaa
