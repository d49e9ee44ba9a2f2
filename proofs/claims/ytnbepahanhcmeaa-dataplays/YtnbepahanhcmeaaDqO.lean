/- Rows of one's own beside a data queue; a task that does not wait to send. -/
import Derived.Test.YtnbepahanhcmeaaDqL
import Derived.Test.YtnbepahanhcmeaaDqP
namespace Go.Proofs.Ytnbepahanhcmeaa
open Go.RowKit
set_option maxRecDepth 100000

/-- a row of one's own, u, that lies elsewhere than the row v -/
structure Side (w : World) (B : Nat) (v u : Value) (L : List Int) : Prop where
  o : Ow w B u L
  a : ∀ g, u.ownBlock = some g → v.ownBlock ≠ some g
theorem Side.nil (w : World) (B : Nat) (v : Value) : Side w B v (.slice none 0 0) [] := ⟨⟨rfl, .inl ⟨rfl, rfl⟩⟩, fun g e => by cases e⟩
theorem Side.below {w w' : World} {B : Nat} {v u : Value} {L : List Int} (h : Side w B v u L) (k : Below w.heap.size w w') : Side w' B v u L := ⟨K.own_below h.o k, h.a⟩
theorem Side.drewN {w : World} {B : Nat} {v u : Value} {L : List Int} (h : Side w B v u L) (n : Nat) : Side (w.drewN n) B v u L := h.below (below_drewN w n)
/-- the queue turned -/
theorem Side.dt {w w1 w2 : World} {B s : Nat} {v v' u : Value} {t : St} {L : List Int} (h : Side w1 B v u L) (q : At w s v t w1) (k : Dt s v v' w1 w2) : Side w2 B v' u L :=
  ⟨own_dt h.o q.q k h.a, apart_dt h.o k h.a⟩
/-- the other row grew -/
theorem Side.grown {w w' : World} {B : Nat} {v v' u : Value} {L : List Int} (h : Side w B v u L) (k : w.grownBy w' v.ownBlock) (hw : v'.ownBlock = v.ownBlock ∨ v'.ownBlock = some w.heap.size) : Side w' B v' u L :=
  ⟨K.own_keep h.o fun g cs hg hu => k.block g (lt_of_heap hg) (fun e => h.a g hu e.symm), fun g hu hv => by
    rcases hw with hw | hw
    · rw [hw] at hv; exact h.a g hu hv
    · rw [hw] at hv; injection hv with hv
      obtain ⟨_, _, _, _, hl, _⟩ := own_blk h.o hu
      omega⟩
/-- it grew itself -/
theorem Side.app {w w' : World} {B : Nat} {v u u' : Value} {L L' : List Int} (h : Side w B v u L) (hv : ∀ g, v.ownBlock = some g → g < w.heap.size) (ho : Ow w' B u' L') (hw : u'.ownBlock = u.ownBlock ∨ u'.ownBlock = some w.heap.size) : Side w' B v u' L' :=
  ⟨ho, fun g hu hg => by
    rcases hw with hw | hw
    · rw [hw] at hu; exact h.a g hu hg
    · rw [hw] at hu; injection hu with hu
      have := hv g hg
      omega⟩
theorem At.row {w w1 : World} {s : Nat} {v : Value} {t : St} (h : At w s v t w1) : ∀ g, v.ownBlock = some g → g < w1.heap.size := fun g hg => by obtain ⟨_, _, _, _, hl, _⟩ := own_blk h.q.o hg; exact hl
theorem At.grown {w w1 w2 : World} {s : Nat} {v u : Value} {t : St} {L : List Int} (h : At w s v t w1) (k : w1.grownBy w2 u.ownBlock) (hu : Side w1 w.heap.size v u L) : At w s v t w2 := by
  have h1 : u.ownBlock ≠ some s := own_ne hu.o (h.q.c.type (by decide))
  refine ⟨⟨h.q.c.keep (k.block s h.q.lt (fun e => h1 e.symm)), K.own_keep h.q.o fun g cs hg hv => k.block g (lt_of_heap hg) (fun e => hu.a g e.symm hv), h.q.b⟩, h.f, below_grown h.b k h.b.size (fun g hg => ?_)⟩
  obtain ⟨_, _, _, hb, _⟩ := own_blk hu.o hg
  exact hb

set_option maxHeartbeats 4000000 in
theorem free_any {w w1 : World} {s : Nat} {v : Value} {t : St} (h : At w s v t w1) (hl : t.S.length < 16) :
    Calls Try.prog 29 #[.pointer (some ⟨s, 0, none⟩)] w1 fun e w' => ∃ id : Int, e = .returned (.int .i64 id) ∧ (1 ≤ id ∧ id ≤ 16) ∧ (∀ y, y ∈ t.S → y.1 ≠ id) ∧ Below w1.heap.size w1 w' := by
  obtain ⟨n, hn⟩ : ∃ n, t.S.length = n := ⟨_, rfl⟩
  have HS := Lib.hid (senders_to h n hn)
  have HN := Lib.hid hn
  obtain ⟨L, hL⟩ : ∃ L, t.S.map Prod.fst = L := ⟨_, rfl⟩
  rw [hL] at HS
  have HL := Lib.hid hL
  have hn16 : (n : Int) ≤ 16 := by omega
  have hlen : L.length = n := by rw [← hL, List.length_map, hn]
  have HLN := Lib.hid hlen
  have HLT := Lib.hid hl
  clear h hl hn hL hlen
  go_enter Try.func29, Try.ntmps29
  go_wp2_with fail
  refine HS.out.mono ?_
  rintro e w2 ⟨X, K, rfl, hnr, hb⟩
  have HNR := Lib.hid hnr
  have HB := Lib.hid hb
  clear hnr hb HS
  go_wp2
  go_loopw [4] (fun i wr => ∃ p : Nat, 1 ≤ p ∧ p ≤ 17 ∧ i = .int .i64 (p : Int) ∧ (∀ j : Nat, 1 ≤ j → j < p → (j : Int) ∈ L) ∧ Below w1.heap.size w1 wr ∧ Nr wr (.slice X n K) L) (fun i _ => 17 - (intOf i).toNat)
  case atStart => exact ⟨1, by omega, by omega, rfl, fun j h1 h2 => absurd h2 (by omega), HB.out, HNR.out⟩
  case round =>
    obtain ⟨p, hp1, hp2, rfl, hin, hb, hnr⟩ := hrel
    have HI := Lib.hid hin
    have HB2 := Lib.hid hb
    have HNR2 := Lib.hid hnr
    clear hin hb hnr
    by_cases hlt : p ≤ 16
    · have hlt' : (p : Int) ≤ 16 := by omega
      go_wp2
      go_loopw [6, 5] (fun i o wr => ∃ (j : Nat) (vo : Value), j ≤ n ∧ i = .int .i64 (j : Int) ∧ vo = o ∧ vo = .bool (decide ((p : Int) ∈ L.take j)) ∧ Below w1.heap.size w1 wr ∧ Nr wr (.slice X n K) L) (fun i _ _ => n - (intOf i).toNat)
      case atStart => exact ⟨0, _, Nat.zero_le _, rfl, rfl, by simp, HB2.out, HNR2.out⟩
      case round =>
        obtain ⟨j, vo, hj, rfl, rfl, hvo, hb, hnr⟩ := hrel
        have HB3 := Lib.hid hb
        have HNR3 := Lib.hid hnr
        obtain ⟨c, hc⟩ : ∃ c, decide ((p : Int) ∈ L.take j) = c := ⟨_, rfl⟩
        rw [hc] at hvo
        have HC := Lib.hid hc
        subst hvo
        by_cases hlj : j < n
        · have hlj' : (j : Int) < (n : Int) := by omega
          obtain ⟨x, hx⟩ : ∃ x, L[j]? = some x := ⟨_, List.getElem?_eq_getElem (by rw [HLN.out]; exact hlj)⟩
          obtain ⟨g, o, rfl, hg, hcell⟩ := hnr.at_ hx
          have HX := Lib.hid (take_next hx)
          clear hb hc hx
          cases c with
          | true =>
            clear hnr
            go_wp2
            refine ⟨⟨j + 1, _, by omega, by go_num, rfl, ?_, HB3.out, HNR3.out⟩, by simp [intOf]; omega⟩
            rw [HX.out, decide_eq_true (List.mem_append_left _ (of_decide_eq_true HC.out))]
          | false =>
            by_cases hxp : x = (p : Int)
            · have tx : (x == (p : Int)) = true := by simpa using hxp
              have HXP := Lib.hid hxp
              clear hnr hxp
              go_wp2
              refine ⟨⟨j + 1, _, by omega, by go_num, rfl, ?_, HB3.out, HNR3.out⟩, by simp [intOf]; omega⟩
              rw [HX.out, HXP.out, decide_eq_true (List.mem_append_right _ (by simp))]
            · have tx : (x == (p : Int)) = false := by simpa using hxp
              have HXP := Lib.hid hxp
              clear hnr hxp
              go_wp2
              refine ⟨⟨j + 1, _, by omega, by go_num, rfl, ?_, HB3.out, HNR3.out⟩, by simp [intOf]; omega⟩
              rw [HX.out, decide_eq_false (fun hm => by
                rcases List.mem_append.1 hm with hm | hm
                · exact of_decide_eq_false HC.out hm
                · exact HXP.out (by simpa using (List.mem_singleton.1 hm).symm))]
        · obtain rfl : j = n := by omega
          clear hb hnr hc
          have HC2 : Hid (decide ((p : Int) ∈ L) = c) := Lib.hid (by have := HC.out; rw [List.take_of_length_le (by rw [HLN.out]; exact Nat.le_refl _)] at this; exact this)
          cases c with
          | true =>
            go_wp2
            refine ⟨⟨p + 1, by omega, by omega, by go_num, fun q h1 h2 => ?_, HB3.out, HNR3.out⟩, by simp [intOf]; omega⟩
            by_cases e : q = p
            · subst e; exact of_decide_eq_true HC2.out
            · exact HI.out q h1 (by omega)
          | false =>
            go_wp2
            go_ret
            refine ⟨_, rfl, ⟨by omega, by omega⟩, fun y hy e => of_decide_eq_false HC2.out ?_, HB3.out⟩
            rw [← HL.out, ← e]; exact List.mem_map.2 ⟨y, hy, rfl⟩
    · exfalso
      have := all_in 16 L (fun j h1 h2 => HI.out j h1 (by omega))
      have := HLT.out
      have := HLN.out
      have := HN.out
      omega
end Go.Proofs.Ytnbepahanhcmeaa
