/- Contracts of package arena: Twin (and slices.Clone of bytes). -/
import Derived.Test.YtneimdjgbblaoaaRgConD
import Derived.StillTailTactics
import Derived.Deep.RegionHeld3
import Derived.Lib.SliceRun
import Derived.OwnWalk
namespace Go.Proofs.Ytneimdjgbblaoaa.R
open Go.RowKit
set_option maxRecDepth 100000
variable {X : TypeId × List Value}

theorem row_of_own {w : World} {base g n cap : Nat} {f : Nat → Int} {xs : List Value} (h : w.ownsRow base 5 1 (.slice (some ⟨g, 0, none⟩) n cap) n xs) (lo : ∀ i, i < n → xs[i]? = some (.int .u8 (f i)) ∧ 0 ≤ f i ∧ f i ≤ 255) : Row w g n f := by
  rcases h.2 with ⟨hv, _⟩ | ⟨g', cap', cur, hv, _, hh, _, _, _, ht⟩
  · cases hv
  · simp only [Value.slice.injEq, Option.some.injEq, Addr.mk.injEq] at hv
    obtain ⟨⟨rfl, _, _⟩, _, rfl⟩ := hv
    refine ⟨cur, hh, fun i hi => ⟨?_, (lo i hi).2⟩⟩
    rw [← (lo i hi).1, ← ht, Nat.mul_one, List.getElem?_take_of_lt hi, Array.getElem?_toList]

theorem own_form {w : World} {base n : Nat} {v : Value} {xs : List Value} (h : w.ownsRow base 5 1 v n xs) (hne : ¬ v = .slice none 0 0) : ∃ g cap, v = .slice (some ⟨g, 0, none⟩) n cap ∧ base ≤ g ∧ n ≤ cap ∧ cap ≤ 9223372036854775807 := by
  rcases h.2 with ⟨hv, _⟩ | ⟨g', cap', cur, hv, hb, hh, h1, h2, _, ht⟩
  · exact absurd hv hne
  · exact ⟨g', cap', hv, hb, h1, h2⟩

def ClonePost (n : Nat) (f : Nat → Int) (w : World) (e : Ending) (w' : World) : Prop :=
  ∃ g k : Nat, w.heap.size ≤ g ∧ n ≤ k ∧ k ≤ 9223372036854775807 ∧ e = .returned (.slice (some ⟨g, 0, none⟩) n k) ∧ Row w' g n f ∧ Below w.heap.size w w'

set_option maxHeartbeats 800000 in
theorem clone_any (m n k : Nat) (f : Nat → Int) (w : World) (h : Row w m n f) (hn : n ≤ 65536) : Calls Try.prog 86 #[.slice (some ⟨m, 0, none⟩) n k] w (ClonePost n f w) := by
  obtain ⟨i0, hi0, hz0, hz1, hz2⟩ := info_parts info5
  have HI := Lib.hid hi0; have HZ0 := Lib.hid hz0; have HZ1 := Lib.hid hz1; have HZ2 := Lib.hid hz2
  clear hi0 hz0 hz1 hz2
  have heq : ∀ W : World, (binOp .eql 31 (.slice (some ⟨m, 0, none⟩) n k) (.slice none 0 0)).run Try.prog W = .ok (.bool false) W := fun W => by
    have := Lib.run_eql_slice_nil (P := Try.prog) W 31 5 (some ⟨m, 0, none⟩) n k 0 0 Try.underlying31
    simpa using this
  go_enter Try.func86, Try.ntmps86
  go_wp2_with (at_builtin; refine wpList_append_own _ rfl _ _ 31 rfl w.heap.size 5 i0 (.int .u8 0) 1 1 Try.underlying31 HI.out HZ0.out HZ1.out HZ2.out rfl (by decide) _ 0 [] rfl (World.ownsRow_lit w #[] 0 (Nat.le_refl _) (by simp [maxLen]) rfl) ⟨m, 0, none⟩ n k ((List.range n).map fun j => Value.int .u8 (f j)) rfl (by simp) ?c1 ?c2 (by simp [maxLen]; omega) (by omega) (by simp) ?c3)
  case c1 =>
    intro j u hj
    have hjl : j < n := by have := (List.getElem?_eq_some_iff.1 hj).1; simpa using this
    rw [List.getElem?_map, List.getElem?_range hjl] at hj
    simp only [Option.map_some, Option.some.injEq] at hj
    subst hj
    rw [add_at, Nat.zero_add]
    exact (h.alloc _).at_ hjl
  case c2 => intro u hu; simp at hu; obtain ⟨j, _, rfl⟩ := hu; rfl
  case c3 =>
    intro v' w1 hown hg hnil
    obtain ⟨g, cap, rfl, hb, hc1, hc2⟩ := own_form hown hnil
    have HR := Lib.hid (row_of_own (f := f) hown (fun i hi => ⟨by rw [List.getElem?_map, List.getElem?_range hi]; rfl, h.lo hi⟩))
    have HB := Lib.hid (((Below.refl w.heap.size w).alloc (Nat.le_refl _) (.cells #[] 5)).grown hg (by simp) (by simp [Value.ownBlock]))
    clear hown hg hnil
    go_wp2
    go_ret
    exact ⟨g, cap, hb, hc1, hc2, rfl, HR.out, HB.out⟩

def TwinPost (n : Nat) (c : Int) (f : Nat → Int) (w : World) (e : Ending) (w' : World) : Prop :=
  ∃ p2 m2 : Nat, w.heap.size ≤ p2 ∧ w.heap.size ≤ m2 ∧ e = .returned (.pointer (some ⟨p2, 0, none⟩)) ∧ Ar (111, []) w' p2 m2 n c f ∧ Below w.heap.size w w'

theorem twin_keep {w W w' : World} {p m n k : Nat} {c : Int} {f : Nat → Int} (hb : Below W.heap.size W w')
    (hS : W.cell? ⟨p, 0, none⟩ = some (.slice (some ⟨m, 0, none⟩) n k) ∧ W.cell? ⟨p, 1, none⟩ = some (.int .i64 c) ∧ Row W m n f ∧ Below w.heap.size w W) :
    w'.cell? ⟨p, 0, none⟩ = some (.slice (some ⟨m, 0, none⟩) n k) ∧ w'.cell? ⟨p, 1, none⟩ = some (.int .i64 c) ∧ Row w' m n f ∧ Below w.heap.size w w' := by
  obtain ⟨h0, h1, hr, hB⟩ := hS
  exact ⟨(hb.cell (p := ⟨p, 0, none⟩) (block_lt_of_cell h0)).trans h0, (hb.cell (p := ⟨p, 1, none⟩) (block_lt_of_cell h1)).trans h1, hr.below hb hr.lt, hB.trans (hb.mono hB.size)⟩

set_option maxHeartbeats 1600000 in
theorem twin_any (p m n : Nat) (c : Int) (f : Nat → Int) (w : World) (h : Ar X w p m n c f) (hn : n ≤ 65536) : Calls Try.prog 79 #[.pointer (some ⟨p, 0, none⟩)] w (TwinPost n c f w) := by
  obtain ⟨k, h0, h1, hf, _, _⟩ := h.cells
  have hrow := h.row
  go_enter Try.func79, Try.ntmps79
  go_wp2
  go_region_held3 (fun w' => w'.cell? ⟨p, 0, none⟩ = some (.slice (some ⟨m, 0, none⟩) n k) ∧ w'.cell? ⟨p, 1, none⟩ = some (.int .i64 c) ∧ Row w' m n f ∧ Below w.heap.size w w')
    (first | exact ⟨h0, h1, hrow, Below.refl _ _⟩ | exact ⟨h0, h1, hrow, (Below.refl _ _).drew⟩ | exact twin_keep hb (by assumption) | exact twin_keep ((Below.refl _ _).alloc (Nat.le_refl _) _) (by assumption) | go_keep)
    (first | (go_at_call 86; refine (clone_any m n k f _ ?_ hn).mono ?_; assumption; rintro e w' ⟨g, k', hg, hk1, hk2, rfl, hr, hb⟩))
  have HR := Lib.hid hr
  have HB := Lib.hid hb
  have hg' : w.heap.size ≤ g := by simpa using hg
  clear hr hb h h0 h1 hf hrow
  go_wp2
  go_ret
  have hb' : Below w.heap.size w w' := ((Below.refl _ _).drew).trans HB.out
  exact ⟨w'.heap.size, g, hb'.size, hg', rfl, ⟨by decide, ⟨k', heap_alloc_new _ _, hk1, hk2⟩, HR.out.alloc _⟩, hb'.alloc hb'.size _⟩
end Go.Proofs.Ytneimdjgbblaoaa.R
