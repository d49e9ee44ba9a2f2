/- Contracts of package bits: Row. -/
import Derived.Test.YtdhemejipkaopaaDoorConC
namespace Go.Proofs.YtdhemejipkaopaaDoor
open Go.RowKit

def vals (l : List Nat) : List Value := l.map fun (x : Nat) => .int .i64 (x : Int)
theorem vals_len (l : List Nat) : (vals l).length = l.length := by simp [vals]
def slLen : Value → Nat
  | .slice _ n _ => n
  | _ => 0
theorem own_len {w : World} {B n : Nat} {v : Value} {xs : List Value} (h : w.ownsRow B 3 1 v n xs) : slLen v = n := by
  rcases h.2 with ⟨rfl, rfl⟩ | ⟨g, cap, cur, rfl, _⟩ <;> rfl
theorem info3 : (Tryd.prog.info? 3).map (fun i => (i.zero, i.size, i.bytes)) = some (some (.int .i64 0), 1, 8) := by kernel_rfl
theorem cell_one_new (w : World) (v : Value) (t : TypeId) : ∀ j u, [v][j]? = some u → (w.alloc (.cells #[v] t)).cell? ((⟨w.heap.size, 0, none⟩ : Addr).add j) = some u := by
  intro j u h
  match j, h with
  | 0, h => simp at h; subst h; simp [Addr.add]

/-- numbers that an answer holds -/
def Rw (w : World) (X : Option Addr) (L : List Nat) : Prop :=
  0 < L.length → ∃ g : Nat, X = some ⟨g, 0, none⟩ ∧ g < w.heap.size ∧ ∀ j x : Nat, L[j]? = some x → w.cell? ⟨g, j, none⟩ = some (.int .i64 (x : Int))
theorem Rw.below {w w' : World} {X : Option Addr} {L : List Nat} (h : Rw w X L) (k : Below w.heap.size w w') : Rw w' X L := fun h0 => by
  obtain ⟨g, h1, h2, h3⟩ := h h0
  exact ⟨g, h1, Nat.lt_of_lt_of_le h2 k.size, fun j x hx => by rw [k.cell (p := ⟨g, j, none⟩) h2]; exact h3 j x hx⟩
/-- what Row tells -/
def RowPost (L : List Nat) (n : Nat) (w : World) (e : Ending) (w' : World) : Prop :=
  ∃ (X : Option Addr) (k : Nat), e = .returned (.slice X n k) ∧ Rw w' X L ∧ Below w.heap.size w w'
theorem own_rw {w : World} {B n : Nat} {v : Value} {L : List Nat} (hn : L.length = n) (h : w.ownsRow B 3 1 v n (vals L)) : ∃ (X : Option Addr) (k : Nat), v = .slice X n k ∧ Rw w X L := by
  have h' := h
  subst hn
  rcases h.2 with ⟨rfl, h0⟩ | ⟨g, cap, cur, rfl, hg, hh, hc1, hc2, hsz, htk⟩
  · exact ⟨none, 0, by rw [h0], fun h1 => absurd h1 (by omega)⟩
  · refine ⟨some ⟨g, 0, none⟩, cap, rfl, fun _ => ⟨g, rfl, lt_of_heap hh, fun j x hx => ?_⟩⟩
    have hj : j < L.length := (List.getElem?_eq_some_iff.1 hx).1
    rw [h'.cellAt j (by omega)]
    simp [vals, hx]

theorem run_make_row (m : Nat) (hm : m ≤ 256) (W : World) :
    (Instr.makeSlice 29 (.int .i64 0) (.int .i64 (m : Int))).run Tryd.prog W = .ok (.slice (some ⟨W.heap.size, 0, none⟩) 0 m) (W.alloc (.cells (madeCells #[.int .i64 0] m) 3)) := by
  obtain ⟨i0, hi0, hz0, hz1, hz2⟩ := info_parts info3
  have h := run_make (P := Tryd.prog) W 29 3 i0 _ Tryd.underlying29 hi0 hz0 .i64 .i64 0 m (by omega) (by omega) (by rw [hz2]; omega) (by omega)
  simpa [hz1, Value.cells] using h

/-- the loop of Row: a was told last -/
def RowRel (B : Nat → Bool) (w : World) (r n ok : Value) (wr : World) : Prop :=
  ∃ (a : Nat) (D : List Nat), D ++ row B a = row B 0 ∧ wr.ownsRow w.heap.size 3 1 r D.length (vals D) ∧ n = .int .i64 (nxt B a : Int) ∧ ok = .bool (decide (0 < nxt B a)) ∧ Below w.heap.size w wr

set_option maxHeartbeats 1600000 in
theorem row_any (p : Nat) (B : Nat → Bool) (w : World) (hm : Mp w p B) (hT : Tab w) (m : Nat) (hlen : (row B 0).length = m) :
    Calls Tryd.prog 13 #[.pointer (some ⟨p, 0, none⟩)] w (RowPost (row B 0) m w) := by
  have hle := row_le B 0
  rw [hlen] at hle
  have HLEN := Lib.hid hlen
  have HL := Lib.hid (len_any p B w hm m hlen)
  have hmk := run_make_row m hle
  have hown0 : (w.alloc (.cells (madeCells #[.int .i64 0] m) 3)).ownsRow w.heap.size 3 1 (.slice (some ⟨w.heap.size, 0, none⟩) 0 m) 0 [] :=
    World.ownsRow_made w _ m (Nat.le_refl _) (by unfold maxLen; omega) (by simp [madeCells])
  have hb0 : Below w.heap.size w (w.alloc (.cells (madeCells #[.int .i64 0] m) 3)) := (Below.refl _ _).alloc (Nat.le_refl _) _
  have HF := Lib.hid (first_any p B _ (hm.alloc (.cells (madeCells #[.int .i64 0] m) 3)) (hT.alloc _) _ rfl)
  obtain ⟨i0, hi, hz0, hz1, hz2⟩ := info_parts info3
  clear hlen
  unfold tell at HF
  go_enter Tryd.func13, Tryd.ntmps13
  go_wp2_with fail
  refine HL.out.mono ?_
  rintro e w' ⟨rfl, rfl⟩
  go_wp2_with fail
  refine HF.out.mono ?_
  rintro e w' ⟨rfl, rfl⟩
  go_wp2
  go_loopw [3, 4, 5] (fun r n ok wr => RowRel B w r n ok wr) (fun r _ _ _ => 256 - slLen r)
  case atStart => exact ⟨0, [], rfl, hown0, rfl, rfl, hb0⟩
  case round =>
    obtain ⟨a, D, hD, hown, rfl, rfl, hb⟩ := hrel
    have HD := Lib.hid hD
    clear hD
    clear hown0 hb0
    by_cases hz : nxt B a = 0
    · have hd : decide (0 < nxt B a) = false := by simp [hz]
      rw [hd]
      have e : D = row B 0 := by rw [← HD.out, row_nil B a hz, List.append_nil]
      subst e
      rw [HLEN.out] at hown
      have HW := Lib.hid (own_rw HLEN.out hown)
      clear hz hown hd
      go_wp2
      go_ret
      obtain ⟨X, k, h1, h2⟩ := HW.out
      exact ⟨X, k, congrArg Ending.returned h1, h2, hb⟩
    · have hd : decide (0 < nxt B a) = true := by simp; omega
      rw [hd]
      have hn := nxt_some B a
      have hc := row_cons B a hz
      have hl2 : D.length + 1 ≤ m := by rw [← HLEN.out, ← HD.out, hc]; simp
      have e2 : (D ++ [nxt B a]) ++ row B (nxt B a) = row B 0 := by rw [← HD.out, hc]; simp
      have HE := Lib.hid e2
      clear hc hd e2
      obtain ⟨x, hx⟩ : ∃ x, nxt B a = x := ⟨_, rfl⟩
      rw [hx] at HE hn hz ⊢
      have hx256 : x ≤ 256 := by omega
      clear hx hn hz
      go_wp2_with (at_builtin; refine wpList_append_own _ rfl _ _ 29 rfl w.heap.size 3 i0 (.int .i64 0) 1 8 Tryd.underlying29 hi hz0 hz1 hz2 rfl (by decide) _ _ _ rfl (hown.alloc _) ⟨wr.heap.size, 0, none⟩ 1 1 [.int .i64 (x : Int)] rfl rfl (cell_one_new _ _ _) (by intro u hu; simp at hu; subst hu; rfl) (by unfold maxLen; omega) (by omega) (by have := hb.size; simp; omega) ?_; intro v1 w1 hown1 hgrow1 hnil1)
      have hb2 : Below w.heap.size w w1 := (hb.alloc hb.size _).grown hgrow1 (by have := hb.size; simp; omega) (fun k hk => (hown.lt k hk).1)
      have HF2 := Lib.hid (after_any p B (x : Int) w1 (hm.below hb2) (hT.below hb2) (nxt B x) (by rw [Int.toNat_natCast]))
      have HL1 := Lib.hid (own_len hown1)
      have HL0 := Lib.hid (own_len hown)
      clear hnil1 hgrow1 hb hown
      unfold tell at HF2
      go_wp2_with fail
      refine HF2.out.mono ?_
      rintro e w2 ⟨rfl, rfl⟩
      go_wp2
      go_roundw
      case rel => exact ⟨x, D ++ [x], HE.out, by simpa [vals] using hown1, rfl, rfl, hb2⟩
      case measure => rw [HL1.out, HL0.out]; omega
end Go.Proofs.YtdhemejipkaopaaDoor
