/- The document's own rows (detentref3): Remove, Front, Before. -/
import Derived.Test.YtmfjhckacmdijaaRefB
import Derived.IntWalk
namespace Go.Proofs.Ytmfjhckacmdijaa
open Go.RowKit

/-- rows of nodes: each node once -/
structure Wf (N H : Nat) (R : Nat → List Nat) : Prop where
  nodup : ∀ h, h < H → (R h).Nodup
  one : ∀ h k x, h < H → k < H → x ∈ R h → x ∈ R k → h = k
  lt : ∀ h x, h < H → x ∈ R h → x < N
  len : ∀ h, h < H → (R h).length ≤ N
theorem Lst.wf {w : World} {p m N H : Nat} {R : Nat → List Nat} (h : Lst w p m N H R) : Wf N H R := by
  have hl := fun k hk => h.len (k := k) hk
  obtain ⟨f, _, r⟩ := h
  exact ⟨r.nodup, fun h k x hh hk h1 h2 => r.one hh hk h1 h2, fun h x hh hx => (r.mem h hh x hx).1, hl⟩

theorem mem_ints {L : List Nat} {x : Nat} : (x : Int) ∈ ints L ↔ x ∈ L := by
  simp only [ints, List.mem_map]
  constructor
  · rintro ⟨y, hy, e⟩; obtain rfl : y = x := by omega
    exact hy
  · intro h; exact ⟨x, h, rfl⟩

theorem ofAt_mem {N H : Nat} {R : Nat → List Nat} (hw : Wf N H R) {h : Nat} (hh : h < H) {L1 L2 : List Nat} {x : Nat} (hR : R h = L1 ++ x :: L2) : OfAt H R (x : Int) (h : Int) (L1.length : Int) := by
  refine .inl ⟨h, L1.length, hh, ⟨x, by rw [hR]; simp, rfl⟩, fun k hk hm => ?_, fun j hj y hy e => ?_, rfl, rfl⟩
  · have := hw.one k h x (by omega) hh (mem_ints.1 hm) (by rw [hR]; simp); omega
  · obtain rfl : y = x := by omega
    have hn := hw.nodup h hh
    rw [hR] at hn hy
    rw [List.getElem?_append_left hj] at hy
    exact (List.nodup_append.1 hn).2.2 y (List.mem_of_getElem? hy) y (by simp) rfl
theorem ofAt_no {H : Nat} {R : Nat → List Nat} {x : Nat} (hx : ¬ Inn H R x) : OfAt H R (x : Int) (-1) (-1) :=
  .inr ⟨fun k hk hm => hx ⟨k, hk, mem_ints.1 hm⟩, rfl, rfl⟩
theorem ofAt_neg {N H : Nat} {R : Nat → List Nat} (hw : Wf N H R) {x : Int} (hx : ¬ (0 ≤ x ∧ x < N)) : OfAt H R x (-1) (-1) :=
  .inr ⟨fun k hk hm => by
    obtain ⟨y, hy, e⟩ := List.mem_map.1 hm
    have := hw.lt k y hk hy
    omega, rfl, rfl⟩
theorem inn_part {H : Nat} {R : Nat → List Nat} {x : Nat} (h : Inn H R x) : ∃ k L1 L2, k < H ∧ R k = L1 ++ x :: L2 := by
  obtain ⟨k, hk, hm⟩ := h
  obtain ⟨L1, L2, e⟩ := List.append_of_mem hm
  exact ⟨k, L1, L2, hk, e⟩

/-- an adding's, a removing's answer -/
def DidR (q r m N H : Nat) (R : Nat → List Nat) (c : Int) (w : World) (e : Ending) (w' : World) : Prop :=
  e = .returned (.int .i64 c) ∧ Rf w' q r m N H R ∧ Only r r w w'

set_option maxHeartbeats 1600000 in
theorem rremove_ok (q r m N H h x : Nat) (R : Nat → List Nat) (w : World) (hl : Rf w q r m N H R) (hwf : Wf N H R) (hN : N ≤ 1024) (hm : m < w.heap.size) (hh : h < H) (hH : H ≤ 64) (L1 L2 : List Nat) (hR : R h = L1 ++ x :: L2) :
    Calls Try.prog 19 #[.pointer (some ⟨q, 0, none⟩), .int .i64 (x : Int)] w (DidR q r m N H (setR R h (L1 ++ L2)) 0 w) := by
  have hx : x < N := hwf.lt h x hh (by rw [hR]; simp)
  have hll : L1.length + L2.length + 1 ≤ 1024 := by have := hwf.len h hh; rw [hR] at this; simp at this; omega
  have HK1 := Lib.hid (rnode_any q r m N H x R w hl true (by simp; omega))
  have HK2 := Lib.hid (rof_any q r m N H x R w hl hH (fun k hk => by have := hwf.len k hk; omega) _ _ (ofAt_mem hwf hh hR))
  have hlr := hl.ltr
  have hb0 : Below w.heap.size w (w.alloc (.cells #[] 3)) := (Below.refl _ _).alloc (Nat.le_refl _) _
  obtain ⟨k, h0, h1, hk1, hk2⟩ := (hl.below hb0).cells
  obtain ⟨v, hv0, hs⟩ := hl.row hh
  have hv := (hb0.cell (p := ⟨r, h, none⟩) hlr).trans hv0
  rw [hR] at hs
  have hs' : Sl w m r v ((L1 ++ [x]) ++ L2) := by simpa using hs
  obtain ⟨X1, _, k1, _, hA, _, hs1, _⟩ := hs.cut
  obtain ⟨_, X2, _, k2, _, hB, _, hs2⟩ := hs'.cut
  have e1 : (((L1 ++ [x]).length : Nat) : Int) = (L1.length : Int) + 1 := by simp
  rw [e1] at hB
  have hs1' := hs1.below hb0
  have ih : (h : Int) < (H : Int) := by omega
  have hown0 : (w.alloc (.cells #[] 3)).ownsRow w.heap.size 3 1 (.slice (some ⟨w.heap.size, 0, none⟩) 0 0) 0 (vals []) := World.ownsRow_lit w #[] 0 (Nat.le_refl _) (by unfold maxLen; omega) rfl
  clear hR hs hs' e1
  generalize hL1 : L1.length = n1 at *
  generalize hL2 : L2.length = n2 at *
  have b1 : 0 + n1 ≤ 100000 := by omega
  have b3 : n1 + n2 ≤ 100000 := by omega
  have HL1 := Lib.hid hL1
  have HL2 := Lib.hid hL2
  clear hL1 hL2
  go_enter Try.func19, Try.ntmps19
  go_wp2_with fail
  refine HK1.out.mono ?_
  rintro e wx ⟨rfl, rfl⟩
  go_wp2_with fail
  refine HK2.out.mono ?_
  rintro e wx ⟨rfl, rfl⟩
  clear HK1 HK2
  go_wp2_with (at_builtin; refine wpList_append_row rfl _ _ rfl w.heap.size (.slice (some ⟨w.heap.size, 0, none⟩) 0 0) [] L1 0 rfl rfl hown0 X1 n1 k1 rfl HL1.out hs1' b1 hb0.size n1 (Nat.zero_add _) ?_; intro Y1 j1 w1 hown1 hgrow1)
  have hb2 : Below w.heap.size w w1 := hb0.grown hgrow1 (by simp) (fun k hk => (hown0.lt k hk).1)
  clear hgrow1 hown0 hb0 h0 h1 hv hk1 hk2
  have hl2 := hl.below hb2
  obtain ⟨k', h0, h1, hk1, hk2⟩ := hl2.cells
  have hv := (hb2.cell (p := ⟨r, h, none⟩) hlr).trans hv0
  have hs3 := hs2.below hb2
  have hz0 : w.frozen? ⟨r, h, none⟩ = false := by obtain ⟨_, V, hV, _⟩ := hl; exact hV.frozen h
  have hq0 := (hb2.cell (p := ⟨q, 1, none⟩) hl.ltq).symm.trans h1
  have lq := hl.ltq
  have hwr : IntKind.i64.wrap ((n1 : Int) + 1) = (n1 : Int) + 1 := IntWalk.i64_in _ (by omega)
  go_region_law (refine step_append_row rfl _ _ rfl w.heap.size (.slice Y1 n1 j1) L1 L2 n1 HL1.out rfl hown1 X2 n2 k2 rfl HL2.out hs3 b3 hb2.size (n1 + n2) rfl ?_; intro Y4 j4 w4 hown4 hgrow4; have hb4 : Below w.heap.size w w4 := hb2.drew.grown hgrow4 hb2.size (fun k hk => (hown1.lt k hk).1); have hv4 := (hb4.cell (p := ⟨r, h, none⟩) hlr).trans hv0; have hz4 := (hb4.frozen (p := ⟨r, h, none⟩) hlr).trans hz0; have hq4 := (hb4.cell (p := ⟨q, 1, none⟩) lq).trans hq0)
  all_goals
    go_wp2
    go_ret
    have hl4 := (hl.below hb4).set h _ (L1 ++ L2) (Sl.own (by rw [show (L1 ++ L2).length = n1 + n2 by rw [List.length_append, HL1.out, HL2.out]]; exact hown4) hm hlr)
    exact ⟨rfl, hl4, (Only.of_below hb4).setCell (q := ⟨r, h, none⟩) (.inl rfl) _⟩

set_option maxHeartbeats 400000 in
theorem rremove_par (q r m N H : Nat) (x : Int) (R : Nat → List Nat) (w : World) (hl : Rf w q r m N H R) (hx : ¬ (0 ≤ x ∧ x < N)) :
    Calls Try.prog 19 #[.pointer (some ⟨q, 0, none⟩), .int .i64 x] w (DidR q r m N H R (-17) w) := by
  have HK1 := Lib.hid (rnode_any q r m N H x R w hl false (by simpa using hx))
  clear hx
  go_enter Try.func19, Try.ntmps19
  go_wp2_with fail
  refine HK1.out.mono ?_
  rintro e wx ⟨rfl, rfl⟩
  go_wp2
  go_ret
  exact ⟨rfl, hl, Only.refl _ _ _⟩

set_option maxHeartbeats 400000 in
theorem rremove_obj (q r m N H x : Nat) (R : Nat → List Nat) (w : World) (hl : Rf w q r m N H R) (hwf : Wf N H R) (hN : N ≤ 1024) (hH : H ≤ 64) (hx : x < N) (hi : ¬ Inn H R x) :
    Calls Try.prog 19 #[.pointer (some ⟨q, 0, none⟩), .int .i64 (x : Int)] w (DidR q r m N H R (-41) w) := by
  have HK1 := Lib.hid (rnode_any q r m N H x R w hl true (by simp; omega))
  have HK2 := Lib.hid (rof_any q r m N H x R w hl hH (fun k hk => by have := hwf.len k hk; omega) _ _ (ofAt_no hi))
  clear hi
  go_enter Try.func19, Try.ntmps19
  go_wp2_with fail
  refine HK1.out.mono ?_
  rintro e wx ⟨rfl, rfl⟩
  go_wp2_with fail
  refine HK2.out.mono ?_
  rintro e wx ⟨rfl, rfl⟩
  go_wp2
  go_ret
  exact ⟨rfl, hl, Only.refl _ _ _⟩
end Go.Proofs.Ytmfjhckacmdijaa
