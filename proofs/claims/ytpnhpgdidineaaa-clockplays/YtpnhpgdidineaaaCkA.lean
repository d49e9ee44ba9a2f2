/- Contracts of package clock: nums' Add and Rel, the clock in memory, NewClock, Now, Up, Set, ensureTimers. -/
import Derived.Test.YtpnhpgdidineaaaConN
namespace Go.Proofs.Ytpnhpgdidineaaa
open Go.RowKit

theorem ret_int {k : IntKind} {a b : Int} (h : a = b) : Ending.returned (.int k a) = .returned (.int k b) := by rw [h]

theorem add_form (t d : Int) : (IntKind.u64.wrap (t + d)).tmod 281474976710656 = (t + d) % 281474976710656 := by
  rw [IntKind.wrap_u64, Int.tmod_eq_emod_of_nonneg (by omega)]; omega

set_option maxHeartbeats 400000 in
theorem nadd_any (t d r : Int) (h : (t + d) % 281474976710656 = r) (w : World) :
    Calls Try.prog 33 #[.int .u64 t, .int .u64 d] w fun e w' => e = .returned (.int .u64 r) ∧ w = w' := by
  subst h
  go_enter Try.func33, Try.ntmps33
  go_wp2
  go_ret
  exact ⟨ret_int (add_form t d), rfl⟩

theorem radd_form (t d : Int) (ht : 0 ≤ t) (hd : 0 ≤ d) : (IntKind.u64.wrap (t.tmod 281474976710656 + d.tmod 281474976710656)).tmod 281474976710656 = (t + d) % 281474976710656 := by
  rw [Int.tmod_eq_emod_of_nonneg ht, Int.tmod_eq_emod_of_nonneg hd, add_form]; omega

set_option maxHeartbeats 400000 in
theorem radd_any (t d r : Int) (ht : 0 ≤ t) (hd : 0 ≤ d) (h : (t + d) % 281474976710656 = r) (w : World) :
    Calls Try.prog 27 #[.int .u64 t, .int .u64 d] w fun e w' => e = .returned (.int .u64 r) ∧ w = w' := by
  subst h
  have H1 := Lib.hid ht
  have H2 := Lib.hid hd
  clear ht hd
  go_enter Try.func27, Try.ntmps27
  go_wp2
  go_ret
  refine ⟨ret_int ?_, rfl⟩
  have h := radd_form t d H1.out H2.out
  first | exact h | (rw [← h]; rfl) | simpa using h

/-- what Rel tells -/
def rlc (d : Int) : Int := if d < 0 ∨ 2147483647 < d then -17 else 0
def rlt (d : Int) : Int := if d < 0 ∨ 2147483647 < d then 0 else d
theorem rl_ok {d : Int} (h0 : 0 ≤ d) (h1 : d ≤ 2147483647) : rlc d = 0 ∧ rlt d = d := by unfold rlc rlt; rw [if_neg (by omega), if_neg (by omega)]; exact ⟨rfl, rfl⟩
theorem rl_no {d : Int} (h : d < 0 ∨ 2147483647 < d) : rlc d = -17 ∧ rlt d = 0 := by unfold rlc rlt; rw [if_pos h, if_pos h]; exact ⟨rfl, rfl⟩

set_option maxHeartbeats 400000 in
theorem rel_any (d : Int) (w : World) (r c : Int) (hr : rlt d = r) (hc : rlc d = c) :
    Calls Try.prog 28 #[.int .i64 d] w fun e w' => e = .returned (.tuple #[.int .u64 r, .int .i64 c]) ∧ w = w' := by
  subst hr hc
  by_cases h0 : d < 0
  · obtain ⟨e1, e2⟩ := rl_no (.inl h0)
    rw [e1, e2]
    go_enter Try.func28, Try.ntmps28
    go_wp2
    go_ret2
    exact ⟨rfl, rfl⟩
  · by_cases h1 : 2147483647 < d
    · obtain ⟨e1, e2⟩ := rl_no (.inr h1)
      rw [e1, e2]
      go_enter Try.func28, Try.ntmps28
      go_wp2
      go_ret2
      exact ⟨rfl, rfl⟩
    · obtain ⟨e1, e2⟩ := rl_ok (d := d) (by omega) (by omega)
      rw [e1, e2]
      have h2 : 0 ≤ d := by omega
      have h3 : d ≤ 2147483647 := by omega
      go_enter Try.func28, Try.ntmps28
      go_wp2
      go_ret2
      exact ⟨rfl, rfl⟩

set_option maxHeartbeats 400000 in
theorem rrel_any (d : Int) (w : World) (r c : Int) (hr : rlt d = r) (hc : rlc d = c) :
    Calls Try.prog 31 #[.int .i64 d] w fun e w' => e = .returned (.tuple #[.int .u64 r, .int .i64 c]) ∧ w = w' := by
  subst hr hc
  by_cases h0 : d < 0
  · obtain ⟨e1, e2⟩ := rl_no (.inl h0)
    rw [e1, e2]
    go_enter Try.func31, Try.ntmps31
    go_wp2
    go_ret2
    exact ⟨rfl, rfl⟩
  · by_cases h1 : 2147483647 < d
    · obtain ⟨e1, e2⟩ := rl_no (.inr h1)
      rw [e1, e2]
      go_enter Try.func31, Try.ntmps31
      go_wp2
      go_ret2
      exact ⟨rfl, rfl⟩
    · obtain ⟨e1, e2⟩ := rl_ok (d := d) (by omega) (by omega)
      rw [e1, e2]
      have h2 : 0 ≤ d := by omega
      have h3 : d ≤ 2147483647 := by omega
      go_enter Try.func31, Try.ntmps31
      go_wp2
      go_ret2
      exact ⟨rfl, rfl⟩

/-- Only blocks c, p and g may have turned, and new ones may have come. -/
structure On3 (c p g : Nat) (w w' : World) : Prop where
  os : w'.os = w.os
  tape : w'.tape = w.tape
  output : w'.output = w.output
  size : w.heap.size ≤ w'.heap.size
  block : ∀ k, k < w.heap.size → k ≠ c → k ≠ p → k ≠ g → w'.heap[k]? = w.heap[k]?
theorem On3.refl (c p g : Nat) (w : World) : On3 c p g w w := ⟨rfl, rfl, rfl, Nat.le_refl _, fun _ _ _ _ _ => rfl⟩
theorem On3.trans {c p g : Nat} {a b d : World} (h : On3 c p g a b) (k : On3 c p g b d) : On3 c p g a d :=
  ⟨k.os.trans h.os, k.tape.trans h.tape, k.output.trans h.output, Nat.le_trans h.size k.size,
   fun i hi h1 h2 h3 => (k.block i (Nat.lt_of_lt_of_le hi h.size) h1 h2 h3).trans (h.block i hi h1 h2 h3)⟩
theorem On3.of_only {c p g : Nat} {w w' : World} (h : Only p g w w') : On3 c p g w w' := ⟨h.os, h.tape, h.output, h.size, fun i hi _ h2 h3 => h.block i hi h2 h3⟩
theorem On3.of_below {c p g : Nat} {w w' : World} (h : Below w.heap.size w w') : On3 c p g w w' := ⟨h.os, h.tape, h.output, h.size, fun i hi _ _ _ => h.block i hi⟩
theorem On3.of_set {c p g : Nat} (w : World) (i : Nat) (u : Value) : On3 c p g w (w.setCell ⟨c, i, none⟩ u) :=
  ⟨rfl, rfl, rfl, by simp [World.setCell], fun k _ h1 _ _ => Below.heap_setCell w ⟨c, i, none⟩ u k h1⟩
theorem On3.below {B c p g : Nat} {w w' : World} (h : On3 c p g w w') (hB : B ≤ w.heap.size) (h1 : B ≤ c) (h2 : B ≤ p) (h3 : B ≤ g) : Below B w w' :=
  ⟨h.os, h.tape, h.output, h.size, fun k hk => h.block k (by omega) (by omega) (by omega) (by omega)⟩

/-- a clock in block c, its timers in blocks p and g; all from B on -/
structure Ck (w : World) (B c p g : Nat) (tic up now : Int) (S : List En) (last : Int) : Prop where
  hc : B ≤ c
  cell : w.heap[c]? = some (.cells #[.pointer (some ⟨p, 0, none⟩), .int .u64 tic, .int .u64 up, .int .u64 now] 45 (0, 0))
  tm : Tm w B p g S last
  bt : 1 ≤ tic ∧ tic ≤ 1000
  bu : 0 ≤ up
  bn : 0 ≤ now ∧ now < 281474976710656
section
variable {w w' : World} {B c p g : Nat} {tic up now : Int} {S : List En} {last : Int}
theorem Ck.lt (h : Ck w B c p g tic up now S last) : c < w.heap.size := lt_of_heap h.cell
theorem Ck.le (h : Ck w B c p g tic up now S last) : B ≤ w.heap.size := h.tm.le
theorem Ck.type (h : Ck w B c p g tic up now S last) {e : TypeId} (he : e ≠ 45) : ∀ cs fr, w.heap[c]? ≠ some (.cells cs e fr) := by
  intro cs fr h1
  rw [h.cell] at h1; injection h1 with h1; injection h1 with _ h2; exact he h2.symm
theorem Tm.tg (h : Tm w B p g S last) : ∃ cs fr e, w.heap[g]? = some (.cells cs e fr) ∧ (e = 77 ∨ e = 80) := by
  obtain ⟨H, v, a1, a2, a3, a4, a5⟩ := h.row
  rcases a5 with a5 | ⟨_, rfl⟩
  · rcases a4.2 with ⟨h1, _⟩ | ⟨g', cap, cur, h1, _, h2, _⟩
    · rw [h1] at a5; cases a5
    · rw [h1] at a5; injection a5 with a5; subst a5; exact ⟨_, _, _, h2, .inr rfl⟩
  · exact ⟨_, _, _, a3, .inl rfl⟩
theorem Tm.tp (h : Tm w B p g S last) : ∃ cs fr, w.heap[p]? = some (.cells cs 77 fr) := by
  obtain ⟨H, v, a1, a2, a3, a4, a5⟩ := h.row
  exact ⟨_, _, a3⟩
theorem Tm.nc {c : Nat} {cs : Array Value} {fr : Nat × Nat} (h : Tm w B p g S last) (hc : w.heap[c]? = some (.cells cs 45 fr)) : p ≠ c ∧ g ≠ c := by
  constructor
  · rintro rfl
    obtain ⟨c2, f2, h2⟩ := h.tp
    rw [hc] at h2; injection h2 with h2; injection h2 with _ h3; cases h3
  · rintro rfl
    obtain ⟨c2, f2, e, h2, h3⟩ := h.tg
    rw [hc] at h2; injection h2 with h2; injection h2 with _ h4
    subst h4; rcases h3 with h3 | h3 <;> cases h3
theorem Ck.cells (h : Ck w B c p g tic up now S last) : w.cell? ⟨c, 0, none⟩ = some (.pointer (some ⟨p, 0, none⟩)) ∧ w.cell? ⟨c, 1, none⟩ = some (.int .u64 tic) ∧ w.cell? ⟨c, 2, none⟩ = some (.int .u64 up) ∧ w.cell? ⟨c, 3, none⟩ = some (.int .u64 now) := by
  refine ⟨?_, ?_, ?_, ?_⟩ <;> rw [cell_of_row _ _ _ _ _ _ h.cell] <;> rfl
theorem Ck.frozen (h : Ck w B c p g tic up now S last) (i : Nat) : w.frozen? ⟨c, i, none⟩ = false := frozen_of_row w c i _ 45 h.cell
theorem Ck.keep (h : Ck w B c p g tic up now S last) (k1 : w'.heap[c]? = w.heap[c]?) (k2 : w'.heap[p]? = w.heap[p]?) (k3 : w'.heap[g]? = w.heap[g]?) : Ck w' B c p g tic up now S last :=
  ⟨h.hc, k1.trans h.cell, h.tm.keep k2 k3, h.bt, h.bu, h.bn⟩
theorem Ck.below (h : Ck w B c p g tic up now S last) (k : Below w.heap.size w w') : Ck w' B c p g tic up now S last := h.keep (k.block c h.lt) (k.block p h.tm.ltp) (k.block g h.tm.ltg)
theorem Ck.drew (h : Ck w B c p g tic up now S last) : Ck w.drew B c p g tic up now S last := h.keep rfl rfl rfl
theorem Ck.drewN (h : Ck w B c p g tic up now S last) (n : Nat) : Ck (w.drewN n) B c p g tic up now S last := h.keep rfl rfl rfl
theorem Ck.base {B' : Nat} (h : Ck w B c p g tic up now S last) (hb : B' ≤ B) : Ck w B' c p g tic up now S last := ⟨Nat.le_trans hb h.hc, h.cell, h.tm.base hb, h.bt, h.bu, h.bn⟩
theorem Ck.bel (h : Ck w B c p g tic up now S last) (k : On3 c p g w w') : Below B w w' := k.below h.le h.hc h.tm.hp h.tm.hg
theorem Ck.set_now (h : Ck w B c p g tic up now S last) {t : Int} (ht : 0 ≤ t ∧ t < 281474976710656) : Ck (w.setCell ⟨c, 3, none⟩ (.int .u64 t)) B c p g tic up t S last := by
  obtain ⟨n1, n2⟩ := h.tm.nc h.cell
  exact ⟨h.hc, heap_setCell_same w c 3 _ 45 (.int .u64 t) h.cell, h.tm.keep (Below.heap_setCell w _ _ _ n1) (Below.heap_setCell w _ _ _ n2), h.bt, h.bu, ht⟩
theorem Ck.set_up (h : Ck w B c p g tic up now S last) {t : Int} (ht : 0 ≤ t) : Ck (w.setCell ⟨c, 2, none⟩ (.int .u64 t)) B c p g tic t now S last := by
  obtain ⟨n1, n2⟩ := h.tm.nc h.cell
  exact ⟨h.hc, heap_setCell_same w c 2 _ 45 (.int .u64 t) h.cell, h.tm.keep (Below.heap_setCell w _ _ _ n1) (Below.heap_setCell w _ _ _ n2), h.bt, ht, h.bn⟩
end

set_option maxHeartbeats 400000 in
theorem now_any (w : World) (B c p g : Nat) (tic up now : Int) (S : List En) (last : Int) (h : Ck w B c p g tic up now S last) :
    Calls Try.prog 21 #[.pointer (some ⟨c, 0, none⟩)] w fun e w' => e = .returned (.int .u64 now) ∧ w = w' := by
  obtain ⟨c0, c1, c2, c3⟩ := h.cells
  clear h
  go_enter Try.func21, Try.ntmps21
  go_wp2
  go_ret
  exact ⟨rfl, rfl⟩

set_option maxHeartbeats 400000 in
theorem up_any (w : World) (B c p g : Nat) (tic up now : Int) (S : List En) (last : Int) (h : Ck w B c p g tic up now S last) :
    Calls Try.prog 23 #[.pointer (some ⟨c, 0, none⟩)] w fun e w' => e = .returned (.int .u64 up) ∧ w = w' := by
  obtain ⟨c0, c1, c2, c3⟩ := h.cells
  clear h
  go_enter Try.func23, Try.ntmps23
  go_wp2
  go_ret
  exact ⟨rfl, rfl⟩

set_option maxHeartbeats 400000 in
theorem ensure_any (w : World) (B c p g : Nat) (tic up now : Int) (S : List En) (last : Int) (h : Ck w B c p g tic up now S last) :
    Calls Try.prog 29 #[.pointer (some ⟨c, 0, none⟩)] w fun e w' => e = .returned (.tuple #[]) ∧ w = w' := by
  obtain ⟨c0, c1, c2, c3⟩ := h.cells
  clear h
  go_enter Try.func29, Try.ntmps29
  go_wp2
  go_end0
  exact ⟨rfl, rfl⟩

set_option maxHeartbeats 400000 in
theorem set_any (w : World) (B c p g : Nat) (tic up now : Int) (S : List En) (last : Int) (h : Ck w B c p g tic up now S last) (t r : Int) (ht : 0 ≤ t) (hr : t % 281474976710656 = r) :
    Calls Try.prog 11 #[.pointer (some ⟨c, 0, none⟩), .int .u64 t] w fun e w' => e = .returned (.tuple #[]) ∧ Ck w' B c p g tic up r S last ∧ On3 c p g w w' := by
  obtain ⟨c0, c1, c2, c3⟩ := h.cells
  have z3 := h.frozen 3
  have e : t.tmod 281474976710656 = r := by rw [Int.tmod_eq_emod_of_nonneg ht]; exact hr
  have H := Lib.hid h
  have hrr : 0 ≤ r ∧ r < 281474976710656 := by omega
  have HR := Lib.hid hrr
  clear h hr ht hrr
  go_enter Try.func11, Try.ntmps11
  go_wp2
  go_end0
  refine ⟨rfl, ?_, ?_⟩
  · first | exact H.out.set_now HR.out | (rw [e]; exact H.out.set_now HR.out)
  · exact On3.of_set w 3 _

set_option maxHeartbeats 400000 in
theorem newclock_no (w : World) (tic : Int) (h : tic < 1 ∨ 1000 < tic) :
    Calls Try.prog 9 #[.int .i64 tic] w fun e w' => e = .returned (.tuple #[.pointer none, .int .i64 (-17)]) ∧ w = w' := by
  by_cases h0 : tic < 1
  · go_enter Try.func9, Try.ntmps9
    go_wp2
    go_ret2
    exact ⟨rfl, rfl⟩
  · have h1 : 1000 < tic := by omega
    go_enter Try.func9, Try.ntmps9
    go_wp2
    go_ret2
    exact ⟨rfl, rfl⟩

set_option maxHeartbeats 400000 in
theorem newclock_ok (w : World) (B : Nat) (hB : B ≤ w.heap.size) (tic : Int) (h0 : 1 ≤ tic) (h1 : tic ≤ 1000) :
    Calls Try.prog 9 #[.int .i64 tic] w fun e w' => ∃ c p, e = .returned (.tuple #[.pointer (some ⟨c, 0, none⟩), .int .i64 0]) ∧ Ck w' B c p p tic 0 0 [] 0 ∧ Below w.heap.size w w' ∧ w.heap.size ≤ c ∧ w.heap.size ≤ p := by
  have HB := Lib.hid hB
  clear hB
  go_enter Try.func9, Try.ntmps9
  go_wp2_with fail
  refine (new_any w B HB.out).mono ?_
  rintro e w1 ⟨p, rfl, ht, hb, hp⟩
  have HT := Lib.hid ht
  have HP := Lib.hid hp
  have HBB := Lib.hid hb
  clear ht hb hp
  go_wp2
  go_ret2
  have hb1 : Below w1.heap.size w1 (w1.alloc (.cells #[.pointer (some ⟨p, 0, none⟩), .int .u64 tic, .int .u64 0, .int .u64 0] 45)) := (Below.refl _ _).alloc (Nat.le_refl _) _
  have hs := HBB.out.size
  refine ⟨w1.heap.size, p, rfl, ⟨by have := HB.out; omega, heap_alloc_new w1 _, HT.out.below hb1, ⟨h0, h1⟩, Int.le_refl _, by omega⟩, below_trans HBB.out hb1, hs, HP.out⟩
end Go.Proofs.Ytpnhpgdidineaaa
