/- The document's clock: New, Now, Set, After, Tick; frames by the blocks' types. -/
import Derived.Test.YtpnhpgdidineaaaCkK
import Derived.Test.YtpnhpgdidineaaaRefE
import Derived.Test.YtpnhpgdidineaaaRefB
import Derived.Deep.RegionHeld3
namespace Go.Proofs.Ytpnhpgdidineaaa
open Go.RowKit

/-- the document's clock in block r, its timers in block q -/
structure Rk (w : World) (r q : Nat) (tic up base : Int) (S : List En) (last : Int) : Prop where
  cell : w.heap[r]? = some (.cells #[.pointer (some ⟨q, 0, none⟩), .int .i64 tic, .int .u64 up, .int .u64 base] 48 (0, 0))
  rf : Rf w q S last
  bt : 1 ≤ tic ∧ tic ≤ 1000
  bu : 0 ≤ up
  bb : 0 ≤ base ∧ base < 281474976710656
section
variable {w w' : World} {r q : Nat} {tic up base : Int} {S : List En} {last : Int}
theorem Rk.lt (h : Rk w r q tic up base S last) : r < w.heap.size := lt_of_heap h.cell
theorem Rk.ne (h : Rk w r q tic up base S last) {z : Nat} {cs : Array Value} {e : TypeId} {fr : Nat × Nat} (hz : w.heap[z]? = some (.cells cs e fr)) (h1 : e ≠ 48) (h2 : e ≠ 64) : z ≠ r ∧ z ≠ q := by
  constructor
  · rintro rfl
    rw [h.cell] at hz; injection hz with hz; injection hz with _ h3; exact h1 h3.symm
  · rintro rfl
    exact h.rf.type h2 _ _ hz
theorem Rk.rq (h : Rk w r q tic up base S last) : q ≠ r := by
  rintro rfl
  exact h.rf.type (e := 48) (by decide) _ _ h.cell
theorem Rk.cells (h : Rk w r q tic up base S last) : w.cell? ⟨r, 0, none⟩ = some (.pointer (some ⟨q, 0, none⟩)) ∧ w.cell? ⟨r, 1, none⟩ = some (.int .i64 tic) ∧ w.cell? ⟨r, 2, none⟩ = some (.int .u64 up) ∧ w.cell? ⟨r, 3, none⟩ = some (.int .u64 base) := by
  refine ⟨?_, ?_, ?_, ?_⟩ <;> rw [cell_of_row _ _ _ _ _ _ h.cell] <;> rfl
theorem Rk.frozen (h : Rk w r q tic up base S last) (i : Nat) : w.frozen? ⟨r, i, none⟩ = false := frozen_of_row w r i _ 48 h.cell
theorem Rk.below (h : Rk w r q tic up base S last) (k : Below w.heap.size w w') : Rk w' r q tic up base S last := ⟨(k.block r h.lt).trans h.cell, h.rf.below k, h.bt, h.bu, h.bb⟩
theorem Rk.drew (h : Rk w r q tic up base S last) : Rk w.drew r q tic up base S last := h.below (Below.refl _ _).drew
theorem Rk.drewN (h : Rk w r q tic up base S last) (n : Nat) : Rk (w.drewN n) r q tic up base S last := h.below (below_drewN w n)
theorem Rf.keep (h : Rf w q S last) (k : ∀ (z : Nat) (cs : Array Value) (e : TypeId), w.heap[z]? = some (.cells cs e (0, 0)) → (e = 64 ∨ e = 89) → w'.heap[z]? = w.heap[z]?) : Rf w' q S last := by
  obtain ⟨⟨L, v, a1, a2, a3, a4⟩, hG⟩ := h
  exact ⟨⟨L, v, a1, a2, (k q _ _ a3 (.inl rfl)).trans a3, own_keep a4 fun g cs hg _ => k g cs 89 hg (.inr rfl)⟩, hG⟩
/-- a cell of the document's clock is written -/
theorem Rk.wr (h : Rk w r q tic up base S last) (i : Nat) (v : Value) : Rf (w.setCell ⟨r, i, none⟩ v) q S last := by
  refine h.rf.keep fun z cs e hz he => Below.heap_setCell w ⟨r, i, none⟩ v z ?_
  rintro rfl
  rw [h.cell] at hz; injection hz with hz; injection hz with _ h3; subst h3; rcases he with he | he <;> cases he
theorem Rk.set_base (h : Rk w r q tic up base S last) {t : Int} (ht : 0 ≤ t ∧ t < 281474976710656) : Rk (w.setCell ⟨r, 3, none⟩ (.int .u64 t)) r q tic up t S last :=
  ⟨heap_setCell_same w r 3 _ 48 (.int .u64 t) h.cell, h.wr 3 _, h.bt, h.bu, ht⟩
theorem Rk.set_up (h : Rk w r q tic up base S last) {t : Int} (ht : 0 ≤ t) : Rk (w.setCell ⟨r, 2, none⟩ (.int .u64 t)) r q tic t base S last :=
  ⟨heap_setCell_same w r 2 _ 48 (.int .u64 t) h.cell, h.wr 2 _, h.bt, ht, h.bb⟩
/-- the document's timers turned, its clock did not -/
theorem Rk.rf_to {S2 : List En} {l2 : Int} (h : Rk w r q tic up base S last) (k : Only q q w w') (hr : Rf w' q S2 l2) : Rk w' r q tic up base S2 l2 :=
  ⟨(k.block r h.lt (Ne.symm h.rq) (Ne.symm h.rq)).trans h.cell, hr, h.bt, h.bu, h.bb⟩
/-- the program's clock and the document's leave each other alone -/
theorem Ck.ne {B c p g : Nat} {now : Int} (h : Ck w B c p g tic up now S last) {z : Nat} {cs : Array Value} {e : TypeId} {fr : Nat × Nat} (hz : w.heap[z]? = some (.cells cs e fr)) (h1 : e ≠ 45) (h2 : e ≠ 77) (h3 : e ≠ 80) : z ≠ c ∧ z ≠ p ∧ z ≠ g := by
  have no : ∀ e2, e ≠ e2 → ∀ cs2 fr2, w.heap[z]? ≠ some (.cells cs2 e2 fr2) := by
    intro e2 he cs2 fr2 h4
    rw [hz] at h4; injection h4 with h4; injection h4 with _ h5; exact he h5
  refine ⟨?_, (h.tm.ne (no 77 h2) (no 80 h3)).1, (h.tm.ne (no 77 h2) (no 80 h3)).2⟩
  rintro rfl
  exact no 45 h1 _ _ h.cell
theorem Ck.at {B c p g : Nat} {now : Int} (h : Ck w B c p g tic up now S last) (o : On3 c p g w w') {z : Nat} {cs : Array Value} {e : TypeId} {fr : Nat × Nat} (hz : w.heap[z]? = some (.cells cs e fr)) (h1 : e ≠ 45) (h2 : e ≠ 77) (h3 : e ≠ 80) : w'.heap[z]? = w.heap[z]? := by
  obtain ⟨a, b, d⟩ := h.ne hz h1 h2 h3
  exact o.block z (lt_of_heap hz) a b d
theorem Rk.on3 {B c p g : Nat} {tic2 up2 now2 : Int} {S2 : List En} {l2 : Int} (h : Rk w r q tic up base S last) (hc : Ck w B c p g tic2 up2 now2 S2 l2) (o : On3 c p g w w') : Rk w' r q tic up base S last := by
  refine ⟨(hc.at o h.cell (by decide) (by decide) (by decide)).trans h.cell, h.rf.keep fun z cs e hz he => ?_, h.bt, h.bu, h.bb⟩
  rcases he with rfl | rfl
  · exact hc.at o hz (by decide) (by decide) (by decide)
  · exact hc.at o hz (by decide) (by decide) (by decide)
theorem Rk.at (h : Rk w r q tic up base S last) (o : Only r q w w') {z : Nat} {cs : Array Value} {e : TypeId} {fr : Nat × Nat} (hz : w.heap[z]? = some (.cells cs e fr)) (h1 : e ≠ 48) (h2 : e ≠ 64) : w'.heap[z]? = w.heap[z]? := by
  obtain ⟨a, b⟩ := h.ne hz h1 h2
  exact o.block z (lt_of_heap hz) a b
theorem Ck.ronly {B c p g : Nat} {tic2 up2 now2 : Int} {S2 : List En} {l2 : Int} (h : Ck w B c p g tic2 up2 now2 S2 l2) (hr : Rk w r q tic up base S last) (o : Only r q w w') : Ck w' B c p g tic2 up2 now2 S2 l2 := by
  obtain ⟨cs, fr, hp⟩ := h.tm.tp
  obtain ⟨cs2, fr2, e, hg, he⟩ := h.tm.tg
  refine h.keep (hr.at o h.cell (by decide) (by decide)) (hr.at o hp (by decide) (by decide)) (hr.at o hg ?_ ?_)
  · rcases he with rfl | rfl <;> decide
  · rcases he with rfl | rfl <;> decide
theorem Only.r_of {a b : World} (h : Only q q a b) : Only r q a b := ⟨h.os, h.tape, h.output, h.size, fun k hk _ h2 => h.block k hk h2 h2⟩
theorem Only.dset (w : World) (i : Nat) (u : Value) : Only r q w (w.drew.setCell ⟨r, i, none⟩ u) :=
  ⟨rfl, rfl, rfl, (show w.heap.size ≤ (w.drew.setCell ⟨r, i, none⟩ u).heap.size from by simp [World.setCell]), fun k _ h1 _ => Below.heap_setCell w.drew ⟨r, i, none⟩ u k h1⟩
theorem Only.wset (w : World) (i : Nat) (u : Value) : Only r q w (w.setCell ⟨r, i, none⟩ u) :=
  ⟨rfl, rfl, rfl, by simp [World.setCell], fun k _ h1 _ => Below.heap_setCell w ⟨r, i, none⟩ u k h1⟩
end

set_option maxHeartbeats 400000 in
theorem rnew_no (w : World) (tic : Int) (h : tic < 1 ∨ 1000 < tic) :
    Calls Try.prog 10 #[.int .i64 tic] w fun e w' => e = .returned (.tuple #[.pointer none, .int .i64 (-17)]) ∧ w = w' := by
  by_cases h0 : tic < 1
  · go_enter Try.func10, Try.ntmps10
    go_wp2
    go_ret2
    exact ⟨rfl, rfl⟩
  · have h1 : 1000 < tic := by omega
    go_enter Try.func10, Try.ntmps10
    go_wp2
    go_ret2
    exact ⟨rfl, rfl⟩

set_option maxHeartbeats 400000 in
theorem rnew_ok (w : World) (tic : Int) (h0 : 1 ≤ tic) (h1 : tic ≤ 1000) :
    Calls Try.prog 10 #[.int .i64 tic] w fun e w' => ∃ r q, e = .returned (.tuple #[.pointer (some ⟨r, 0, none⟩), .int .i64 0]) ∧ Rk w' r q tic 0 0 [] 0 ∧ Below w.heap.size w w' ∧ w.heap.size ≤ r ∧ w.heap.size ≤ q := by
  have hb1 : Below w.heap.size w (w.alloc (.cells #[.slice none 0 0, .int .i64 0] 64)) := (Below.refl _ _).alloc (Nat.le_refl _) _
  have hrf : Rf (w.alloc (.cells #[.slice none 0 0, .int .i64 0] 64)) w.heap.size [] 0 := ⟨⟨[], _, List.Perm.refl _, List.Pairwise.nil, heap_alloc_new w _, World.ownsRow_nil _ _ _ _⟩, good_nil⟩
  have HB1 := Lib.hid hb1
  have HRF := Lib.hid hrf
  clear hb1 hrf
  go_enter Try.func10, Try.ntmps10
  go_wp2
  go_ret2
  have hsz : (w.alloc (.cells #[.slice none 0 0, .int .i64 0] 64)).heap.size = w.heap.size + 1 := size_alloc w _
  generalize w.alloc (.cells #[.slice none 0 0, .int .i64 0] 64) = w1 at *
  have hb2 : Below w1.heap.size w1 (w1.alloc (.cells #[.pointer (some ⟨w.heap.size, 0, none⟩), .int .i64 tic, .int .u64 0, .int .u64 0] 48)) := (Below.refl _ _).alloc (Nat.le_refl _) _
  have hn := heap_alloc_new w1 (.cells #[.pointer (some ⟨w.heap.size, 0, none⟩), .int .i64 tic, .int .u64 0, .int .u64 0] 48)
  rw [hsz] at hn
  refine ⟨w.heap.size + 1, w.heap.size, rfl, ⟨hn, HRF.out.below hb2, ⟨h0, h1⟩, Int.le_refl _, by omega⟩, below_trans HB1.out hb2, by omega, Nat.le_refl _⟩

set_option maxHeartbeats 400000 in
theorem rnow_any (w : World) (r q : Nat) (tic up base : Int) (S : List En) (last : Int) (h : Rk w r q tic up base S last) (n : Int) (hn : (base + up) % 281474976710656 = n) :
    Calls Try.prog 22 #[.pointer (some ⟨r, 0, none⟩)] w fun e w' => e = .returned (.int .u64 n) ∧ ∃ d, w' = w.drewN d := by
  obtain ⟨c0, c1, c2, c3⟩ := h.cells
  have HN : Hid (∀ W, Calls Try.prog 27 #[.int .u64 base, .int .u64 up] W fun e w' => e = .returned (.int .u64 n) ∧ W = w') := fun W => radd_any base up n h.bb.1 h.bu hn W
  clear h hn c0 c1
  go_enter Try.func22, Try.ntmps22
  go_wp2
  go_big_quiet ((go_at_call 27; exact Calls.quiet_of_same (csym (HN.out _))))
  go_wp2
  go_ret
  exact ⟨rfl, nq, rfl⟩

set_option maxHeartbeats 400000 in
theorem rset_any (w : World) (r q : Nat) (tic up base : Int) (S : List En) (last : Int) (h : Rk w r q tic up base S last) (t b1 : Int) (ht : 0 ≤ t) (hb : (t + (281474976710656 - up % 281474976710656)) % 281474976710656 = b1) :
    Calls Try.prog 12 #[.pointer (some ⟨r, 0, none⟩), .int .u64 t] w fun e w' => e = .returned (.tuple #[]) ∧ Rk w' r q tic up b1 S last ∧ Only r q w w' := by
  obtain ⟨c0, c1, c2, c3⟩ := h.cells
  have z3 := h.frozen 3
  obtain ⟨m, hm⟩ : ∃ m, up % 281474976710656 = m := ⟨_, rfl⟩
  obtain ⟨k, hk⟩ : ∃ k, 281474976710656 - m = k := ⟨_, rfl⟩
  have e1 : up.tmod 281474976710656 = m := by rw [Int.tmod_eq_emod_of_nonneg h.bu]; exact hm
  have e2 : IntKind.u64.wrap (281474976710656 - m) = k := by rw [IntKind.wrap_u64]; omega
  have HN := Lib.hid (radd_any t k b1 ht (by omega) (by rw [← hk, ← hm]; exact hb) w)
  have hrr : 0 ≤ b1 ∧ b1 < 281474976710656 := by omega
  have H := Lib.hid h
  have HR := Lib.hid hrr
  clear h hm hk hb hrr ht c0 c1
  go_enter Try.func12, Try.ntmps12
  go_wp2_with fail
  refine HN.out.mono ?_
  rintro e w1 ⟨rfl, rfl⟩
  go_wp2
  go_end0
  exact ⟨rfl, H.out.set_base HR.out, Only.wset w 3 _⟩

set_option maxHeartbeats 1600000 in
theorem rtick_any (w : World) (r q : Nat) (tic up base : Int) (S : List En) (last : Int) (h : Rk w r q tic up base S last)
    (hu : up ≤ 4611686018427387904) (u1 : Int) (hu1 : up + tic = u1) (n : Nat) (D S1 : List En) (hD : due S u1 = D) (hn : D.length = n) (hS1 : rst S u1 = S1) :
    Calls Try.prog 17 #[.pointer (some ⟨r, 0, none⟩)] w fun e w' => ∃ X k, e = .returned (.slice X n k) ∧ w'.ownsRow w.heap.size 3 1 (.slice X n k) n (vals ci (args D)) ∧ Rk w' r q tic u1 base S1 last ∧ Only r q w w' := by
  subst hD hS1
  have bt := h.bt
  have bu := h.bu
  obtain ⟨c0, c1, c2, c3⟩ := h.cells
  have z2 : w.drew.frozen? ⟨r, 2, none⟩ = false := h.frozen 2
  have c2' : w.drew.cell? ⟨r, 2, none⟩ = some (.int .u64 up) := c2
  have e0 : IntKind.u64.wrap tic = tic := by rw [IntKind.wrap_u64]; omega
  have e1 : IntKind.u64.wrap (up + tic) = u1 := by rw [IntKind.wrap_u64]; omega
  have hu1' : 0 ≤ u1 := by omega
  have HK2 := Lib.hid (h.drew.set_up hu1')
  have HO2 : Hid (Only r q w (w.drew.setCell ⟨r, 2, none⟩ (.int .u64 u1))) := Lib.hid (Only.dset w 2 (.int .u64 u1))
  have HNN := Lib.hid hn
  obtain ⟨w2, hW2⟩ : ∃ w2, w.drew.setCell ⟨r, 2, none⟩ (.int .u64 u1) = w2 := ⟨_, rfl⟩
  rw [hW2] at HK2 HO2
  have HD := Lib.hid (rdue_any w2.drew q S last HK2.out.drew.rf u1 n HNN.out)
  obtain ⟨f0, f1, f2, f3⟩ := HK2.out.cells
  clear h bt bu hu hu1 hu1' hn
  go_enter Try.func17, Try.ntmps17
  go_wp2
  go_still_tail 13, (by kernel_rfl)
  change wpList _ _ _ _ _ w.drew
  go_wp2
  go_still_tail 8, (by kernel_rfl)
  change wpList _ _ _ _ _ w2.drew
  go_wp2_with fail
  refine HD.out.mono ?_
  rintro e w4 ⟨X, k, rfl, hown, ht4, ho4⟩
  go_wp2
  go_ret
  have ho4' : Only q q w2 w4 := ⟨ho4.os, ho4.tape, ho4.output, ho4.size, ho4.block⟩
  exact ⟨X, k, rfl, own_base hown HO2.out.size, HK2.out.rf_to ho4' ht4, HO2.out.trans ho4'.r_of⟩

set_option maxHeartbeats 800000 in
theorem rafter_no (w : World) (r : Nat) (d arg : Int) (hd : d < 0 ∨ 2147483647 < d) :
    Calls Try.prog 14 #[.pointer (some ⟨r, 0, none⟩), .int .i64 d, .int .i64 arg] w fun e w' => e = .returned (.tuple #[.int .i64 0, .int .i64 (-17)]) ∧ w = w' := by
  have HR := Lib.hid (rrel_any d w 0 (-17) (rl_no hd).2 (rl_no hd).1)
  clear hd
  go_enter Try.func14, Try.ntmps14
  go_wp2_with fail
  refine HR.out.mono ?_
  rintro e w1 ⟨rfl, rfl⟩
  go_wp2
  go_ret2
  exact ⟨rfl, rfl⟩

theorem rkeep3 {w w' : World} {r q : Nat} {tic up base : Int} {S : List En} {last : Int} (h : Rk w r q tic up base S last) (ho : Only q q w.drew w') :
    w'.cell? ⟨r, 0, none⟩ = some (.pointer (some ⟨q, 0, none⟩)) ∧ w'.cell? ⟨r, 1, none⟩ = some (.int .i64 tic) ∧ w'.cell? ⟨r, 2, none⟩ = some (.int .u64 up) := by
  have e : w'.heap[r]? = w.heap[r]? := ho.block r h.lt (Ne.symm h.rq) (Ne.symm h.rq)
  obtain ⟨c0, c1, c2, _⟩ := h.cells
  exact ⟨(World.cell?_of_block (a := ⟨r, 0, none⟩) e).trans c0, (World.cell?_of_block (a := ⟨r, 1, none⟩) e).trans c1, (World.cell?_of_block (a := ⟨r, 2, none⟩) e).trans c2⟩

set_option maxHeartbeats 1600000 in
theorem rafter_ok (w : World) (r q : Nat) (tic up base : Int) (S : List En) (last : Int) (h : Rk w r q tic up base S last) (d arg : Int) (h0 : 0 ≤ d) (h1 : d ≤ 2147483647)
    (hu : up ≤ 4611686018427387904) (hl : S.length < 256) (hla : last < 4611686018427387904) (a l1 : Int) (ha : up + d + tic = a) (hl1 : last + 1 = l1) :
    Calls Try.prog 14 #[.pointer (some ⟨r, 0, none⟩), .int .i64 d, .int .i64 arg] w fun e w' => e = .returned (.tuple #[.int .i64 l1, .int .i64 0]) ∧ Rk w' r q tic up base (ins (a, l1, arg) S) l1 ∧ Only r q w w' := by
  have bt := h.bt
  have bu := h.bu
  obtain ⟨c0, c1, c2, c3⟩ := h.cells
  have e0 : IntKind.u64.wrap tic = tic := by rw [IntKind.wrap_u64]; omega
  have e1 : IntKind.u64.wrap (up + d) = up + d := by rw [IntKind.wrap_u64]; omega
  have e2 : IntKind.u64.wrap (up + d + tic) = a := by rw [IntKind.wrap_u64]; omega
  have HR := Lib.hid (rrel_any d w d 0 (rl_ok h0 h1).2 (rl_ok h0 h1).1)
  have HI := Lib.hid (rinsert_ok w.drew q S last h.drew.rf hl hla a arg l1 hl1)
  have HK := Lib.hid h
  clear h h0 h1 bt bu hu hl hla ha hl1
  go_enter Try.func14, Try.ntmps14
  go_wp2_with fail
  refine HR.out.mono ?_
  rintro e w1 ⟨rfl, rfl⟩
  go_wp2
  go_region_held3 (fun W => W.cell? ⟨r, 0, none⟩ = some (.pointer (some ⟨q, 0, none⟩)) ∧ W.cell? ⟨r, 1, none⟩ = some (.int .i64 tic) ∧ W.cell? ⟨r, 2, none⟩ = some (.int .u64 up))
    (first | exact ⟨c0, c1, c2⟩ | exact k2.out | assumption)
    (first | (go_at_call 32; refine HI.out.mono ?_; rintro e w2 ⟨rfl, hr2, ho2⟩; have k2 := Lib.hid (rkeep3 HK.out ho2)))
  go_wp2
  go_ret2
  have ho : Only q q w w2 := ⟨ho2.os, ho2.tape, ho2.output, ho2.size, ho2.block⟩
  exact ⟨rfl, HK.out.rf_to ho hr2, ho.r_of⟩
end Go.Proofs.Ytpnhpgdidineaaa
