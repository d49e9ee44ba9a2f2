/- The document's mailbox (detentref14): its block, its queue, its messages' row; New, Poll, Recv. -/
import Derived.Test.YtapogohekfeiiaaRefC
import Derived.Test.YtapogohekfeiiaaMsA
import Derived.Test.YtapogohekfeiiaaMxS
namespace Go.Proofs.Ytapogohekfeiiaa
open Go.RowKit
set_option maxRecDepth 100000

/-- Only blocks m and r may have turned, and new ones may have come. -/
structure On2 (m r : Nat) (w w' : World) : Prop where
  os : w'.os = w.os
  tape : w'.tape = w.tape
  output : w'.output = w.output
  size : w.heap.size ≤ w'.heap.size
  block : ∀ k, k < w.heap.size → k ≠ m → k ≠ r → w'.heap[k]? = w.heap[k]?
theorem On2.refl (m r : Nat) (w : World) : On2 m r w w := ⟨rfl, rfl, rfl, Nat.le_refl _, fun _ _ _ _ => rfl⟩
theorem On2.trans {m r : Nat} {a b c : World} (h : On2 m r a b) (k : On2 m r b c) : On2 m r a c :=
  ⟨k.os.trans h.os, k.tape.trans h.tape, k.output.trans h.output, Nat.le_trans h.size k.size,
   fun i hi h1 h2 => (k.block i (Nat.lt_of_lt_of_le hi h.size) h1 h2).trans (h.block i hi h1 h2)⟩
theorem On2.of_below {m r : Nat} {w w' : World} (h : Below w.heap.size w w') : On2 m r w w' := ⟨h.os, h.tape, h.output, h.size, fun k hk _ _ => h.block k hk⟩
theorem On2.at_m {m r : Nat} {w w' : World} (h : Only m w w') : On2 m r w w' := ⟨h.os, h.tape, h.output, h.size, fun k hk h1 _ => h.block k hk h1⟩
theorem On2.at_r {m r : Nat} {w w' : World} (h : Only r w w') : On2 m r w w' := ⟨h.os, h.tape, h.output, h.size, fun k hk _ h1 => h.block k hk h1⟩
theorem On2.alloc {m r : Nat} {a w : World} (h : On2 m r a w) (o : Obj) : On2 m r a (w.alloc o) := h.trans (.of_below ((Below.refl _ _).alloc (Nat.le_refl _) o))
theorem On2.below {m r B : Nat} {w w' : World} (h : On2 m r w w') (h0 : B ≤ w.heap.size) (h1 : B ≤ m) (h2 : B ≤ r) : Below B w w' :=
  ⟨h.os, h.tape, h.output, h.size, fun k hk => h.block k (by omega) (by omega) (by omega)⟩

theorem htype {w : World} {g : Nat} {a b : Array Value} {s t : TypeId} {fr fs : Nat × Nat} (h : w.heap[g]? = some (.cells a s fr)) (k : w.heap[g]? = some (.cells b t fs)) : s = t := by
  rw [h] at k; injection k with k; injection k

/-- the document's mailbox in block m, its queue in r -/
def Rb (w : World) (m r : Nat) (S : St) : Prop :=
  ∃ (X : Option Addr) (k : Nat), w.heap[m]? = some (.cells #[.pointer (some ⟨r, 0, none⟩), .bool S.mp, .int .i64 S.m, .slice X S.M.length k] 59 (0, 0)) ∧ Sl w 64 (.slice X S.M.length k) S.M ∧ S.M.length ≤ k ∧ k ≤ 9223372036854775807 ∧ Rq w r S.b S.L
theorem Rb.q {w : World} {m r : Nat} {S : St} (h : Rb w m r S) : Rq w r S.b S.L := by obtain ⟨X, k, _, _, _, _, h⟩ := h; exact h
theorem Rb.lt {w : World} {m r : Nat} {S : St} (h : Rb w m r S) : m < w.heap.size := by obtain ⟨X, k, h, _⟩ := h; exact lt_of_heap h
theorem Rb.type {w : World} {m r : Nat} {S : St} (h : Rb w m r S) {e : TypeId} (he : e ≠ 59) : ∀ cs fr, w.heap[m]? ≠ some (.cells cs e fr) := by
  obtain ⟨X, k, h1, _⟩ := h
  intro cs fr h2
  exact he (htype h1 h2).symm
theorem Rb.ne {w : World} {m r : Nat} {S : St} (h : Rb w m r S) : m ≠ r := by
  rintro rfl
  obtain ⟨X, k, h1, _⟩ := h.q
  exact h.type (e := 77) (by decide) _ _ h1
theorem Rq.keepB {w w' : World} {q : Nat} {b : Bool} {L : List It} (h : Rq w q b L) (k : ∀ (g : Nat) (cs : Array Value) (e : TypeId), w.heap[g]? = some (.cells cs e (0, 0)) → e = 77 ∨ e = 81 → w'.heap[g]? = w.heap[g]?) : Rq w' q b L := by
  obtain ⟨X, c, h1, h2, h3⟩ := h
  exact ⟨X, c, (k q _ _ h1 (.inl rfl)).trans h1, h2.keep fun g cs hg => k g cs _ hg (.inr rfl), h3⟩
theorem Rb.keepB {w w' : World} {m r : Nat} {S : St} (h : Rb w m r S) (k : ∀ (g : Nat) (cs : Array Value) (e : TypeId), w.heap[g]? = some (.cells cs e (0, 0)) → e = 59 ∨ e = 64 ∨ e = 77 ∨ e = 81 → w'.heap[g]? = w.heap[g]?) : Rb w' m r S := by
  obtain ⟨X, c, h1, h2, h3, h4, h5⟩ := h
  exact ⟨X, c, (k m _ _ h1 (.inl rfl)).trans h1, h2.keep fun g cs hg => k g cs _ hg (.inr (.inl rfl)), h3, h4, h5.keepB fun g cs e hg he => k g cs e hg (.inr (.inr he))⟩
theorem Rb.below {w w' : World} {m r : Nat} {S : St} (h : Rb w m r S) (k : Below w.heap.size w w') : Rb w' m r S := h.keepB fun g _ _ hg _ => k.block g (lt_of_heap hg)
theorem Rb.open {w : World} {m r : Nat} {S : St} (h : Rb w m r S) : ∃ (X : Option Addr) (k : Nat), w.cell? ⟨m, 0, none⟩ = some (.pointer (some ⟨r, 0, none⟩)) ∧ w.cell? ⟨m, 1, none⟩ = some (.bool S.mp) ∧ w.cell? ⟨m, 2, none⟩ = some (.int .i64 S.m) ∧
    w.cell? ⟨m, 3, none⟩ = some (.slice X S.M.length k) ∧ Sl w 64 (.slice X S.M.length k) S.M ∧ S.M.length ≤ k ∧ k ≤ 9223372036854775807 ∧ w.frozen? ⟨m, 3, none⟩ = false := by
  obtain ⟨X, k, h1, h2, h3, h4, _⟩ := h
  exact ⟨X, k, by rw [cell_of_row w m 0 _ 59 (0, 0) h1]; rfl, by rw [cell_of_row w m 1 _ 59 (0, 0) h1]; rfl, by rw [cell_of_row w m 2 _ 59 (0, 0) h1]; rfl, by rw [cell_of_row w m 3 _ 59 (0, 0) h1]; rfl, h2, h3, h4, frozen_of_row w m 3 _ 59 h1⟩
/-- another row of messages is laid into it -/
theorem Rb.set {w : World} {m r : Nat} {S : St} (h : Rb w m r S) {M : List It} (X : Option Addr) (n k : Nat) (hn : M.length = n) (hs : Sl w 64 (.slice X n k) M) (h1 : n ≤ k) (h2 : k ≤ 9223372036854775807) : Rb (w.setCell ⟨m, 3, none⟩ (.slice X n k)) m r { S with M := M } := by
  subst hn
  have hm := h.type (e := 64) (by decide)
  have h77 := h.type (e := 77) (by decide)
  have h81 := h.type (e := 81) (by decide)
  obtain ⟨X0, c, h3, _, _, _, hq⟩ := h
  exact ⟨X, k, heap_setCell_same w m 3 _ 59 _ h3, hs.keep fun g cs hg => Below.heap_setCell w ⟨m, 3, none⟩ _ g (by rintro rfl; exact hm _ _ hg), h1, h2,
    hq.keepB fun g cs e hg he => Below.heap_setCell w ⟨m, 3, none⟩ _ g (by rintro rfl; rcases he with rfl | rfl; exact h77 _ _ hg; exact h81 _ _ hg)⟩
/-- the queue alone turned -/
theorem Rb.turn {w w' : World} {m r : Nat} {S : St} {L : List It} (h : Rb w m r S) (k : Only r w w') (hq : Rq w' r S.b L) : Rb w' m r { S with L := L } := by
  have hne := h.ne
  have ht := h.q.type (e := 64) (by decide)
  obtain ⟨X, c, h1, h2, h3, h4, _⟩ := h
  exact ⟨X, c, (k.block m (lt_of_heap h1) hne).trans h1, h2.keep fun g cs hg => k.block g (lt_of_heap hg) (by rintro rfl; exact ht _ _ hg), h3, h4, hq⟩

set_option maxHeartbeats 800000 in
theorem rnew_bad (b mp : Bool) (m : Int) (hm : m < 1 ∨ 255 < m) (w : World) : Calls Try.prog 9 #[.bool b, .bool mp, .int .i64 m] w fun e w' => e = .returned (.tuple #[.pointer none, .int .i64 (-17)]) ∧ w = w' := by
  by_cases c : m < 1
  · have t1 : decide (m < 1) = true := by simpa using c
    clear hm
    go_enter Try.func9, Try.ntmps9
    go_wp2
    go_ret2
    exact ⟨rfl, rfl⟩
  · have t1 : decide (m < 1) = false := by simpa using c
    have t2 : decide (255 < m) = true := by simp; omega
    clear hm c
    go_enter Try.func9, Try.ntmps9
    go_wp2
    go_ret2
    exact ⟨rfl, rfl⟩
set_option maxHeartbeats 800000 in
theorem rnew_ok (b mp : Bool) (m : Int) (h1 : 1 ≤ m) (h2 : m ≤ 255) (w : World) : Calls Try.prog 9 #[.bool b, .bool mp, .int .i64 m] w fun e w' =>
    ∃ q r : Nat, e = .returned (.tuple #[.pointer (some ⟨q, 0, none⟩), .int .i64 0]) ∧ Rb w' q r ⟨b, [], mp, m, []⟩ ∧ w.heap.size ≤ q ∧ w.heap.size ≤ r ∧ Below w.heap.size w w' := by
  have t1 : decide (m < 1) = false := by simp; omega
  have t2 : decide ((255 : Int) < m) = false := by simp; omega
  clear h1 h2
  go_enter Try.func9, Try.ntmps9
  go_wp2
  go_ret2
  have hb : Below w.heap.size w (w.alloc (.cells #[.bool b, .slice none 0 0] 77)) := (Below.refl _ _).alloc (Nat.le_refl _) _
  have hs := size_alloc w (.cells #[.bool b, .slice none 0 0] 77)
  have hq : Rq (w.alloc (.cells #[.bool b, .slice none 0 0] 77)) w.heap.size b [] := ⟨none, 0, heap_alloc_new w _, .inl ⟨rfl, rfl⟩, Nat.le_refl _, by omega⟩
  refine ⟨w.heap.size + 1, w.heap.size, rfl, ⟨none, 0, ?_, .inl ⟨rfl, rfl⟩, Nat.le_refl _, by omega, hq.below ((Below.refl _ _).alloc (Nat.le_refl _) _)⟩, by omega, Nat.le_refl _, hb.alloc (by omega) _⟩
  rw [← hs]; exact heap_alloc_new _ _

theorem mown0 {B : Nat} (W : World) (hB : B ≤ W.heap.size) : (W.alloc (.cells #[] 64)).ownsRow B 64 2 (.slice (some ⟨W.heap.size, 0, none⟩) 0 0) 0 (Mg.vals []) :=
  World.ownsRow_lit W #[] 0 hB (by unfold maxLen; omega) rfl
theorem mown_form {w : World} {B n : Nat} {v : Value} {xs : List Value} (h : w.ownsRow B 64 2 v n xs) : ∃ X k, v = .slice X n k ∧ n ≤ k ∧ k ≤ 9223372036854775807 := Mg.own_form h

set_option maxHeartbeats 1600000 in
theorem rpoll_any (m r : Nat) (S S' : St) (v : Int) (o : Bool) (w : World) (h : Rb w m r S) (hn : S.M.length ≤ 1000) (hs : poll S = (S', v, o)) :
    Calls Try.prog 15 #[.pointer (some ⟨m, 0, none⟩)] w fun e w' => e = .returned (.tuple #[.int .i64 v, .bool o]) ∧ Rb w' m r S' ∧ Only m w w' := by
  obtain ⟨b, L, mp, mo, M⟩ := S
  obtain ⟨X, k, c0, c1, c2, c3, hsl, hk1, hk2, hz⟩ := h.open
  simp only at c0 c1 c2 c3 hsl hk1 hn
  unfold poll at hs
  cases M with
  | nil =>
    simp only [Prod.mk.injEq] at hs
    obtain ⟨rfl, rfl, rfl⟩ := hs
    have HX := Lib.hid h
    simp only [List.length_nil] at c3
    clear hsl h
    go_enter Try.func15, Try.ntmps15
    go_wp2
    go_ret2
    exact ⟨rfl, HX.out, Only.refl _ _⟩
  | cons x M =>
    simp only [Prod.mk.injEq] at hs
    obtain ⟨rfl, rfl, rfl⟩ := hs
    obtain ⟨g, o, rfl, hcl⟩ := sl_open hsl (by simp)
    have e0 := (hcl 0 x rfl).1
    simp only [Nat.zero_mul, Nat.add_zero] at e0
    have hcut : Sl w 64 (.slice (some ⟨g, o, none⟩) ([x] ++ M).length k) ([x] ++ M) := hsl
    obtain ⟨_, X2, _, k2, _, hB, _, hs2⟩ := Mg.Sl.cut hcut hk1
    have cB := fun W => hB W 1 rfl
    have hlen : (x :: M).length = M.length + 1 := rfl
    have hlen2 : ([x] ++ M).length = M.length + 1 := rfl
    rw [hlen] at c3 hk1 hn
    rw [hlen2] at cB
    obtain ⟨n, hnn⟩ : ∃ n, M.length = n := ⟨_, rfl⟩
    rw [hnn] at c3 hk1 hn cB
    have HNN := Lib.hid hnn
    have b1 : 0 + n ≤ 100000 := by omega
    obtain ⟨N, hN⟩ : ∃ N, n + 1 = N := ⟨_, rfl⟩
    rw [hN] at c3 hk1 hn cB
    have i0 : (0 : Int) < (N : Int) := by omega
    have i1 : ((N : Int) == 0) = false := by simp; omega
    have i2 : ¬ N = 0 := by omega
    have HH := Lib.hid h
    have how := mown0 w (Nat.le_refl w.heap.size)
    have hbc := (Below.refl w.heap.size w).alloc (Nat.le_refl _) (.cells #[] 64)
    have hs3 := hs2.below ((Below.refl w.heap.size w).alloc (Nat.le_refl _) (.cells #[] 64))
    have c3b := (hbc.cell (p := ⟨m, 3, none⟩) h.lt).trans c3
    obtain ⟨B, hBB⟩ : ∃ B, w.heap.size = B := ⟨_, rfl⟩
    obtain ⟨wc, hWC⟩ : ∃ wc, w.alloc (.cells #[] 64) = wc := ⟨_, rfl⟩
    rw [hBB, hWC] at how hbc
    rw [hWC] at hs3 c3b
    have hBc : B ≤ wc.heap.size := by rw [← hWC, size_alloc, hBB]; omega
    have HBC := Lib.hid hBc
    have HLT := Lib.hid h.lt
    clear hsl hcut hB hcl hnn hlen hlen2 h c0 c1 c2 hs2 hBc
    go_enter Try.func15, Try.ntmps15
    go_wp2_with (at_builtin; refine Mg.wpList_append_row rfl _ _ rfl B (.slice (some ⟨B, 0, none⟩) 0 0) [] M 0 rfl rfl how X2 n k2 rfl HNN.out hs3 b1 HBC.out n (Nat.zero_add _) ?_; intro Y4 j4 w4 hown4 hgrow4; have hb4 : Below B w w4 := hbc.grown hgrow4 HBC.out (fun k hk => (how.lt k hk).1); have HB4 := Lib.hid (show Below w.heap.size w w4 by rw [hBB]; exact hb4); have HT4 := Lib.hid (HH.out.below HB4.out); obtain ⟨X5, k5, _, _, _, hc5, _, _, _, hz5⟩ := HT4.out.open; simp only at hc5)
    go_ret2
    obtain ⟨X6, k6, e6, h61, h62⟩ := mown_form hown4
    injection e6 with e6 _ e7
    subst e6 e7
    have hown5 : w4.ownsRow B 64 2 (.slice Y4 n j4) n (Mg.vals M) := by simpa using hown4
    exact ⟨rfl, HT4.out.set Y4 n j4 HNN.out (Mg.Sl.own HNN.out hown5) h61 h62, (Only.of_below HB4.out).setCell (q := ⟨m, 3, none⟩) (.inl rfl) _⟩

set_option maxHeartbeats 1600000 in
theorem rrecv_any (m r : Nat) (S S' : St) (id pri v k : Int) (o : Bool) (w : World) (h : Rb w m r S) (hf : Fine S) (hn : S.M.length ≤ 1000) (hs : recv S id pri = (S', v, o, k)) :
    Calls Try.prog 13 #[.pointer (some ⟨m, 0, none⟩), .int .i64 id, .int .i64 pri] w fun e w' => e = .returned (.tuple #[.int .i64 v, .bool o, .int .i64 k]) ∧ Rb w' m r S' ∧ On2 m r w w' := by
  obtain ⟨b, L, mp, mo, M⟩ := S
  unfold recv at hs
  cases M with
  | cons x M =>
    simp only [Prod.mk.injEq] at hs
    obtain ⟨rfl, rfl, rfl, rfl⟩ := hs
    have HP := Lib.hid (rpoll_any m r ⟨b, L, mp, mo, x :: M⟩ _ _ _ w h hn rfl)
    clear h hf hn
    go_enter Try.func13, Try.ntmps13
    go_wp2_with fail
    refine HP.out.mono ?_
    rintro e w1 ⟨rfl, h1, ho⟩
    have H1 := Lib.hid h1
    have HO := Lib.hid ho
    clear h1 ho
    go_wp2
    go_ret3
    exact ⟨rfl, H1.out, .at_m HO.out⟩
  | nil =>
    simp only [Prod.mk.injEq] at hs
    obtain ⟨rfl, rfl, rfl, rfl⟩ := hs
    have HP := Lib.hid (rpoll_any m r ⟨b, L, mp, mo, []⟩ _ _ _ w h hn rfl)
    have HG := Lib.hid hf.q
    clear h hf hn
    go_enter Try.func13, Try.ntmps13
    go_wp2_with fail
    refine HP.out.mono ?_
    rintro e w1 ⟨rfl, h1, ho⟩
    clear HP
    have HX := Lib.hid h1
    have HO := Lib.hid ho
    obtain ⟨X, c, d0, _⟩ := h1.open
    clear h1 ho
    go_wp2_with fail
    refine (radd_any r b L w1 HX.out.q HG.out id pri).mono ?_
    rintro e w3 ⟨rfl, hl3, ho3⟩
    have HX3 := Lib.hid (HX.out.turn ho3 hl3)
    have HO3 := Lib.hid ((On2.at_m (r := r) HO.out).trans (.at_r ho3))
    clear hl3 ho3 d0
    go_wp2
    go_ret3
    exact ⟨rfl, HX3.out, HO3.out⟩
end Go.Proofs.Ytapogohekfeiiaa
