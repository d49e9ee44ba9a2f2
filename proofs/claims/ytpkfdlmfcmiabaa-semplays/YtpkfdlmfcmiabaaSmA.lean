/- A semaphore in memory (package sem): its queue, its count; and what each method makes of it. -/
import Derived.Test.YtpkfdlmfcmiabaaConL
namespace Go.Proofs.Ytpkfdlmfcmiabaa
open Go.RowKit

/-- Only blocks s and p may have turned, and new ones may have come. -/
structure On2 (s p : Nat) (w w' : World) : Prop where
  os : w'.os = w.os
  tape : w'.tape = w.tape
  output : w'.output = w.output
  size : w.heap.size ≤ w'.heap.size
  block : ∀ k, k < w.heap.size → k ≠ s → k ≠ p → w'.heap[k]? = w.heap[k]?

theorem On2.refl (s p : Nat) (w : World) : On2 s p w w := ⟨rfl, rfl, rfl, Nat.le_refl _, fun _ _ _ _ => rfl⟩
theorem On2.trans {s p : Nat} {a b c : World} (h : On2 s p a b) (k : On2 s p b c) : On2 s p a c :=
  ⟨k.os.trans h.os, k.tape.trans h.tape, k.output.trans h.output, Nat.le_trans h.size k.size,
   fun i hi h1 h2 => (k.block i (Nat.lt_of_lt_of_le hi h.size) h1 h2).trans (h.block i hi h1 h2)⟩
theorem On2.alloc {s p : Nat} {a w : World} (h : On2 s p a w) (o : Obj) : On2 s p a (w.alloc o) :=
  h.trans ⟨rfl, rfl, rfl, by simp, fun k hk _ _ => Below.heap_alloc _ _ _ hk⟩
theorem On2.drew {s p : Nat} {a w : World} (h : On2 s p a w) : On2 s p a w.drew := ⟨h.os, h.tape, h.output, h.size, h.block⟩
theorem On2.drewN {s p : Nat} {a w : World} (h : On2 s p a w) (n : Nat) : On2 s p a (w.drewN n) := ⟨h.os, h.tape, h.output, h.size, h.block⟩
theorem On2.setCell {s p : Nat} {a w : World} (h : On2 s p a w) {q : Addr} (hq : q.block = s ∨ q.block = p ∨ a.heap.size ≤ q.block) (u : Value) : On2 s p a (w.setCell q u) :=
  ⟨h.os, h.tape, h.output, by simpa [World.setCell] using h.size, fun k hk h1 h2 => (Below.heap_setCell _ _ _ _ (by omega)).trans (h.block k hk h1 h2)⟩
theorem On2.below {s p B : Nat} {w w' : World} (h : On2 s p w w') (h0 : B ≤ w.heap.size) (h1 : B ≤ s) (h2 : B ≤ p) : Below B w w' :=
  ⟨h.os, h.tape, h.output, h.size, fun k hk => h.block k (by omega) (by omega) (by omega)⟩
theorem On2.of_below {s p : Nat} {w w' : World} (h : Below w.heap.size w w') : On2 s p w w' :=
  ⟨h.os, h.tape, h.output, h.size, fun k hk _ _ => h.block k hk⟩
theorem On2.one {s p : Nat} {w w' : World} (h : Only p w w') : On2 s p w w' :=
  ⟨h.os, h.tape, h.output, h.size, fun k hk _ h2 => h.block k hk h2⟩
theorem On2.cell {s p : Nat} {w w' : World} (h : On2 s p w w') {q : Addr} (hq : q.block < w.heap.size) (h1 : q.block ≠ s) (h2 : q.block ≠ p) : w'.cell? q = w.cell? q :=
  World.cell?_of_block (w := w) (h.block q.block hq h1 h2)

/-- a semaphore in block s (type T: 44 the program's, 54 the document's): its queue's block p, Count c, Most m -/
def Sm (w : World) (s : Nat) (T : TypeId) (p : Nat) (c m : Int) : Prop := w.heap[s]? = some (.cells #[.pointer (some ⟨p, 0, none⟩), .int .i64 c, .int .i64 m] T (0, 0))
theorem Sm.lt {w : World} {s p : Nat} {T : TypeId} {c m : Int} (h : Sm w s T p c m) : s < w.heap.size := lt_of_heap h
theorem Sm.c0 {w : World} {s p : Nat} {T : TypeId} {c m : Int} (h : Sm w s T p c m) : w.cell? ⟨s, 0, none⟩ = some (.pointer (some ⟨p, 0, none⟩)) := by rw [cell_of_row w s 0 _ T (0, 0) h]; rfl
theorem Sm.c1 {w : World} {s p : Nat} {T : TypeId} {c m : Int} (h : Sm w s T p c m) : w.cell? ⟨s, 1, none⟩ = some (.int .i64 c) := by rw [cell_of_row w s 1 _ T (0, 0) h]; rfl
theorem Sm.c2 {w : World} {s p : Nat} {T : TypeId} {c m : Int} (h : Sm w s T p c m) : w.cell? ⟨s, 2, none⟩ = some (.int .i64 m) := by rw [cell_of_row w s 2 _ T (0, 0) h]; rfl
theorem Sm.fz {w : World} {s p : Nat} {T : TypeId} {c m : Int} (h : Sm w s T p c m) (i : Nat) : w.frozen? ⟨s, i, none⟩ = false := frozen_of_row w s i _ T h
theorem Sm.keep {w w' : World} {s p : Nat} {T : TypeId} {c m : Int} (h : Sm w s T p c m) (k : w'.heap[s]? = w.heap[s]?) : Sm w' s T p c m := k.trans h
theorem Sm.below {w w' : World} {s p : Nat} {T : TypeId} {c m : Int} (h : Sm w s T p c m) (k : Below w.heap.size w w') : Sm w' s T p c m := h.keep (k.block s h.lt)
theorem Sm.only {w w' : World} {s p q : Nat} {T : TypeId} {c m : Int} (h : Sm w s T p c m) (k : Only q w w') (h1 : s ≠ q) : Sm w' s T p c m := h.keep (k.block s h.lt h1)
theorem Sm.alloc {w : World} {s p : Nat} {T : TypeId} {c m : Int} (h : Sm w s T p c m) (o : Obj) : Sm (w.alloc o) s T p c m := h.keep (Below.heap_alloc w o s h.lt)
theorem Sm.setC {w : World} {s p : Nat} {T : TypeId} {c m : Int} (h : Sm w s T p c m) (x : Int) : Sm (w.setCell ⟨s, 1, none⟩ (.int .i64 x)) s T p x m := heap_setCell_same w s 1 #[.pointer (some ⟨p, 0, none⟩), .int .i64 c, .int .i64 m] T _ h
theorem Sm.ne {w : World} {s p : Nat} {T U : TypeId} {c m : Int} {b : Bool} {L : List It} (h : Sm w s T p c m) {q : Nat} (k : Ln w q U b L) (hT : T ≠ U) : s ≠ q := by
  rintro rfl; exact k.type hT _ _ h
theorem Sm.diff {w : World} {s p s' p' : Nat} {T U : TypeId} {c m c' m' : Int} (h : Sm w s T p c m) (k : Sm w s' U p' c' m') (hT : T ≠ U) : s ≠ s' := by
  rintro rfl; unfold Sm at h k; rw [h] at k; injection k with k; injection k with _ k2; exact hT k2

/-- what a semaphore is, by itself -/
structure St where
  b : Bool
  L : List It
  c : Int
  m : Int
structure Fine (S : St) : Prop where
  q : Good S.b S.L
  lo : 0 ≤ S.c
  hi : S.c ≤ S.m
  top : S.m ≤ 65535
  one : 1 ≤ S.m
  nobody : 0 < S.c → S.L = []

/-- Signal: what becomes of it, who is told, the code -/
def sig (S : St) : St × Int × Int :=
  match S.L with
  | x :: L => (⟨S.b, L, S.c, S.m⟩, x.1, 0)
  | [] => if S.m ≤ S.c then (S, 0, -43) else (⟨S.b, [], S.c + 1, S.m⟩, 0, 0)
def poll (S : St) : St × Bool := if 0 < S.c then (⟨S.b, S.L, S.c - 1, S.m⟩, true) else (S, false)
def wait (S : St) (id pri : Int) : St × Bool × Int := if 0 < S.c then (⟨S.b, S.L, S.c - 1, S.m⟩, true, 0) else (⟨S.b, addL S.b S.L id pri, S.c, S.m⟩, false, addC S.L id pri)
def rem (S : St) (id : Int) : St := ⟨S.b, S.L.eraseIdx (pos S.L id), S.c, S.m⟩
def chg (S : St) (id pri : Int) : St := ⟨S.b, chgL S.b S.L id pri, S.c, S.m⟩

theorem Fine.sig {S S' : St} {t k : Int} (h : Fine S) (e : sig S = (S', t, k)) : Fine S' := by
  obtain ⟨b, L, c, m⟩ := S
  obtain ⟨h1, h2, h3, h4, h5, h6⟩ := h
  simp only at h1 h2 h3 h4 h5 h6
  unfold Ytpkfdlmfcmiabaa.sig at e
  cases L with
  | cons x L =>
    simp only [Prod.mk.injEq] at e
    obtain ⟨rfl, _, _⟩ := e
    exact ⟨h1.tail 1, h2, h3, h4, h5, fun h => by simp at h6; simp only at h; omega⟩
  | nil =>
    simp only at e
    split at e
    · simp only [Prod.mk.injEq] at e
      obtain ⟨rfl, _, _⟩ := e
      exact ⟨h1, h2, h3, h4, h5, h6⟩
    · simp only [Prod.mk.injEq] at e
      obtain ⟨rfl, _, _⟩ := e
      exact ⟨h1, by simp only; omega, by simp only; omega, h4, h5, fun _ => rfl⟩
theorem Fine.poll {S S' : St} {r : Bool} (h : Fine S) (e : poll S = (S', r)) : Fine S' := by
  obtain ⟨b, L, c, m⟩ := S
  obtain ⟨h1, h2, h3, h4, h5, h6⟩ := h
  simp only at h1 h2 h3 h4 h5 h6
  unfold Ytpkfdlmfcmiabaa.poll at e
  simp only at e
  split at e <;> rename_i c0 <;> (simp only [Prod.mk.injEq] at e; obtain ⟨rfl, _⟩ := e)
  · exact ⟨h1, by simp only; omega, by simp only; omega, h4, h5, fun _ => h6 c0⟩
  · exact ⟨h1, h2, h3, h4, h5, h6⟩
theorem Fine.wait {S S' : St} {id pri k : Int} {r : Bool} (h : Fine S) (e : wait S id pri = (S', r, k)) : Fine S' := by
  obtain ⟨b, L, c, m⟩ := S
  obtain ⟨h1, h2, h3, h4, h5, h6⟩ := h
  simp only at h1 h2 h3 h4 h5 h6
  unfold Ytpkfdlmfcmiabaa.wait at e
  simp only at e
  split at e <;> rename_i c0 <;> (simp only [Prod.mk.injEq] at e; obtain ⟨rfl, _, _⟩ := e)
  · exact ⟨h1, by simp only; omega, by simp only; omega, h4, h5, fun _ => h6 c0⟩
  · exact ⟨h1.addL id pri, h2, h3, h4, h5, fun h => absurd h c0⟩
theorem Fine.rem {S : St} (h : Fine S) (id : Int) : Fine (rem S id) :=
  ⟨h.q.erase _, h.lo, h.hi, h.top, h.one, fun k => by show S.L.eraseIdx _ = []; rw [h.nobody k]; rfl⟩
theorem Fine.chg {S : St} (h : Fine S) (id pri : Int) : Fine (chg S id pri) :=
  ⟨h.q.chgL id pri, h.lo, h.hi, h.top, h.one, fun k => by
    have := chgL_len (b := S.b) (L := S.L) id pri
    rw [h.nobody k] at this
    exact List.eq_nil_of_length_eq_zero (by show (chgL S.b S.L id pri).length = 0; rw [h.nobody k]; exact this)⟩

/-- the program's semaphore -/
def Sq (w : World) (s p : Nat) (S : St) : Prop := Sm w s 44 p S.c S.m ∧ Ln w p 51 S.b S.L
theorem Sq.below {w w' : World} {s p : Nat} {S : St} (h : Sq w s p S) (k : Below w.heap.size w w') : Sq w' s p S := ⟨h.1.below k, h.2.below k⟩
theorem Sq.drew {w : World} {s p : Nat} {S : St} (h : Sq w s p S) : Sq w.drew s p S := h
theorem Sq.alloc {w : World} {s p : Nat} {S : St} (h : Sq w s p S) (o : Obj) : Sq (w.alloc o) s p S := ⟨h.1.alloc o, h.2.alloc o⟩
theorem Sq.ne {w : World} {s p : Nat} {S : St} (h : Sq w s p S) : s ≠ p := h.1.ne h.2 (by decide)

set_option maxHeartbeats 400000 in
theorem ensure_ok (s p : Nat) (S : St) (w : World) (h : Sq w s p S) : Calls Try.prog 25 #[.pointer (some ⟨s, 0, none⟩)] w fun e w' => e = .returned (.tuple #[]) ∧ w = w' := by
  have h0 := h.1.c0
  go_enter Try.func25, Try.ntmps25
  go_wp2
  go_end0
  exact ⟨rfl, rfl⟩

set_option maxHeartbeats 800000 in
theorem poll_any (s p : Nat) (S S' : St) (r : Bool) (w : World) (h : Sq w s p S) (hf : Fine S) (hs : poll S = (S', r)) :
    Calls Try.prog 14 #[.pointer (some ⟨s, 0, none⟩)] w fun e w' => e = .returned (.bool r) ∧ Sq w' s p S' ∧ On2 s p w w' := by
  obtain ⟨b, L, c, m⟩ := S
  obtain ⟨h1, h2⟩ := h
  have hlo := hf.lo
  have hhi := hf.hi
  have htop := hf.top
  simp only at h1 h2 hlo hhi htop
  have hsp : s ≠ p := h1.ne h2 (by decide)
  unfold poll at hs
  simp only at hs
  have d1 := h1.c1
  by_cases c0 : 0 < c
  · rw [if_pos c0] at hs
    simp only [Prod.mk.injEq] at hs
    obtain ⟨rfl, rfl⟩ := hs
    have t1 : decide (c ≤ 0) = false := by simpa using c0
    have z1 := h1.fz 1
    have e1 : IntKind.i64.wrap (c - 1) = c - 1 := IntWalk.i64_in _ (by omega)
    have HS := Lib.hid (h1.setC (c - 1))
    have HL := Lib.hid (h2.keep (w' := w.setCell ⟨s, 1, none⟩ (.int .i64 (c - 1))) (Below.heap_setCell _ _ _ _ (Ne.symm hsp)))
    have HO := Lib.hid ((On2.refl s p w).setCell (q := ⟨s, 1, none⟩) (.inl rfl) (.int .i64 (c - 1)))
    clear h1 h2 hf
    go_enter Try.func14, Try.ntmps14
    go_wp2
    go_ret
    exact ⟨rfl, ⟨HS.out, HL.out⟩, HO.out⟩
  · rw [if_neg c0] at hs
    simp only [Prod.mk.injEq] at hs
    obtain ⟨rfl, rfl⟩ := hs
    go_enter Try.func14, Try.ntmps14
    go_wp2
    go_ret
    exact ⟨rfl, ⟨h1, h2⟩, On2.refl _ _ _⟩

set_option maxHeartbeats 800000 in
theorem wait_any (s p : Nat) (S S' : St) (id pri : Int) (r : Bool) (k : Int) (w : World) (h : Sq w s p S) (hf : Fine S) (hs : wait S id pri = (S', r, k)) :
    Calls Try.prog 12 #[.pointer (some ⟨s, 0, none⟩), .int .i64 id, .int .i64 pri] w fun e w' => e = .returned (.tuple #[.bool r, .int .i64 k]) ∧ Sq w' s p S' ∧ On2 s p w w' := by
  obtain ⟨b, L, c, m⟩ := S
  unfold wait at hs
  simp only at hs
  by_cases c0 : 0 < c
  · rw [if_pos c0] at hs
    simp only [Prod.mk.injEq] at hs
    obtain ⟨rfl, rfl, rfl⟩ := hs
    have HP := Lib.hid (poll_any s p ⟨b, L, c, m⟩ ⟨b, L, c - 1, m⟩ true w h hf (by unfold poll; rw [if_pos c0]))
    clear h hf c0
    go_enter Try.func12, Try.ntmps12
    go_wp2_with fail
    refine HP.out.mono ?_
    rintro e w1 ⟨rfl, h1, ho⟩
    go_wp2
    go_ret2
    exact ⟨rfl, h1, ho⟩
  · rw [if_neg c0] at hs
    simp only [Prod.mk.injEq] at hs
    obtain ⟨rfl, rfl, rfl⟩ := hs
    have HP := Lib.hid (poll_any s p ⟨b, L, c, m⟩ ⟨b, L, c, m⟩ false w h hf (by unfold poll; rw [if_neg c0]))
    have HG := Lib.hid hf.q
    clear h hf c0
    go_enter Try.func12, Try.ntmps12
    go_wp2_with fail
    refine HP.out.mono ?_
    rintro e w1 ⟨rfl, h1, ho⟩
    clear HP
    go_wp2_with fail
    refine (ensure_ok s p _ w1 h1).mono ?_
    rintro e w2 ⟨rfl, rfl⟩
    have hsp := h1.ne
    obtain ⟨h1, h2⟩ := h1
    simp only at h1 h2
    have d0 := h1.c0
    go_wp2_with fail
    refine (add_any p b L w1 h2 HG.out id pri).mono ?_
    rintro e w3 ⟨rfl, hl3, ho3⟩
    have h3 := h1.only ho3 hsp
    have ho' := ho.trans (On2.one (s := s) ho3)
    clear h1 h2 d0 ho ho3
    go_wp2
    go_ret2
    exact ⟨rfl, ⟨h3, hl3⟩, ho'⟩
end Go.Proofs.Ytpkfdlmfcmiabaa
