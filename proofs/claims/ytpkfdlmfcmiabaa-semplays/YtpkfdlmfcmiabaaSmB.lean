/- Contracts of package sem: Signal, NewSem, Apart. -/
import Derived.Test.YtpkfdlmfcmiabaaSmA
import Derived.Deep.RegionHeld3
namespace Go.Proofs.Ytpkfdlmfcmiabaa
open Go.RowKit

set_option maxHeartbeats 1600000 in
theorem signal_any (s p : Nat) (S S' : St) (t k : Int) (w : World) (h : Sq w s p S) (hf : Fine S) (hs : sig S = (S', t, k)) :
    Calls Try.prog 10 #[.pointer (some ⟨s, 0, none⟩)] w fun e w' => e = .returned (.tuple #[.int .i64 t, .int .i64 k]) ∧ Sq w' s p S' ∧ On2 s p w w' := by
  obtain ⟨b, L, c, m⟩ := S
  have HE := Lib.hid (ensure_ok s p _ w h)
  have hsp := h.ne
  obtain ⟨h1, h2⟩ := h
  have hhi := hf.hi
  have htop := hf.top
  have hlo := hf.lo
  have hlen := hf.q.len
  clear hf
  simp only at h1 h2 hhi htop hlo hlen
  have d0 := h1.c0
  unfold sig at hs
  cases L with
  | cons x L =>
    simp only [Prod.mk.injEq] at hs
    obtain ⟨rfl, rfl, rfl⟩ := hs
    have HT := Lib.hid (take_some p b x L w h2 hlen)
    clear hlen
    go_enter Try.func10, Try.ntmps10
    go_wp2_with fail
    refine HE.out.mono ?_
    rintro e w1 ⟨rfl, rfl⟩
    go_wp2_with fail
    refine HT.out.mono ?_
    rintro e w1 ⟨rfl, hl1, ho1⟩
    have hm1 := h1.only ho1 hsp
    have hm2 := Lib.hid (hm1.alloc (.cells #[.int .i64 x.1, .int .i64 x.2] 46))
    have hl2 := Lib.hid (hl1.alloc (.cells #[.int .i64 x.1, .int .i64 x.2] 46))
    have ho2 := Lib.hid ((On2.one (s := s) ho1).alloc (.cells #[.int .i64 x.1, .int .i64 x.2] 46))
    have hx := box_new w1 46 (.int .i64 x.1) (.int .i64 x.2)
    have q0 := hx.c0
    clear h1 h2 d0 hl1 ho1 hm1 hx HT HE
    go_wp2
    go_ret2
    exact ⟨rfl, ⟨hm2.out, hl2.out⟩, ho2.out⟩
  | nil =>
    have HT := Lib.hid (take_none p b w h2)
    simp only at hs
    by_cases hc : m ≤ c
    · rw [if_pos hc] at hs
      simp only [Prod.mk.injEq] at hs
      obtain ⟨rfl, rfl, rfl⟩ := hs
      clear hlen
      go_enter Try.func10, Try.ntmps10
      go_wp2_with fail
      refine HE.out.mono ?_
      rintro e w1 ⟨rfl, rfl⟩
      go_wp2_with fail
      refine HT.out.mono ?_
      rintro e w1 ⟨rfl, hb1⟩
      have hb2 := hb1.alloc hb1.size (.cells #[.int .i64 0, .int .i64 0] 46)
      have hm2 := h1.below hb2
      have hl2 := Lib.hid (h2.below hb2)
      have ho2 := Lib.hid (On2.of_below (s := s) (p := p) hb2)
      have d1 := hm2.c1
      have d2 := hm2.c2
      have hm2 := Lib.hid hm2
      clear h1 h2 d0 hb1 hb2 HT HE
      go_wp2
      generalize w1.alloc (.cells #[.int .i64 0, .int .i64 0] 46) = w2 at *
      go_quiet (fail)
      go_wp2
      go_ret2
      exact ⟨rfl, ⟨hm2.out.keep rfl, hl2.out.drewN _⟩, ho2.out.drewN _⟩
    · rw [if_neg hc] at hs
      simp only [Prod.mk.injEq] at hs
      obtain ⟨rfl, rfl, rfl⟩ := hs
      have t1 : decide (m ≤ c) = false := by simpa using hc
      have e1 : IntKind.i64.wrap (c + 1) = c + 1 := IntWalk.i64_in _ (by omega)
      clear hlen
      go_enter Try.func10, Try.ntmps10
      go_wp2_with fail
      refine HE.out.mono ?_
      rintro e w1 ⟨rfl, rfl⟩
      go_wp2_with fail
      refine HT.out.mono ?_
      rintro e w1 ⟨rfl, hb1⟩
      have hb2 := hb1.alloc hb1.size (.cells #[.int .i64 0, .int .i64 0] 46)
      have hm2 := h1.below hb2
      have hl2 := h2.below hb2
      have ho2 := On2.of_below (s := s) (p := p) hb2
      have d1 := hm2.c1
      have d2 := hm2.c2
      clear h1 h2 d0 hb1 hb2 HT HE
      go_wp2
      generalize w1.alloc (.cells #[.int .i64 0, .int .i64 0] 46) = w2 at *
      go_quiet (fail)
      have hm3 : Sm (w2.drewN nq) s 44 p c m := hm2
      have hl3 : Ln (w2.drewN nq) p 51 b [] := hl2
      have ho3 := ho2.drewN nq
      generalize w2.drewN nq = w3 at *
      clear hm2 hl2 ho2 d1 d2
      have d1 := hm3.c1
      have z1 := hm3.fz 1
      have HS := Lib.hid (hm3.setC (c + 1))
      have HL := Lib.hid (hl3.keep (w' := w3.setCell ⟨s, 1, none⟩ (.int .i64 (c + 1))) (Below.heap_setCell _ _ _ _ (Ne.symm hsp)))
      have HO := Lib.hid (ho3.setCell (q := ⟨s, 1, none⟩) (.inl rfl) (.int .i64 (c + 1)))
      clear hm3 hl3 ho3
      go_wp2
      go_ret2
      exact ⟨rfl, ⟨HS.out, HL.out⟩, HO.out⟩

/-- what NewSem takes -/
def takes (c m : Int) : Prop := 1 ≤ m ∧ m ≤ 65535 ∧ 0 ≤ c ∧ c ≤ m

/-- a new semaphore -/
def MadeS (S : St) (w : World) (v : Value) (w' : World) : Prop :=
  ∃ s p : Nat, w.heap.size ≤ s ∧ w.heap.size ≤ p ∧ v = .pointer (some ⟨s, 0, none⟩) ∧ Sq w' s p S ∧ Below w.heap.size w w'

theorem fine_new {b : Bool} {c m : Int} (h : takes c m) : Fine ⟨b, [], c, m⟩ := ⟨good_nil b, h.2.2.1, h.2.2.2, h.2.1, h.1, fun _ => rfl⟩

set_option maxHeartbeats 800000 in
theorem newsem_ok (b : Bool) (c m : Int) (w : World) (h : takes c m) :
    Calls Try.prog 8 #[.bool b, .int .i64 c, .int .i64 m] w fun e w' => ∃ v, e = .returned (.tuple #[v, .int .i64 0]) ∧ MadeS ⟨b, [], c, m⟩ w v w' := by
  obtain ⟨a1, a2, a3, a4⟩ := h
  have t1 : decide (m < 1) = false := by simp; omega
  have t2 : decide ((65535 : Int) < m) = false := by simp; omega
  have t3 : decide (c < 0) = false := by simp; omega
  have t4 : decide (m < c) = false := by simp; omega
  have HN := Lib.hid (new_ok b w)
  go_enter Try.func8, Try.ntmps8
  go_wp2_with fail
  refine HN.out.mono ?_
  rintro e w1 ⟨p, hp, rfl, hl1, hb1⟩
  have hl2 := Lib.hid (hl1.alloc (.cells #[.pointer (some ⟨p, 0, none⟩), .int .i64 c, .int .i64 m] 44))
  have hb2 := Lib.hid (hb1.alloc hb1.size (.cells #[.pointer (some ⟨p, 0, none⟩), .int .i64 c, .int .i64 m] 44))
  have hs := Lib.hid (show Sm (w1.alloc (.cells #[.pointer (some ⟨p, 0, none⟩), .int .i64 c, .int .i64 m] 44)) w1.heap.size 44 p c m from heap_alloc_new w1 _)
  have hsz := hb1.size
  clear hl1 hb1 HN
  go_wp2
  go_ret2
  exact ⟨_, rfl, w1.heap.size, p, hsz, hp, rfl, ⟨hs.out, hl2.out⟩, hb2.out⟩

set_option maxHeartbeats 800000 in
theorem newsem_bad (b : Bool) (c m : Int) (w : World) (h : ¬ takes c m) :
    Calls Try.prog 8 #[.bool b, .int .i64 c, .int .i64 m] w fun e w' => e = .returned (.tuple #[.pointer none, .int .i64 (-17)]) ∧ w = w' := by
  unfold takes at h
  by_cases a1 : m < 1
  · have t1 : decide (m < 1) = true := by simpa using a1
    clear h
    go_enter Try.func8, Try.ntmps8
    go_wp2
    go_ret2
    exact ⟨rfl, rfl⟩
  have t1 : decide (m < 1) = false := by simp; omega
  by_cases a2 : 65535 < m
  · have t2 : decide ((65535 : Int) < m) = true := by simpa using a2
    clear h
    go_enter Try.func8, Try.ntmps8
    go_wp2
    go_ret2
    exact ⟨rfl, rfl⟩
  have t2 : decide ((65535 : Int) < m) = false := by simp; omega
  by_cases a3 : c < 0
  · have t3 : decide (c < 0) = true := by simpa using a3
    clear h
    go_enter Try.func8, Try.ntmps8
    go_wp2
    go_ret2
    exact ⟨rfl, rfl⟩
  have t3 : decide (c < 0) = false := by simp; omega
  have a4 : m < c := by omega
  have t4 : decide (m < c) = true := by simpa using a4
  clear h
  go_enter Try.func8, Try.ntmps8
  go_wp2
  go_ret2
  exact ⟨rfl, rfl⟩

/-- the three cells of a semaphore -/
def Cel (s p : Nat) (c m : Int) (W : World) : Prop := W.cell? ⟨s, 0, none⟩ = some (.pointer (some ⟨p, 0, none⟩)) ∧ W.cell? ⟨s, 1, none⟩ = some (.int .i64 c) ∧ W.cell? ⟨s, 2, none⟩ = some (.int .i64 m)
theorem cel_below {s p : Nat} {c m : Int} {W W' : World} (hb : Below W.heap.size W W') (h : W.cell? ⟨s, 0, none⟩ = some (.pointer (some ⟨p, 0, none⟩)) ∧ W.cell? ⟨s, 1, none⟩ = some (.int .i64 c) ∧ W.cell? ⟨s, 2, none⟩ = some (.int .i64 m)) :
    W'.cell? ⟨s, 0, none⟩ = some (.pointer (some ⟨p, 0, none⟩)) ∧ W'.cell? ⟨s, 1, none⟩ = some (.int .i64 c) ∧ W'.cell? ⟨s, 2, none⟩ = some (.int .i64 m) :=
  ⟨(hb.cell (p := ⟨s, 0, none⟩) (block_lt_of_cell h.1)).trans h.1, (hb.cell (p := ⟨s, 1, none⟩) (block_lt_of_cell h.2.1)).trans h.2.1, (hb.cell (p := ⟨s, 2, none⟩) (block_lt_of_cell h.2.2)).trans h.2.2⟩

set_option maxHeartbeats 1600000 in
theorem apart_ok (s p : Nat) (S : St) (w : World) (h : Sq w s p S) :
    Calls Try.prog 20 #[.pointer (some ⟨s, 0, none⟩)] w fun e w' => ∃ v, e = .returned v ∧ MadeS S w v w' := by
  obtain ⟨b, L, c, m⟩ := S
  have HE := Lib.hid (ensure_ok s p _ w h)
  obtain ⟨h1, h2⟩ := h
  simp only at h1 h2
  have d0 := h1.c0
  have d1 := h1.c1
  have d2 := h1.c2
  clear h1
  go_enter Try.func20, Try.ntmps20
  go_wp2_with fail
  refine HE.out.mono ?_
  rintro e w1 ⟨rfl, rfl⟩
  clear HE
  go_wp2_with fail
  have hbd : Below w.heap.size w w.drew := (Below.refl _ _).drew
  have hsz : w.drew.heap.size = w.heap.size := rfl
  go_region_held3 (fun W => W.cell? ⟨s, 0, none⟩ = some (.pointer (some ⟨p, 0, none⟩)) ∧ W.cell? ⟨s, 1, none⟩ = some (.int .i64 c) ∧ W.cell? ⟨s, 2, none⟩ = some (.int .i64 m))
    (first | exact ⟨d0, d1, d2⟩ | exact cel_below ((Below.refl _ _).alloc (Nat.le_refl _) _) (by assumption) | exact cel_below hb5 (by assumption) | assumption)
    (first
      | (go_at_call 37; refine (twin_ok p b L _ (by exact h2)).mono ?_; rintro e w5 ⟨p', hp', rfl, hl5, hb5⟩))
  go_wp2
  go_ret
  have hb6 : Below w.heap.size w w5 := ⟨hb5.os, hb5.tape, hb5.output, hb5.size, hb5.block⟩
  exact ⟨_, rfl, w5.heap.size, p', hb6.size, hp', rfl, ⟨heap_alloc_new w5 _, hl5.alloc _⟩, hb6.alloc hb6.size _⟩
end Go.Proofs.Ytpkfdlmfcmiabaa
