/- The document's semaphore (detentref11) in memory: what each of its functions makes of it: the same as the program's. -/
import Derived.Test.YtpkfdlmfcmiabaaRefD
import Derived.Test.YtpkfdlmfcmiabaaSmK
namespace Go.Proofs.Ytpkfdlmfcmiabaa
open Go.RowKit

/-- the document's semaphore -/
def Rs (w : World) (s q : Nat) (S : St) : Prop := Sm w s 54 q S.c S.m ∧ Rq w q S.b S.L
theorem Rs.below {w w' : World} {s q : Nat} {S : St} (h : Rs w s q S) (k : Below w.heap.size w w') : Rs w' s q S := ⟨h.1.below k, h.2.below k⟩
theorem Rs.ne {w : World} {s q : Nat} {S : St} (h : Rs w s q S) : s ≠ q := by rintro rfl; exact h.2.type (e := 54) (by decide) _ _ h.1
theorem Rq.ofkeep {w w' : World} {q : Nat} {b : Bool} {L : List It} (h : Rq w q b L) {s : Nat} (ht : ∀ cs fr, w.heap[s]? ≠ some (.cells cs 70 fr)) (hs : q ≠ s) (k : Only s w w') : Rq w' q b L := by
  obtain ⟨X, c, h1, h2, h3⟩ := h
  exact ⟨X, c, (k.block q (lt_of_heap h1) hs).trans h1, h2.only k ht, h3⟩
theorem Sm.type {w : World} {s p : Nat} {T : TypeId} {c m : Int} (h : Sm w s T p c m) {e : TypeId} (he : e ≠ T) : ∀ cs fr, w.heap[s]? ≠ some (.cells cs e fr) := by
  intro cs2 fr h2
  unfold Sm at h
  rw [h] at h2; injection h2 with h2; injection h2 with _ h3; exact he h3.symm
/-- the program's turns leave the document's alone -/
theorem Rs.keep {w w' : World} {s q s' p' : Nat} {S S' : St} (h : Rs w s q S) (g : Sq w s' p' S') (k : On2 s' p' w w') : Rs w' s q S := by
  obtain ⟨h1, h2⟩ := h
  have d1 : s ≠ s' := h1.diff g.1 (by decide)
  have d2 : s ≠ p' := h1.ne g.2 (by decide)
  refine ⟨h1.keep (k.block s h1.lt d1 d2), ?_⟩
  obtain ⟨X, c, h3, h4, h5⟩ := h2
  refine ⟨X, c, (k.block q (lt_of_heap h3) ?_ ?_).trans h3, h4.keep fun b cs hb => k.block b (lt_of_heap hb) ?_ ?_, h5⟩
  · rintro rfl; exact g.1.type (e := 67) (by decide) _ _ h3
  · rintro rfl; exact g.2.type (e := 67) (by decide) _ _ h3
  · rintro rfl; exact g.1.type (e := 70) (by decide) _ _ hb
  · rintro rfl; exact g.2.type (e := 70) (by decide) _ _ hb
/-- the document's turns leave the program's alone -/
theorem Sq.keep {w w' : World} {s q s' p' : Nat} {S S' : St} (g : Sq w s' p' S') (h : Rs w s q S) (k : On2 s q w w') : Sq w' s' p' S' := by
  obtain ⟨h1, h2⟩ := h
  obtain ⟨g1, g2⟩ := g
  have d1 : s' ≠ s := g1.diff h1 (by decide)
  have d2 : s ≠ p' := h1.ne g2 (by decide)
  refine ⟨g1.keep (k.block s' g1.lt d1 ?_), g2.keep (k.block p' g2.lt (Ne.symm d2) ?_)⟩
  · rintro rfl; exact h2.type (e := 44) (by decide) _ _ g1
  · rintro rfl; obtain ⟨f, ⟨cs, hh, _⟩, _⟩ := g2; exact h2.type (e := 51) (by decide) _ _ hh

theorem Rq.setSem {w : World} {s q p : Nat} {c m : Int} {b : Bool} {L : List It} (h : Rq w q b L) (hs : Sm w s 54 p c m) (i : Nat) (u : Value) : Rq (w.setCell ⟨s, i, none⟩ u) q b L :=
  h.ofkeep (hs.type (e := 70) (by decide)) (by rintro rfl; exact h.type (e := 54) (by decide) _ _ hs) ((Only.refl s w).setCell (q := ⟨s, i, none⟩) (.inl rfl) u)

set_option maxHeartbeats 800000 in
theorem rpoll_any (s q : Nat) (S S' : St) (r : Bool) (w : World) (h : Rs w s q S) (hf : Fine S) (hs : poll S = (S', r)) :
    Calls Try.prog 15 #[.pointer (some ⟨s, 0, none⟩)] w fun e w' => e = .returned (.bool r) ∧ Rs w' s q S' ∧ On2 s q w w' := by
  obtain ⟨b, L, c, m⟩ := S
  obtain ⟨h1, h2⟩ := h
  have hlo := hf.lo
  have hhi := hf.hi
  have htop := hf.top
  simp only at h1 h2 hlo hhi htop
  unfold poll at hs
  simp only at hs
  have d1 := h1.c1
  by_cases c0 : 0 < c
  · rw [if_pos c0] at hs
    simp only [Prod.mk.injEq] at hs
    obtain ⟨rfl, rfl⟩ := hs
    have t1 : (c == 0) = false := by simp; omega
    have z1 := h1.fz 1
    have e1 : IntKind.i64.wrap (c - 1) = c - 1 := IntWalk.i64_in _ (by omega)
    have HS := Lib.hid (h1.setC (c - 1))
    have HL := Lib.hid (h2.setSem h1 1 (.int .i64 (c - 1)))
    have HO := Lib.hid ((On2.refl s q w).setCell (q := ⟨s, 1, none⟩) (.inl rfl) (.int .i64 (c - 1)))
    clear h1 h2 hf
    go_enter Try.func15, Try.ntmps15
    go_wp2
    go_ret
    exact ⟨rfl, ⟨HS.out, HL.out⟩, HO.out⟩
  · rw [if_neg c0] at hs
    simp only [Prod.mk.injEq] at hs
    obtain ⟨rfl, rfl⟩ := hs
    obtain rfl : c = 0 := by omega
    go_enter Try.func15, Try.ntmps15
    go_wp2
    go_ret
    exact ⟨rfl, ⟨h1, h2⟩, On2.refl _ _ _⟩

set_option maxHeartbeats 800000 in
theorem rwait_any (s q : Nat) (S S' : St) (id pri : Int) (r : Bool) (k : Int) (w : World) (h : Rs w s q S) (hf : Fine S) (hs : wait S id pri = (S', r, k)) :
    Calls Try.prog 13 #[.pointer (some ⟨s, 0, none⟩), .int .i64 id, .int .i64 pri] w fun e w' => e = .returned (.tuple #[.bool r, .int .i64 k]) ∧ Rs w' s q S' ∧ On2 s q w w' := by
  obtain ⟨b, L, c, m⟩ := S
  unfold wait at hs
  simp only at hs
  by_cases c0 : 0 < c
  · rw [if_pos c0] at hs
    simp only [Prod.mk.injEq] at hs
    obtain ⟨rfl, rfl, rfl⟩ := hs
    have HP := Lib.hid (rpoll_any s q ⟨b, L, c, m⟩ ⟨b, L, c - 1, m⟩ true w h hf (by unfold poll; rw [if_pos c0]))
    clear h hf c0
    go_enter Try.func13, Try.ntmps13
    go_wp2_with fail
    refine HP.out.mono ?_
    rintro e w1 ⟨rfl, h1, ho⟩
    go_wp2
    go_ret2
    exact ⟨rfl, h1, ho⟩
  · rw [if_neg c0] at hs
    simp only [Prod.mk.injEq] at hs
    obtain ⟨rfl, rfl, rfl⟩ := hs
    have HP := Lib.hid (rpoll_any s q ⟨b, L, c, m⟩ ⟨b, L, c, m⟩ false w h hf (by unfold poll; rw [if_neg c0]))
    have HG := Lib.hid hf.q
    clear h hf c0
    go_enter Try.func13, Try.ntmps13
    go_wp2_with fail
    refine HP.out.mono ?_
    rintro e w1 ⟨rfl, h1, ho⟩
    clear HP
    have hsp := h1.ne
    obtain ⟨h1, h2⟩ := h1
    simp only at h1 h2
    have d0 := h1.c0
    go_wp2_with fail
    refine (radd_any q b L w1 h2 HG.out id pri).mono ?_
    rintro e w3 ⟨rfl, hl3, ho3⟩
    have h3 := h1.only ho3 hsp
    have ho' := ho.trans (On2.one (s := s) ho3)
    clear h1 h2 d0 ho ho3
    go_wp2
    go_ret2
    exact ⟨rfl, ⟨h3, hl3⟩, ho'⟩

set_option maxHeartbeats 1600000 in
theorem rsignal_any (s q : Nat) (S S' : St) (t k : Int) (w : World) (h : Rs w s q S) (hf : Fine S) (hs : sig S = (S', t, k)) :
    Calls Try.prog 11 #[.pointer (some ⟨s, 0, none⟩)] w fun e w' => e = .returned (.tuple #[.int .i64 t, .int .i64 k]) ∧ Rs w' s q S' ∧ On2 s q w w' := by
  obtain ⟨b, L, c, m⟩ := S
  have hsp := h.ne
  obtain ⟨h1, h2⟩ := h
  have hhi := hf.hi
  have htop := hf.top
  have hlo := hf.lo
  have hlen := hf.q.len
  clear hf
  simp only at h1 h2 hhi htop hlo hlen
  have d0 := h1.c0
  unfold sig at hs
  cases L with
  | cons x L =>
    simp only [Prod.mk.injEq] at hs
    obtain ⟨rfl, rfl, rfl⟩ := hs
    have HT := Lib.hid (rtake_some q b x L w h2 hlen)
    clear hlen
    go_enter Try.func11, Try.ntmps11
    go_wp2_with fail
    refine HT.out.mono ?_
    rintro e w1 ⟨rfl, hl1, ho1⟩
    have hbb : Below w1.heap.size w1 (w1.alloc (.cells #[.int .i64 x.1, .int .i64 x.2] 70)) := (Below.refl _ _).alloc (Nat.le_refl _) _
    have hm1 := h1.only ho1 hsp
    have hm2 := Lib.hid (hm1.alloc (.cells #[.int .i64 x.1, .int .i64 x.2] 70))
    have hl2 := Lib.hid (hl1.below hbb)
    have ho2 := Lib.hid ((On2.one (s := s) ho1).alloc (.cells #[.int .i64 x.1, .int .i64 x.2] 70))
    have hx := box_new w1 70 (.int .i64 x.1) (.int .i64 x.2)
    have q0 := hx.c0
    clear h1 h2 d0 hl1 ho1 hm1 hx HT hbb
    go_wp2
    go_ret2
    exact ⟨rfl, ⟨hm2.out, hl2.out⟩, ho2.out⟩
  | nil =>
    have HT := Lib.hid (rtake_none q b w h2)
    simp only at hs
    by_cases hc : m ≤ c
    · rw [if_pos hc] at hs
      simp only [Prod.mk.injEq] at hs
      obtain ⟨rfl, rfl, rfl⟩ := hs
      clear hlen
      go_enter Try.func11, Try.ntmps11
      go_wp2_with fail
      refine HT.out.mono ?_
      rintro e w1 ⟨rfl, hb1⟩
      have hb2 := hb1.alloc hb1.size (.cells #[.int .i64 0, .int .i64 0] 70)
      have hm2 := h1.below hb2
      have hl2 := Lib.hid (h2.below hb2)
      have ho2 := Lib.hid (On2.of_below (s := s) (p := q) hb2)
      have d1 := hm2.c1
      have d2 := hm2.c2
      have hm2 := Lib.hid hm2
      clear h1 h2 d0 hb1 hb2 HT
      go_wp2
      generalize w1.alloc (.cells #[.int .i64 0, .int .i64 0] 70) = w2 at *
      go_quiet (fail)
      go_wp2
      go_ret2
      exact ⟨rfl, ⟨hm2.out.keep rfl, hl2.out.drewN _⟩, ho2.out.drewN _⟩
    · rw [if_neg hc] at hs
      simp only [Prod.mk.injEq] at hs
      obtain ⟨rfl, rfl, rfl⟩ := hs
      have t1 : decide (m ≤ c) = false := by simpa using hc
      have e1 : IntKind.i64.wrap (c + 1) = c + 1 := IntWalk.i64_in _ (by omega)
      clear hlen
      go_enter Try.func11, Try.ntmps11
      go_wp2_with fail
      refine HT.out.mono ?_
      rintro e w1 ⟨rfl, hb1⟩
      have hb2 := hb1.alloc hb1.size (.cells #[.int .i64 0, .int .i64 0] 70)
      have hm2 := h1.below hb2
      have hl2 := h2.below hb2
      have ho2 := On2.of_below (s := s) (p := q) hb2
      have d1 := hm2.c1
      have d2 := hm2.c2
      clear h1 h2 d0 hb1 hb2 HT
      go_wp2
      generalize w1.alloc (.cells #[.int .i64 0, .int .i64 0] 70) = w2 at *
      go_quiet (fail)
      have hm3 : Sm (w2.drewN nq) s 54 q c m := hm2
      have hl3 : Rq (w2.drewN nq) q b [] := hl2
      have ho3 := ho2.drewN nq
      generalize w2.drewN nq = w3 at *
      clear hm2 hl2 ho2 d1 d2
      have d1 := hm3.c1
      have z1 := hm3.fz 1
      have HS := Lib.hid (hm3.setC (c + 1))
      have HL := Lib.hid (hl3.setSem hm3 1 (.int .i64 (c + 1)))
      have HO := Lib.hid (ho3.setCell (q := ⟨s, 1, none⟩) (.inl rfl) (.int .i64 (c + 1)))
      clear hm3 hl3 ho3
      go_wp2
      go_ret2
      exact ⟨rfl, ⟨HS.out, HL.out⟩, HO.out⟩

/-- a new one of the document's -/
def MadeR (S : St) (w : World) (v : Value) (w' : World) : Prop :=
  ∃ s q : Nat, w.heap.size ≤ s ∧ w.heap.size ≤ q ∧ v = .pointer (some ⟨s, 0, none⟩) ∧ Rs w' s q S ∧ Below w.heap.size w w'

set_option maxHeartbeats 800000 in
theorem rnew_ok (b : Bool) (c m : Int) (w : World) (h : takes c m) :
    Calls Try.prog 9 #[.bool b, .int .i64 c, .int .i64 m] w fun e w' => ∃ v, e = .returned (.tuple #[v, .int .i64 0]) ∧ MadeR ⟨b, [], c, m⟩ w v w' := by
  obtain ⟨a1, a2, a3, a4⟩ := h
  have t1 : decide (m < 1) = false := by simp; omega
  have t2 : decide ((65535 : Int) < m) = false := by simp; omega
  have t3 : decide (c < 0) = false := by simp; omega
  have t4 : decide (m < c) = false := by simp; omega
  have hr1 : Rq (w.alloc (.cells #[.bool b, .slice none 0 0] 67)) w.heap.size b [] := ⟨none, 0, heap_alloc_new _ _, .inl ⟨rfl, rfl⟩, Nat.le_refl _, by omega⟩
  have hb1 : Below w.heap.size w (w.alloc (.cells #[.bool b, .slice none 0 0] 67)) := (Below.refl _ _).alloc (Nat.le_refl _) _
  have hsz := hb1.size
  obtain ⟨w1, hw1⟩ : ∃ w1, w.alloc (.cells #[.bool b, .slice none 0 0] 67) = w1 := ⟨_, rfl⟩
  rw [hw1] at hr1 hb1 hsz
  have hl2 := Lib.hid (hr1.below ((Below.refl _ _).alloc (Nat.le_refl _) (.cells #[.pointer (some ⟨w.heap.size, 0, none⟩), .int .i64 c, .int .i64 m] 54)))
  have hb2 := Lib.hid (hb1.alloc hb1.size (.cells #[.pointer (some ⟨w.heap.size, 0, none⟩), .int .i64 c, .int .i64 m] 54))
  have hs := Lib.hid (show Sm (w1.alloc (.cells #[.pointer (some ⟨w.heap.size, 0, none⟩), .int .i64 c, .int .i64 m] 54)) w1.heap.size 54 w.heap.size c m from heap_alloc_new w1 _)
  clear hr1 hb1
  go_enter Try.func9, Try.ntmps9
  go_wp2
  go_ret2
  subst hw1
  exact ⟨_, rfl, _, w.heap.size, hsz, Nat.le_refl _, rfl, ⟨hs.out, hl2.out⟩, hb2.out⟩

set_option maxHeartbeats 800000 in
theorem rnew_bad (b : Bool) (c m : Int) (w : World) (h : ¬ takes c m) :
    Calls Try.prog 9 #[.bool b, .int .i64 c, .int .i64 m] w fun e w' => e = .returned (.tuple #[.pointer none, .int .i64 (-17)]) ∧ w = w' := by
  unfold takes at h
  by_cases a1 : m < 1
  · have t1 : decide (m < 1) = true := by simpa using a1
    clear h
    go_enter Try.func9, Try.ntmps9
    go_wp2
    go_ret2
    exact ⟨rfl, rfl⟩
  have t1 : decide (m < 1) = false := by simp; omega
  by_cases a2 : 65535 < m
  · have t2 : decide ((65535 : Int) < m) = true := by simpa using a2
    clear h
    go_enter Try.func9, Try.ntmps9
    go_wp2
    go_ret2
    exact ⟨rfl, rfl⟩
  have t2 : decide ((65535 : Int) < m) = false := by simp; omega
  by_cases a3 : c < 0
  · have t3 : decide (c < 0) = true := by simpa using a3
    clear h
    go_enter Try.func9, Try.ntmps9
    go_wp2
    go_ret2
    exact ⟨rfl, rfl⟩
  have t3 : decide (c < 0) = false := by simp; omega
  have a4 : m < c := by omega
  have t4 : decide (m < c) = true := by simpa using a4
  clear h
  go_enter Try.func9, Try.ntmps9
  go_wp2
  go_ret2
  exact ⟨rfl, rfl⟩
end Go.Proofs.Ytpkfdlmfcmiabaa
