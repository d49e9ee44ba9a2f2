/- Contracts of the document's data queue: Drop, Change, New; IDs; got. -/
import Derived.Test.YtnbepahanhcmeaaRfD
namespace Go.Proofs.Ytnbepahanhcmeaa
open Go.RowKit
set_option maxRecDepth 100000

set_option maxHeartbeats 1600000 in
theorem rdrop_any (B m p r : Nat) (u : Value) (t t' : St) (id : Int) (k : Bool) (w : World) (h : Rf w B m p r u t) (hf : Fine t) (hs : drop t id = (t', k)) :
    Calls Try.prog 24 #[.pointer (some ⟨m, 0, none⟩), .int .i64 id] w fun e w' => e = .returned (.bool k) ∧ Rf w' B m p r u t' ∧ Et m p r u u w w' := by
  have c0 := h.d.c0
  have HA := Lib.hid (rremove_any p t.b t.S w h.s hf.s.len id)
  have H := Lib.hid h
  unfold drop at hs
  by_cases c : pos t.S id < t.S.length
  · rw [if_pos c] at hs
    injection hs with h1 h2
    subst h2
    have H1 := Lib.hid h1
    rw [decide_eq_true c] at HA
    clear h hf h1 c
    go_enter Try.func24, Try.ntmps24
    go_wp2_with fail
    refine HA.out.mono ?_
    rintro en w1 ⟨rfl, hl1, ho⟩
    have HQ := Lib.hid (H.out.sq ho hl1)
    have HE := Lib.hid (Et.of_only (m := m) (r := r) (u := u) ho (.inr (.inl rfl)))
    clear hl1 ho HA H c0
    go_wp2
    go_ret
    rw [← H1.out]
    exact ⟨rfl, HQ.out, HE.out⟩
  · rw [if_neg c] at hs
    injection hs with h1 h2
    have H1 := Lib.hid h1
    have H2 := Lib.hid h2
    rw [decide_eq_false c, List.eraseIdx_of_length_le (by omega)] at HA
    have HF := Lib.hid hf
    clear h hf h1 c h2
    go_enter Try.func24, Try.ntmps24
    go_wp2_with fail
    refine HA.out.mono ?_
    rintro en w1 ⟨rfl, hl1, ho⟩
    have HQ := Lib.hid (show Rf w1 B m p r u t from H.out.sq ho hl1)
    have HE := Lib.hid (Et.of_only (m := m) (r := r) (u := u) ho (.inr (.inl rfl)))
    have HR := Lib.hid (rremove_any r false t.R w1 HQ.out.q HF.out.r.len id)
    rw [H2.out] at HR
    have c1 := HQ.out.d.c1
    clear hl1 ho HA H c0
    go_wp2_with fail
    refine HR.out.mono ?_
    rintro en w2 ⟨rfl, hl2, ho2⟩
    have HQ2 := Lib.hid (HQ.out.rq ho2 hl2)
    have HE2 := Lib.hid (HE.out.trans (Et.of_only (m := m) (p := p) (u := u) ho2 (.inr (.inr rfl))))
    clear hl2 ho2 HR HQ HE c1
    go_wp2
    go_ret
    rw [← H1.out]
    exact ⟨rfl, HQ2.out, HE2.out⟩

set_option maxHeartbeats 1600000 in
theorem rchange_any' (B m p r : Nat) (u : Value) (t t' : St) (id pri : Int) (k : Bool) (w : World) (h : Rf w B m p r u t) (hf : Fine t) (hs : change t id pri = (t', k)) :
    Calls Try.prog 26 #[.pointer (some ⟨m, 0, none⟩), .int .i64 id, .int .i64 pri] w fun e w' => e = .returned (.bool k) ∧ Rf w' B m p r u t' ∧ Et m p r u u w w' := by
  have c0 := h.d.c0
  have HA := Lib.hid (rchange_any p t.b t.S w h.s hf.s id pri)
  have H := Lib.hid h
  unfold change at hs
  by_cases c : chgOk t.S id pri = true
  · rw [if_pos c] at hs
    injection hs with h1 h2
    subst h2
    have H1 := Lib.hid h1
    rw [c] at HA
    clear h hf h1 c
    go_enter Try.func26, Try.ntmps26
    go_wp2_with fail
    refine HA.out.mono ?_
    rintro en w1 ⟨rfl, hl1, ho⟩
    have HQ := Lib.hid (H.out.sq ho hl1)
    have HE := Lib.hid (Et.of_only (m := m) (r := r) (u := u) ho (.inr (.inl rfl)))
    clear hl1 ho HA H c0
    go_wp2
    go_ret
    rw [← H1.out]
    exact ⟨rfl, HQ.out, HE.out⟩
  · rw [if_neg c] at hs
    injection hs with h1 h2
    have H1 := Lib.hid h1
    have H2 := Lib.hid h2
    have c2 : chgOk t.S id pri = false := by simpa using c
    have c3 : chgL t.b t.S id pri = t.S := by unfold chgL; unfold chgOk at c; rw [if_neg (by simpa using c)]
    rw [c2, c3] at HA
    have HF := Lib.hid hf
    clear h hf h1 c h2 c2 c3
    go_enter Try.func26, Try.ntmps26
    go_wp2_with fail
    refine HA.out.mono ?_
    rintro en w1 ⟨rfl, hl1, ho⟩
    have HQ := Lib.hid (show Rf w1 B m p r u t from H.out.sq ho hl1)
    have HE := Lib.hid (Et.of_only (m := m) (r := r) (u := u) ho (.inr (.inl rfl)))
    have HR := Lib.hid (rchange_any r false t.R w1 HQ.out.q HF.out.r id pri)
    rw [H2.out] at HR
    have c1 := HQ.out.d.c1
    clear hl1 ho HA H c0
    go_wp2_with fail
    refine HR.out.mono ?_
    rintro en w2 ⟨rfl, hl2, ho2⟩
    have HQ2 := Lib.hid (HQ.out.rq ho2 hl2)
    have HE2 := Lib.hid (HE.out.trans (Et.of_only (m := m) (p := p) (u := u) ho2 (.inr (.inr rfl))))
    clear hl2 ho2 HR HQ HE c1
    go_wp2
    go_ret
    rw [← H1.out]
    exact ⟨rfl, HQ2.out, HE2.out⟩

set_option maxHeartbeats 1600000 in
theorem ids_ok (q : Nat) (b : Bool) (L : List It) (w : World) (h : Rq w q b L) (hn : L.length ≤ 16) :
    Calls Try.prog 50 #[.pointer (some ⟨q, 0, none⟩)] w fun e w' => ∃ v', e = .returned v' ∧ Ow w' w.heap.size v' (L.map Prod.fst) ∧ Below w.heap.size w w' := by
  obtain ⟨m, hm⟩ : ∃ m, L.length = m := ⟨_, rfl⟩
  have HM := Lib.hid hm
  have HQ := Lib.hid h
  rw [hm] at hn
  clear h hm
  go_enter Try.func50, Try.ntmps50
  go_wp2
  go_loopw [4, 3] (fun i o wr => ∃ (t : Nat) (vo : Value), t ≤ m ∧ i = .int .i64 (t : Int) ∧ vo = o ∧ Ow wr w.heap.size vo ((L.take t).map Prod.fst) ∧ Below w.heap.size w wr) (fun i _ _ => m - (intOf i).toNat)
  case atStart =>
    exact ⟨0, _, Nat.zero_le _, rfl, rfl, ⟨rfl, .inl ⟨rfl, rfl⟩⟩, Below.refl _ _⟩
  case round =>
    obtain ⟨t, vo, ht, rfl, rfl, hown, hb⟩ := hrel
    have HB := Lib.hid hb
    obtain ⟨X, k, _, c1, hs, hk1, hk2, _⟩ := (HQ.out.below hb).open
    rw [HM.out] at c1 hs hk1
    by_cases hlt : t < m
    · have hlt' : (t : Int) < (m : Int) := by omega
      obtain ⟨y, hy⟩ : ∃ y, L[t]? = some y := ⟨_, List.getElem?_eq_getElem (by rw [HM.out]; exact hlt)⟩
      obtain ⟨g, oo, rfl, hgl, hcl⟩ := slo hs (by rw [HM.out]; omega)
      obtain ⟨hc1, hc2⟩ := hcl t y hy
      have HO := Lib.hid hown
      have hlen : ((L.take t).map Prod.fst).length = t := by simp; rw [HM.out]; omega
      have HL := Lib.hid hlen
      have HY := Lib.hid hy
      have HWB := Lib.hid (show Below wr.heap.size wr (wr.alloc (.cells #[.int .i64 y.1] 3)) from (Below.refl _ _).alloc (Nat.le_refl _) _)
      have src := K.sr_one K.ci wr 3 y.1
      rw [show (K.ci y.1).toArray = #[.int .i64 y.1] from rfl] at src
      have hownb := K.own_below HO.out HWB.out
      unfold Ow at hownb
      rw [hlen] at hownb
      have HBS := Lib.hid (show w.heap.size ≤ (wr.alloc (.cells #[.int .i64 y.1] 3)).heap.size by have := HB.out.size; have := HWB.out.size; omega)
      have b2 : t + 1 ≤ 100000 := by omega
      clear hcl hown hb hlen hy hgl hs
      go_wp2_with (first
        | (refine K.wpList_append_one K.ki (by decide) rfl _ _ rfl w.heap.size vo ((L.take t).map Prod.fst) y.1 t HL.out rfl hownb _ 1 rfl src b2 HBS.out ?_
           intro X7 k7 w7 hown7 hgr7 hwh7
           have HO7 := Lib.hid hown7
           have HB7 := Lib.hid (below_grown (HB.out.trans (HWB.out.mono HB.out.size)) hgr7 HBS.out (fun q hq => by obtain ⟨_, _, _, h1, _⟩ := own_blk HO.out hq; exact h1))
           clear hown7 hgr7 hwh7 hownb src hc1 hc2 c1))
      have e1 : (L.take (t + 1)).map Prod.fst = (L.take t).map Prod.fst ++ [y.1] := by rw [List.take_add_one, HY.out]; simp
      have e2 : ((L.take (t + 1)).map Prod.fst).length = t + 1 := by rw [e1, List.length_append, HL.out]; rfl
      exact ⟨⟨t + 1, _, by omega, by go_num, rfl, by unfold Ow; rw [e2, e1]; exact HO7.out, HB7.out⟩, by simp [intOf]; omega⟩
    · obtain rfl : t = m := by omega
      have HO := Lib.hid hown
      clear hown hb hs
      go_wp2
      go_ret
      refine ⟨_, rfl, ?_, HB.out⟩
      have := HO.out
      rw [List.take_of_length_le (by rw [HM.out]; exact Nat.le_refl _)] at this
      exact this

/-- the cells that the document's New builds -/
def r0 (p r : Nat) (m : Int) : Array Value := #[.pointer (some ⟨p, 0, none⟩), .pointer (some ⟨r, 0, none⟩), .int .i64 0, .int .i64 0, .int .i64 0, .int .i64 0, .int .i64 0, .int .i64 0, .int .i64 0, .int .i64 0, .int .i64 0, .int .i64 0, .int .i64 0, .int .i64 0, .int .i64 0, .int .i64 0, .int .i64 0, .int .i64 0, .int .i64 0, .int .i64 m, .slice none 0 0]
theorem built90 (p r : Nat) (m : Int) : Try.prog.built 90 [(0, .pointer (some ⟨p, 0, none⟩)), (1, .pointer (some ⟨r, 0, none⟩)), (3, .int .i64 m)] = some (r0 p r m) := by kernel_rfl
theorem rz_r0 (b : Bool) (p r m : Nat) : Rz (r0 p r m) p r (.slice none 0 0) (st0 b m) := by
  refine ⟨rfl, rfl, rfl, fun i hi => ?_, rfl, rfl⟩
  match i, hi with
  | 0, _ | 1, _ | 2, _ | 3, _ | 4, _ | 5, _ | 6, _ | 7, _ | 8, _ | 9, _ | 10, _ | 11, _ | 12, _ | 13, _ | 14, _ | 15, _ | 16, _ => rfl
  | n + 17, h => omega

set_option maxHeartbeats 1600000 in
theorem rnew_bad (b : Bool) (m : Int) (hm : m < 0 ∨ 64 < m) (w : World) : Calls Try.prog 11 #[.bool b, .int .i64 m] w fun e w' => e = .returned (.tuple #[.pointer none, .int .i64 (-17)]) ∧ w = w' := by
  by_cases c : m < 0
  · have t1 : decide (m < 0) = true := by simpa using c
    clear hm
    go_enter Try.func11, Try.ntmps11
    go_wp2
    go_ret2
    exact ⟨rfl, rfl⟩
  · have t1 : decide (m < 0) = false := by simpa using c
    have t2 : decide (64 < m) = true := by simp; omega
    clear hm c
    go_enter Try.func11, Try.ntmps11
    go_wp2
    go_ret2
    exact ⟨rfl, rfl⟩

set_option maxHeartbeats 1600000 in
theorem rnew_ok (b : Bool) (m : Nat) (hm : m ≤ 64) (w : World) : Calls Try.prog 11 #[.bool b, .int .i64 (m : Int)] w fun e w' =>
    ∃ q p r : Nat, e = .returned (.tuple #[.pointer (some ⟨q, 0, none⟩), .int .i64 0]) ∧ Rf w' w.heap.size q p r (.slice none 0 0) (st0 b m) ∧ Below w.heap.size w w' := by
  have t2 : decide (64 < (m : Int)) = false := by simp; omega
  have t3 : decide (64 < m) = false := by simp; omega
  have t1 : decide ((m : Int) < 0) = false := by simp
  have hf := built90 w.heap.size (w.heap.size + 1) (m : Int)
  obtain ⟨C, hC⟩ : ∃ C, r0 w.heap.size (w.heap.size + 1) (m : Int) = C := ⟨_, rfl⟩
  rw [hC] at hf
  have HC := Lib.hid hC
  clear hm hC
  go_enter Try.func11, Try.ntmps11
  go_wp2_with (first | (refine wpList_buildTo rfl 90 _ rfl _ rfl C (Eq.trans (b := Try.prog.built 90 [(0, .pointer (some ⟨w.heap.size, 0, none⟩)), (1, .pointer (some ⟨w.heap.size + 1, 0, none⟩)), (3, .int .i64 (m : Int))]) (by kernel_rfl) hf) ?_))
  go_ret2
  obtain ⟨A, hA⟩ : ∃ A, Obj.cells #[Value.bool b, Value.slice none 0 0] 88 = A := ⟨_, rfl⟩
  obtain ⟨E, hE⟩ : ∃ E, Obj.cells #[Value.bool false, Value.slice none 0 0] 88 = E := ⟨_, rfl⟩
  rw [hA, hE]
  have e1 : (w.alloc A).heap.size = w.heap.size + 1 := size_alloc w A
  have e2 : ((w.alloc A).alloc E).heap.size = w.heap.size + 1 + 1 := by rw [size_alloc, e1]
  have hbl : Below w.heap.size w (((w.alloc A).alloc E).alloc (.cells C 90)) := (((Below.refl _ _).alloc (Nat.le_refl _) A).alloc (by rw [e1]; omega) E).alloc (by rw [e2]; omega) _
  have q2 : (((w.alloc A).alloc E).alloc (.cells C 90)).heap[w.heap.size + 1 + 1]? = some (.cells C 90 (0, 0)) := by rw [← e2]; exact heap_alloc_new _ _
  have q1 : (((w.alloc A).alloc E).alloc (.cells C 90)).heap[w.heap.size + 1]? = some E := by
    rw [Below.heap_alloc _ _ _ (by rw [e2]; omega), ← e1]; exact heap_alloc_new _ _
  have q0 : (((w.alloc A).alloc E).alloc (.cells C 90)).heap[w.heap.size]? = some A := by
    rw [Below.heap_alloc _ _ _ (by rw [e2]; omega), Below.heap_alloc _ _ _ (by rw [e1]; omega)]; exact heap_alloc_new _ _
  refine ⟨w.heap.size + 1 + 1, w.heap.size, w.heap.size + 1, rfl, ⟨⟨C, q2, by rw [← HC.out]; exact rz_r0 b _ _ m⟩, ⟨none, 0, by rw [q0, ← hA]; rfl, .inl ⟨rfl, rfl⟩, Nat.le_refl _, by omega⟩, ⟨none, 0, by rw [q1, ← hE]; rfl, .inl ⟨rfl, rfl⟩, Nat.le_refl _, by omega⟩, ⟨rfl, .inl ⟨rfl, rfl⟩⟩, by omega, by omega, Nat.le_refl _, by omega⟩, hbl⟩

set_option maxHeartbeats 1600000 in
theorem got_ok (d c : Int) (k : Bool) (w : World) : Calls Try.prog 20 #[.agg #[.int .i64 d, .bool k, .int .i64 c], .agg #[.int .i64 d, .bool k, .int .i64 c]] w fun e w' => e = .returned (.bool true) ∧ Below w.heap.size w w' := by
  have t1 : (d == d) = true := by simp
  have t2 : (k == k) = true := by simp
  have t3 : (c == c) = true := by simp
  go_enter Try.func20, Try.ntmps20
  go_wp2
  go_ret
  exact ⟨rfl, ((Below.refl _ _).alloc (Nat.le_refl _) _).alloc (by rw [size_alloc]; omega) _⟩
end Go.Proofs.Ytnbepahanhcmeaa
