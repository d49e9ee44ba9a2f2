/- Contracts of package heap: add. -/
import Derived.Test.YtpnhpgdidineaaaConC
namespace Go.Proofs.Ytpnhpgdidineaaa
open Go.RowKit

/-- Only blocks from B on of timers and of rows of entries may have turned, and new ones may have come. -/
structure Fr (B : Nat) (w w' : World) : Prop where
  os : w'.os = w.os
  tape : w'.tape = w.tape
  output : w'.output = w.output
  size : w.heap.size ≤ w'.heap.size
  block : ∀ k, k < w.heap.size → (k < B ∨ ∀ cs fr, w.heap[k]? ≠ some (.cells cs 77 fr) ∧ w.heap[k]? ≠ some (.cells cs 80 fr)) → w'.heap[k]? = w.heap[k]?
theorem Fr.refl (B : Nat) (w : World) : Fr B w w := ⟨rfl, rfl, rfl, Nat.le_refl _, fun _ _ _ => rfl⟩
theorem Fr.trans {B : Nat} {a b c : World} (h : Fr B a b) (k : Fr B b c) : Fr B a c :=
  ⟨k.os.trans h.os, k.tape.trans h.tape, k.output.trans h.output, Nat.le_trans h.size k.size,
   fun i hi h1 => by
    have e := h.block i hi h1
    exact (k.block i (Nat.lt_of_lt_of_le hi h.size) (by rw [e]; exact h1)).trans e⟩
theorem Fr.of_below {B : Nat} {w w' : World} (h : Below w.heap.size w w') : Fr B w w' := ⟨h.os, h.tape, h.output, h.size, fun k hk _ => h.block k hk⟩
theorem Fr.below {B : Nat} {w w' : World} (h : Fr B w w') (hB : B ≤ w.heap.size) : Below B w w' := ⟨h.os, h.tape, h.output, h.size, fun k hk => h.block k (by omega) (.inl hk)⟩
theorem Fr.of_only {B p g : Nat} {w w' : World} (h : Only p g w w') (hp : B ≤ p) (hg : B ≤ g) (tp : ∃ cs fr e, w.heap[p]? = some (.cells cs e fr) ∧ (e = 77 ∨ e = 80)) (tg : ∃ cs fr e, w.heap[g]? = some (.cells cs e fr) ∧ (e = 77 ∨ e = 80)) : Fr B w w' := by
  refine ⟨h.os, h.tape, h.output, h.size, fun k hk hc => h.block k hk ?_ ?_⟩
  · rintro rfl
    rcases hc with hc | hc
    · omega
    · obtain ⟨cs, fr, e, h1, h2⟩ := tp
      rcases h2 with rfl | rfl
      · exact (hc cs fr).1 h1
      · exact (hc cs fr).2 h1
  · rintro rfl
    rcases hc with hc | hc
    · omega
    · obtain ⟨cs, fr, e, h1, h2⟩ := tg
      rcases h2 with rfl | rfl
      · exact (hc cs fr).1 h1
      · exact (hc cs fr).2 h1
theorem Fr.base {B B' : Nat} {w w' : World} (h : Fr B w w') (hb : B' ≤ B) : Fr B' w w' := ⟨h.os, h.tape, h.output, h.size, fun k hk hc => h.block k hk (by rcases hc with hc | hc; exact .inl (by omega); exact .inr hc)⟩

theorem own_some {w : World} {B n k : Nat} {X : Option Addr} {xs : List Value} (h : w.ownsRow B 80 3 (.slice X n k) n xs) (h0 : 0 < n) : ∃ g, X = some ⟨g, 0, none⟩ := by
  rcases h.2 with ⟨_, h1⟩ | ⟨g, cap, cur, h1, _⟩
  · omega
  · injection h1 with h1; exact ⟨g, h1⟩

/-- where an append leaves its row: where it was, or in a new block -/
theorem append_where {P : Program} {w : World} {base : Nat} {t ty e : TypeId} {i : TypeInfo} {z : Value} {size bytes : Nat} (ht : P.underlying t = some (.slice e)) (hi : P.info? e = some i) (hz : i.zero = some z)
    (hsize : i.size = size) (hby : i.bytes = bytes)
    {v : Value} {n : Nat} {xs : List Value} (hown : w.ownsRow base e size v n xs)
    {a : Addr} {m c : Nat} {news : List Value} (hl : news.length = m * size) (hnews : ∀ j u, news[j]? = some u → w.cell? (a.add j) = some u) (h1 : ∀ u ∈ news, u.oneCell' = true)
    (h63 : n + m ≤ maxLen) (hbytes : (n + m) * bytes ≤ 140737488355328) (hm : 0 < m) {v' : Value} {w' : World} (hrun : (Builtin.append_ #[t, t] ty #[v, .slice (some a) m c]).run P w = .ok v' w') :
    v'.ownBlock = v.ownBlock ∨ v'.ownBlock = some w.heap.size := by
  subst hsize
  subst hby
  have hsmall : n + m ≤ 9223372036854775807 := by simp only [maxLen] at h63; omega
  rcases hown.2 with ⟨rfl, rfl⟩ | ⟨g, cap, cur, rfl, hbg, hg, hnc, hcm, hcs, htake⟩
  · have hr := run_append_nil (P := P) w t ty e i z ht hi hz a m c news hl hnews (by omega) (by omega) (by have hb := hbytes; simp only [Nat.zero_add] at hb; omega)
    rw [hr] at hrun; injection hrun with e1 e2; subst e1; exact .inr rfl
  · by_cases hroom : n + m ≤ cap
    · have hfit : n * i.size + news.length ≤ cur.size := by rw [hl, hcs, ← Nat.add_mul]; exact Nat.mul_le_mul_right _ hroom
      have hr := run_append_room (P := P) w t ty e i ht hi g n cap cur hg a m c news hl hnews h1 hroom hfit
      rw [hr] at hrun; injection hrun with e1 e2; subst e1; exact .inl rfl
    · have holds : ∀ j u, xs[j]? = some u → w.cell? ((⟨g, 0, none⟩ : Addr).add j) = some u := hown.cells (g := g) rfl
      have hr := run_append_grow (P := P) w t ty e i z ht hi hz ⟨g, 0, none⟩ n cap xs hown.1 holds a m c news hl hnews (by omega) (by omega) (growslice_fits (by omega) hbytes)
      rw [hr] at hrun; injection hrun with e1 e2; subst e1; exact .inr rfl

theorem step_append_one {α : Type} {cc : α → List Value} {ts te : TypeId} {z : Nat} (kd : Kd α cc ts te z) (hz0 : 0 < z) {w : World} {ops : Array Oper} {o : Oper} {a : Act} {K : Act → World → Prop} {Q : Exit → Act → World → Prop} {E : Prop} (hgd : o.guard = none) (s x : Operand)
    (ho : o.op = .call { callee := .builtin .append, args := #[s, x], argTypes := #[ts, ts] })
    (base : Nat) (v : Value) (L1 : List α) (y : α) (n1 : Nat) (hn1 : L1.length = n1) (hs : a.eval s = v) (hown : w.ownsRow base te z v n1 (vals cc L1)) (X : Option Addr) (k : Nat) (hx : a.eval x = .slice X 1 k)
    (hsrc : Sr cc w X k [y]) (h63 : n1 + 1 ≤ 100000) (hbase : base ≤ w.heap.size)
    (h : ∀ X' k' w', w'.ownsRow base te z (.slice X' (n1 + 1) k') (n1 + 1) (vals cc (L1 ++ [y])) → w.grownBy w' v.ownBlock → ((Value.slice X' (n1 + 1) k').ownBlock = v.ownBlock ∨ (Value.slice X' (n1 + 1) k').ownBlock = some w.heap.size) → K (a.put o.dst (.slice X' (n1 + 1) k')) w') :
    if Region.wanted o (yielded ops a.tmps) = true then Oper.wp Try.prog o a w K Q else E := by
  have hw : Region.wanted o (yielded ops a.tmps) = true := by simp [Region.wanted, hgd]
  rw [if_pos hw]
  obtain ⟨i0, zr, b0, hi, hzr, hz1, hz2, hzs, hb0⟩ := kd.info
  subst hn1
  rcases hsrc with ⟨_, h0, _⟩ | ⟨b, off, rfl, _, hc⟩
  · cases h0
  · have hb1 : (L1.length + 1) * b0 ≤ 140737488355328 := by
      have : (L1.length + 1) * b0 ≤ 100000 * 32 := Nat.mul_le_mul h63 hb0
      omega
    have hc' : ∀ j u, (vals cc [y])[j]? = some u → w.cell? ((⟨b, off, none⟩ : Addr).add j) = some u := fun j u hu => by rw [addr_add]; exact hc j u hu
    have h1' : ∀ u ∈ vals cc [y], u.oneCell' = true := fun u hu => by
      obtain ⟨y', _, hy⟩ := List.mem_flatMap.1 hu
      exact kd.one y' u hy
    have hl' := vals_len kd.len [y]
    have hm' : L1.length + 1 ≤ maxLen := by unfold maxLen; omega
    obtain ⟨v', w', hr, h2, h3, h4⟩ := run_append_own (P := Try.prog) w base ts o.type te i0 zr z b0 kd.und hi hzr hz1 hz2 hzs hz0 v L1.length (vals cc L1) hown ⟨b, off, none⟩ 1 k (vals cc [y]) hl' hc' h1' hm' hb1 hbase
    have hwh := append_where kd.und hi hzr hz1 hz2 hown hl' hc' h1' hm' hb1 (Nat.one_pos) hr
    have h3' : w'.ownsRow base te z v' (L1.length + 1) (vals cc (L1 ++ [y])) := by rw [vals_append]; exact h2
    obtain ⟨X', k', rfl, _⟩ := own_form h3'
    unfold Oper.wp execOp
    simp only [ho, resolve, invoke, builtin, Sem.run_bind, Sem.run_pure, Result.andThen_ok, List.map_toArray, List.map_cons, List.map_nil, hs, hx, hr]
    exact h X' k' w' h3' h3 hwh

set_option maxHeartbeats 1600000 in
theorem add_any (B p g0 : Nat) (v last : Value) (H : List En) (w : World) (hh : w.heap[p]? = some (.cells #[v, last] 77 (0, 0))) (hB : B ≤ p) (hr : Es w B v H) (n : Nat) (hn : H.length = n) (hn2 : n < 256) (hH : Hp H) (x : En) (hg0 : v.ownBlock = some g0 ∨ v.ownBlock = none ∧ g0 = p) :
    Calls Try.prog 44 #[.pointer (some ⟨p, 0, none⟩), .agg #[.int .u64 x.1, .int .i64 x.2.1, .int .i64 x.2.2]] w fun e w' => e = .returned (.tuple #[]) ∧
      (∃ (H' : List En) (g k : Nat), H'.Perm (x :: H) ∧ Hp H' ∧ w'.heap[p]? = some (.cells #[.slice (some ⟨g, 0, none⟩) (n + 1) k, last] 77 (0, 0)) ∧ Rw w' g k H' ∧ B ≤ g ∧ (g = g0 ∨ w.heap.size ≤ g)) ∧ Only p g0 w w' := by
  have hlt := lt_of_heap hh
  unfold Es at hr
  rw [hn] at hr
  obtain ⟨X0, k0, hv, hk1, hk2⟩ := own_form hr
  obtain ⟨wa, hWA⟩ : ∃ wa, w.alloc (.cells #[.int .u64 x.1, .int .i64 x.2.1, .int .i64 x.2.2] 80) = wa := ⟨_, rfl⟩
  obtain ⟨wb, hWB⟩ : ∃ wb, wa.alloc (.cells #[.int .u64 x.1, .int .i64 x.2.1, .int .i64 x.2.2] 80) = wb := ⟨_, rfl⟩
  have hba : Below w.heap.size w wa := by rw [← hWA]; exact (Below.refl _ _).alloc (Nat.le_refl _) _
  have hbb : Below wa.heap.size wa wb := by rw [← hWB]; exact (Below.refl _ _).alloc (Nat.le_refl _) _
  have hB2 := below_trans hba hbb
  have hpa := (hba.block p hlt).trans hh
  have hpb := (hB2.block p hlt).trans hh
  have owb := own_below hr hB2
  have src := sr_one cp wa 80 x
  have e1 : (cp x).toArray = #[.int .u64 x.1, .int .i64 x.2.1, .int .i64 x.2.2] := rfl
  rw [e1, hWB] at src
  have q1 : wa.heap[w.heap.size]? = some (.cells #[.int .u64 x.1, .int .i64 x.2.1, .int .i64 x.2.2] 80 (0, 0)) := by rw [← hWA]; exact heap_alloc_new w _
  have a0 : wa.cell? ⟨w.heap.size, 0, none⟩ = some (.int .u64 x.1) := by rw [cell_of_row wa _ 0 _ 80 (0, 0) q1]; rfl
  have a1 : wa.cell? ⟨w.heap.size, 1, none⟩ = some (.int .i64 x.2.1) := by rw [cell_of_row wa _ 1 _ 80 (0, 0) q1]; rfl
  have a2 : wa.cell? ⟨w.heap.size, 2, none⟩ = some (.int .i64 x.2.2) := by rw [cell_of_row wa _ 2 _ 80 (0, 0) q1]; rfl
  have c0 : wa.cell? ⟨p, 0, none⟩ = some v := by rw [cell_of_row wa p 0 _ 77 (0, 0) hpa]; rfl
  have c1 : wb.cell? ⟨p, 0, none⟩ = some v := by rw [cell_of_row wb p 0 _ 77 (0, 0) hpb]; rfl
  have hne : ∀ g, v.ownBlock = some g → p ≠ g := by
    intro g hg
    rintro rfl
    rcases hr.2 with ⟨h1, _⟩ | ⟨g', cap, cur, h1, _, h2, _⟩
    · rw [h1] at hg; cases hg
    · rw [h1] at hg; injection hg with hg; subst hg
      rw [hh] at h2; injection h2 with h2; injection h2 with _ h3; cases h3
  have hBs : B ≤ wb.heap.size := by have := hB2.size; omega
  have hsz : wa.heap.size = w.heap.size + 1 := by rw [← hWA]; simp
  rw [hsz] at src
  have b63 : n + 1 ≤ 100000 := by omega
  have HN := Lib.hid hn
  have HV := Lib.hid hv
  have HR := Lib.hid hr
  have HH := Lib.hid hH
  have HHH := Lib.hid hh
  have HG0 := Lib.hid hg0
  have HPB := Lib.hid hpb
  have HNE := Lib.hid hne
  have HB2 := Lib.hid hB2
  clear hn hH hr hh hpa hba hbb q1 hv hpb hne hB2 e1 hg0
  go_enter Try.func44, Try.ntmps44
  go_wp2
  go_region_law (refine step_append_one kp (by omega) rfl _ _ rfl B v H x n HN.out rfl owb _ 1 rfl src b63 hBs ?_; intro X5 k5 w5 hown5 hgrow5 hwh5; have hp5 := (hgrow5.block p (lt_of_heap HPB.out) (fun h => HNE.out p h.symm rfl)).trans HPB.out; have z5 := frozen_of_row w5 p 0 _ 77 hp5; have c5 : w5.cell? ⟨p, 0, none⟩ = some v := (cell_of_row w5 p 0 _ 77 (0, 0) hp5).trans rfl)
  all_goals
    obtain ⟨g, rfl⟩ := own_some hown5 (by omega)
    obtain ⟨rw5, hBg⟩ := own_rw (by rw [List.length_append, HN.out]; rfl) hown5
    have hpg : p ≠ g := by
      rintro rfl
      obtain ⟨cs, h1, _⟩ := rw5
      rw [hp5] at h1; injection h1 with h1; injection h1 with _ h2; cases h2
    have rw6 := rw5.keep (Below.heap_setCell w5 ⟨p, 0, none⟩ (.slice (some ⟨g, 0, none⟩) (n + 1) k5) g (Ne.symm hpg))
    have hp6 := heap_setCell_same w5 p 0 _ 77 (.slice (some ⟨g, 0, none⟩) (n + 1) k5) hp5
    have hs6 : (w5.setCell ⟨p, 0, none⟩ (.slice (some ⟨g, 0, none⟩) (n + 1) k5)).heap.size = w5.heap.size := by simp [World.setCell]
    have hb6 := fun i (h : i ≠ p) => Below.heap_setCell w5 ⟨p, 0, none⟩ (.slice (some ⟨g, 0, none⟩) (n + 1) k5) i h
    have ho6 : (w5.setCell ⟨p, 0, none⟩ (.slice (some ⟨g, 0, none⟩) (n + 1) k5)).os = w5.os ∧ (w5.setCell ⟨p, 0, none⟩ (.slice (some ⟨g, 0, none⟩) (n + 1) k5)).tape = w5.tape ∧ (w5.setCell ⟨p, 0, none⟩ (.slice (some ⟨g, 0, none⟩) (n + 1) k5)).output = w5.output := ⟨rfl, rfl, rfl⟩
    generalize hW6 : w5.setCell ⟨p, 0, none⟩ (.slice (some ⟨g, 0, none⟩) (n + 1) k5) = w6 at *
    have c6 : w6.cell? ⟨p, 0, none⟩ = some (.slice (some ⟨g, 0, none⟩) (n + 1) k5) := by rw [cell_of_row w6 p 0 _ 77 (0, 0) hp6]; rfl
    have c6d : w6.drew.cell? ⟨p, 0, none⟩ = some (.slice (some ⟨g, 0, none⟩) (n + 1) k5) := c6
    have hi := rise_add HH.out x
    rw [HN.out] at hi
    have hgn : g = g0 ∨ w.heap.size ≤ g := by
      rcases hwh5 with e5 | e5
      · rcases HG0.out with h0 | ⟨h0, _⟩
        · rw [h0] at e5; exact .inl (by injection e5)
        · rw [h0] at e5; cases e5
      · have e6 : g = wb.heap.size := by injection e5
        have := HB2.out.size
        exact .inr (by omega)
    have hfr : Only p g0 w w6 := by
      refine ⟨ho6.1.trans (hgrow5.os.trans HB2.out.os), ho6.2.1.trans (hgrow5.tape.trans HB2.out.tape), ho6.2.2.trans (hgrow5.output.trans HB2.out.output), by have h1 := hgrow5.size; have h2 := HB2.out.size; rw [hs6]; exact Nat.le_trans h2 h1, fun i hi e1 e2 => ?_⟩
      rw [hb6 i e1, hgrow5.block i (Nat.lt_of_lt_of_le hi HB2.out.size) ?_]
      · exact HB2.out.block i hi
      · intro hv
        rcases HG0.out with h0 | ⟨h0, _⟩
        · rw [h0] at hv; injection hv with hv; exact e2 hv
        · rw [h0] at hv; cases hv
    have hFR := Lib.hid hfr
    have HI := Lib.hid hi
    have HRW := Lib.hid rw6
    have HP6 := Lib.hid hp6
    have HGN := Lib.hid hgn
    clear hgn hwh5 hi hfr rw5 rw6 hp6 hp5 hs6 hb6 ho6 hown5 hgrow5 z5 c5 a0 a1 a2 c0 c1 owb src hBs
    go_wp2
    go_still_tail 8, (by kernel_rfl)
    change wpList _ _ _ _ _ w6.drew
    have rwd : Rw w6.drew g k5 (H ++ [x]) := HRW.out
    go_wp2_with fail
    refine (rise_any g k5 (n + 1) n (H ++ [x]) w6.drew rwd (by rw [List.length_append, HN.out]; rfl) (by omega) (by omega) HI.out).mono ?_
    rintro e w7 ⟨rfl, ⟨H7, hp7, hh7, rw7⟩, o7⟩
    go_wp2
    go_end0
    refine ⟨rfl, ⟨H7, g, k5, ?_, hh7, (o7.block p (lt_of_heap HP6.out) hpg hpg).trans HP6.out, rw7, hBg, HGN.out⟩, ?_⟩
    · exact hp7.trans (List.perm_append_comm (l₁ := H) (l₂ := [x]))
    · exact hFR.out.of_new (w := w6) (w' := w7) (q := g) (r := g) ⟨o7.os, o7.tape, o7.output, o7.size, o7.block⟩ (by have := HGN.out; omega) (by have := HGN.out; omega)
end Go.Proofs.Ytpnhpgdidineaaa
