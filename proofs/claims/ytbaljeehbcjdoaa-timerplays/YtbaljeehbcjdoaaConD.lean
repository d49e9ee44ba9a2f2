/- Contracts of package heap: add. -/
import Derived.Test.YtbaljeehbcjdoaaConC
namespace Go.Proofs.Ytbaljeehbcjdoaa
open Go.RowKit

/-- Only blocks from B on of timers and of rows of entries may have turned, and new ones may have come. -/
structure Fr (B : Nat) (w w' : World) : Prop where
  os : w'.os = w.os
  tape : w'.tape = w.tape
  output : w'.output = w.output
  size : w.heap.size ≤ w'.heap.size
  block : ∀ k, k < w.heap.size → (k < B ∨ ∀ cs fr, w.heap[k]? ≠ some (.cells cs 63 fr) ∧ w.heap[k]? ≠ some (.cells cs 66 fr)) → w'.heap[k]? = w.heap[k]?
theorem Fr.refl (B : Nat) (w : World) : Fr B w w := ⟨rfl, rfl, rfl, Nat.le_refl _, fun _ _ _ => rfl⟩
theorem Fr.trans {B : Nat} {a b c : World} (h : Fr B a b) (k : Fr B b c) : Fr B a c :=
  ⟨k.os.trans h.os, k.tape.trans h.tape, k.output.trans h.output, Nat.le_trans h.size k.size,
   fun i hi h1 => by
    have e := h.block i hi h1
    exact (k.block i (Nat.lt_of_lt_of_le hi h.size) (by rw [e]; exact h1)).trans e⟩
theorem Fr.of_below {B : Nat} {w w' : World} (h : Below w.heap.size w w') : Fr B w w' := ⟨h.os, h.tape, h.output, h.size, fun k hk _ => h.block k hk⟩
theorem Fr.below {B : Nat} {w w' : World} (h : Fr B w w') (hB : B ≤ w.heap.size) : Below B w w' := ⟨h.os, h.tape, h.output, h.size, fun k hk => h.block k (by omega) (.inl hk)⟩
theorem Fr.of_only {B p g : Nat} {w w' : World} (h : Only p g w w') (hp : B ≤ p) (hg : B ≤ g) (tp : ∃ cs fr e, w.heap[p]? = some (.cells cs e fr) ∧ (e = 63 ∨ e = 66)) (tg : ∃ cs fr e, w.heap[g]? = some (.cells cs e fr) ∧ (e = 63 ∨ e = 66)) : Fr B w w' := by
  refine ⟨h.os, h.tape, h.output, h.size, fun k hk hc => h.block k hk ?_ ?_⟩
  · rintro rfl
    rcases hc with hc | hc
    · omega
    · obtain ⟨cs, fr, e, h1, h2⟩ := tp
      rcases h2 with rfl | rfl
      · exact (hc cs fr).1 h1
      · exact (hc cs fr).2 h1
  · rintro rfl
    rcases hc with hc | hc
    · omega
    · obtain ⟨cs, fr, e, h1, h2⟩ := tg
      rcases h2 with rfl | rfl
      · exact (hc cs fr).1 h1
      · exact (hc cs fr).2 h1
theorem Fr.base {B B' : Nat} {w w' : World} (h : Fr B w w') (hb : B' ≤ B) : Fr B' w w' := ⟨h.os, h.tape, h.output, h.size, fun k hk hc => h.block k hk (by rcases hc with hc | hc; exact .inl (by omega); exact .inr hc)⟩

theorem own_some {w : World} {B n k : Nat} {X : Option Addr} {xs : List Value} (h : w.ownsRow B 66 3 (.slice X n k) n xs) (h0 : 0 < n) : ∃ g, X = some ⟨g, 0, none⟩ := by
  rcases h.2 with ⟨_, h1⟩ | ⟨g, cap, cur, h1, _⟩
  · omega
  · injection h1 with h1; exact ⟨g, h1⟩

set_option maxHeartbeats 1600000 in
theorem add_any (B p : Nat) (v last : Value) (H : List En) (w : World) (hh : w.heap[p]? = some (.cells #[v, last] 63 (0, 0))) (hB : B ≤ p) (hr : Es w B v H) (n : Nat) (hn : H.length = n) (hn2 : n < 256) (hH : Hp H) (x : En) :
    Calls Try.prog 23 #[.pointer (some ⟨p, 0, none⟩), .agg #[.int .u64 x.1, .int .i64 x.2.1, .int .i64 x.2.2]] w fun e w' => e = .returned (.tuple #[]) ∧
      (∃ (H' : List En) (g k : Nat), H'.Perm (x :: H) ∧ Hp H' ∧ w'.heap[p]? = some (.cells #[.slice (some ⟨g, 0, none⟩) (n + 1) k, last] 63 (0, 0)) ∧ Rw w' g k H' ∧ B ≤ g) ∧ Fr B w w' := by
  have hlt := lt_of_heap hh
  unfold Es at hr
  rw [hn] at hr
  obtain ⟨X0, k0, hv, hk1, hk2⟩ := own_form hr
  obtain ⟨wa, hWA⟩ : ∃ wa, w.alloc (.cells #[.int .u64 x.1, .int .i64 x.2.1, .int .i64 x.2.2] 66) = wa := ⟨_, rfl⟩
  obtain ⟨wb, hWB⟩ : ∃ wb, wa.alloc (.cells #[.int .u64 x.1, .int .i64 x.2.1, .int .i64 x.2.2] 66) = wb := ⟨_, rfl⟩
  have hba : Below w.heap.size w wa := by rw [← hWA]; exact (Below.refl _ _).alloc (Nat.le_refl _) _
  have hbb : Below wa.heap.size wa wb := by rw [← hWB]; exact (Below.refl _ _).alloc (Nat.le_refl _) _
  have hB2 := below_trans hba hbb
  have hpa := (hba.block p hlt).trans hh
  have hpb := (hB2.block p hlt).trans hh
  have owb := own_below hr hB2
  have src := sr_one cp wa 66 x
  have e1 : (cp x).toArray = #[.int .u64 x.1, .int .i64 x.2.1, .int .i64 x.2.2] := rfl
  rw [e1, hWB] at src
  have q1 : wa.heap[w.heap.size]? = some (.cells #[.int .u64 x.1, .int .i64 x.2.1, .int .i64 x.2.2] 66 (0, 0)) := by rw [← hWA]; exact heap_alloc_new w _
  have a0 : wa.cell? ⟨w.heap.size, 0, none⟩ = some (.int .u64 x.1) := by rw [cell_of_row wa _ 0 _ 66 (0, 0) q1]; rfl
  have a1 : wa.cell? ⟨w.heap.size, 1, none⟩ = some (.int .i64 x.2.1) := by rw [cell_of_row wa _ 1 _ 66 (0, 0) q1]; rfl
  have a2 : wa.cell? ⟨w.heap.size, 2, none⟩ = some (.int .i64 x.2.2) := by rw [cell_of_row wa _ 2 _ 66 (0, 0) q1]; rfl
  have c0 : wa.cell? ⟨p, 0, none⟩ = some v := by rw [cell_of_row wa p 0 _ 63 (0, 0) hpa]; rfl
  have c1 : wb.cell? ⟨p, 0, none⟩ = some v := by rw [cell_of_row wb p 0 _ 63 (0, 0) hpb]; rfl
  have hne : ∀ g, v.ownBlock = some g → p ≠ g := by
    intro g hg
    rintro rfl
    rcases hr.2 with ⟨h1, _⟩ | ⟨g', cap, cur, h1, _, h2, _⟩
    · rw [h1] at hg; cases hg
    · rw [h1] at hg; injection hg with hg; subst hg
      rw [hh] at h2; injection h2 with h2; injection h2 with _ h3; cases h3
  have hBs : B ≤ wb.heap.size := by have := hB2.size; omega
  have hsz : wa.heap.size = w.heap.size + 1 := by rw [← hWA]; simp
  rw [hsz] at src
  have b63 : n + 1 ≤ 100000 := by omega
  have HN := Lib.hid hn
  have HV := Lib.hid hv
  have HR := Lib.hid hr
  have HH := Lib.hid hH
  have HHH := Lib.hid hh
  have HPB := Lib.hid hpb
  have HNE := Lib.hid hne
  have HB2 := Lib.hid hB2
  clear hn hH hr hh hpa hba hbb q1 hv hpb hne hB2 e1
  go_enter Try.func23, Try.ntmps23
  go_wp2
  go_region_law (refine step_append_row kp (by omega) rfl _ _ rfl B v H [x] n HN.out rfl owb _ 1 1 rfl rfl src b63 hBs (n + 1) rfl ?_; intro X5 k5 w5 hown5 hgrow5; have hp5 := (hgrow5.block p (lt_of_heap HPB.out) (fun h => HNE.out p h.symm rfl)).trans HPB.out; have z5 := frozen_of_row w5 p 0 _ 63 hp5; have c5 : w5.cell? ⟨p, 0, none⟩ = some v := (cell_of_row w5 p 0 _ 63 (0, 0) hp5).trans rfl)
  all_goals
    obtain ⟨g, rfl⟩ := own_some hown5 (by omega)
    obtain ⟨rw5, hBg⟩ := own_rw (by rw [List.length_append, HN.out]; rfl) hown5
    have hpg : p ≠ g := by
      rintro rfl
      obtain ⟨cs, h1, _⟩ := rw5
      rw [hp5] at h1; injection h1 with h1; injection h1 with _ h2; cases h2
    have rw6 := rw5.keep (Below.heap_setCell w5 ⟨p, 0, none⟩ (.slice (some ⟨g, 0, none⟩) (n + 1) k5) g (Ne.symm hpg))
    have hp6 := heap_setCell_same w5 p 0 _ 63 (.slice (some ⟨g, 0, none⟩) (n + 1) k5) hp5
    have hs6 : (w5.setCell ⟨p, 0, none⟩ (.slice (some ⟨g, 0, none⟩) (n + 1) k5)).heap.size = w5.heap.size := by simp [World.setCell]
    have hb6 := fun i (h : i ≠ p) => Below.heap_setCell w5 ⟨p, 0, none⟩ (.slice (some ⟨g, 0, none⟩) (n + 1) k5) i h
    have ho6 : (w5.setCell ⟨p, 0, none⟩ (.slice (some ⟨g, 0, none⟩) (n + 1) k5)).os = w5.os ∧ (w5.setCell ⟨p, 0, none⟩ (.slice (some ⟨g, 0, none⟩) (n + 1) k5)).tape = w5.tape ∧ (w5.setCell ⟨p, 0, none⟩ (.slice (some ⟨g, 0, none⟩) (n + 1) k5)).output = w5.output := ⟨rfl, rfl, rfl⟩
    generalize hW6 : w5.setCell ⟨p, 0, none⟩ (.slice (some ⟨g, 0, none⟩) (n + 1) k5) = w6 at *
    have c6 : w6.cell? ⟨p, 0, none⟩ = some (.slice (some ⟨g, 0, none⟩) (n + 1) k5) := by rw [cell_of_row w6 p 0 _ 63 (0, 0) hp6]; rfl
    have c6d : w6.drew.cell? ⟨p, 0, none⟩ = some (.slice (some ⟨g, 0, none⟩) (n + 1) k5) := c6
    have hi := rise_add HH.out x
    rw [HN.out] at hi
    have hfr : Fr B w w6 := by
      refine ⟨ho6.1.trans (hgrow5.os.trans HB2.out.os), ho6.2.1.trans (hgrow5.tape.trans HB2.out.tape), ho6.2.2.trans (hgrow5.output.trans HB2.out.output), by have h1 := hgrow5.size; have h2 := HB2.out.size; rw [hs6]; exact Nat.le_trans h2 h1, fun i hi hc => ?_⟩
      have e1 : i ≠ p := by
        rintro rfl
        rcases hc with hc | hc
        · omega
        · exact (hc _ _).1 HHH.out
      rw [hb6 i e1, hgrow5.block i (Nat.lt_of_lt_of_le hi HB2.out.size) ?_]
      · exact HB2.out.block i hi
      · intro hv
        rcases HR.out.2 with ⟨h1, _⟩ | ⟨g', cap, cur, h1, h3, h2, _⟩
        · rw [h1] at hv; cases hv
        · rw [h1] at hv; injection hv with hv; subst hv
          rcases hc with hc | hc
          · omega
          · exact (hc _ _).2 h2
    have hFR := Lib.hid hfr
    have HI := Lib.hid hi
    have HRW := Lib.hid rw6
    have HP6 := Lib.hid hp6
    clear hi hfr rw5 rw6 hp6 hp5 hs6 hb6 ho6 hown5 hgrow5 z5 c5 a0 a1 a2 c0 c1 owb src hBs
    go_wp2
    go_still_tail 8, (by kernel_rfl)
    change wpList _ _ _ _ _ w6.drew
    have rwd : Rw w6.drew g k5 (H ++ [x]) := HRW.out
    go_wp2_with fail
    refine (rise_any g k5 (n + 1) n (H ++ [x]) w6.drew rwd (by rw [List.length_append, HN.out]; rfl) (by omega) (by omega) HI.out).mono ?_
    rintro e w7 ⟨rfl, ⟨H7, hp7, hh7, rw7⟩, o7⟩
    go_wp2
    go_end0
    refine ⟨rfl, ⟨H7, g, k5, ?_, hh7, (o7.block p (lt_of_heap HP6.out) hpg hpg).trans HP6.out, rw7, hBg⟩, ?_⟩
    · exact hp7.trans (List.perm_append_comm (l₁ := H) (l₂ := [x]))
    · obtain ⟨cs, h1, _⟩ := HRW.out
      exact hFR.out.trans (Fr.of_only (w := w6) ⟨o7.os, o7.tape, o7.output, o7.size, o7.block⟩ hBg hBg ⟨cs, _, _, h1, .inr rfl⟩ ⟨cs, _, _, h1, .inr rfl⟩)
end Go.Proofs.Ytbaljeehbcjdoaa
