/- The document's own ready tasks: Rotate. -/
import Derived.Test.YtfilggkdhcjpbaaDoorRefC
namespace Go.Proofs.YtfilggkdhcjpbaaDoor
open Go.RowKit

theorem rot_R {S : St} (h : Good S) {a : Nat} (ha1 : 1 ≤ a) (ha2 : a ≤ 16) {y : Int} {r : List Int} (hr : S.R a = y :: r) :
    (S.rot (a : Int)).R a = r ++ [y] ∧ (∀ b, b ≠ a → (S.rot (a : Int)).R b = S.R b) ∧ ∀ x, (S.rot (a : Int)).P x = S.P x := by
  have hP : S.P y = a := ((h.mem a y).1 (by rw [hr]; simp)).2
  have hnd := h.nodup a
  rw [hr] at hnd
  have e : S.rot (a : Int) = (S.del y).put y a := by
    unfold St.rot
    rw [if_pos ⟨by omega, by omega⟩, Int.toNat_natCast, hr]
  rw [e]
  refine ⟨?_, fun b hb => ?_, fun x => ?_⟩
  · show (if a = a then (S.R a).filter (· != y) ++ [y] else _) = _
    rw [if_pos rfl, hr, List.filter_cons_of_neg (by simp), filter_id (List.nodup_cons.1 hnd).1]
  · show (if b = a then _ else (S.R b).filter (· != y)) = _
    rw [if_neg hb, filter_id fun h1 => hb (((h.mem b y).1 h1).2.symm.trans hP)]
  · show (if x = y then a else if x = y then 0 else S.P x) = S.P x
    split
    · next e => rw [e, hP]
    · rfl
theorem rot_one {S : St} (h : Good S) {a : Nat} (ha1 : 1 ≤ a) (ha2 : a ≤ 16) {y : Int} (hr : S.R a = [y]) : S.rot (a : Int) = S := by
  obtain ⟨h1, h2, h3⟩ := rot_R h ha1 ha2 hr
  refine St.ext' (fun b => ?_) h3
  by_cases e : b = a
  · subst e; rw [h1, hr]; rfl
  · exact h2 b e

theorem elem27 : Tryd.prog.elem 27 = 3 := by kernel_rfl
theorem cut1 (b o m k : Nat) (hk : m + 2 ≤ k) (W : World) : (Instr.slice 27 (.slice (some ⟨b, o, none⟩) (m + 2) k) (some (.int .i64 1)) none none).run Tryd.prog W = .ok (.slice (some ⟨b, o + 1, none⟩) (m + 1) (k - 1)) W := by
  have hu : Tryd.prog.underlying 27 = some (.slice (Tryd.prog.elem 27)) := by kernel_rfl
  rw [run_slice_l W 27 _ _ k hu .i64 1 (by omega) (by omega), elem27, size3]
  have : k ≠ 1 := by omega
  simp [Result.andThen, sliced, this, addr_add]

set_option maxHeartbeats 3200000 in
theorem rrot_in (q a m : Nat) (y : Int) (r : List Int) (S : St) (w : World) (h : Rf w q S) (ha1 : 1 ≤ a) (ha2 : a ≤ 16) (hr : S.R a = y :: r) (hm : r.length = m + 1) :
    Calls Tryd.prog 17 #[.pointer (some ⟨q, 0, none⟩), .int .i64 (a : Int)] w fun e w' => e = .returned (.int .i64 0) ∧ Rf w' q (S.rot (a : Int)) ∧ Only q w w' := by
  obtain ⟨hR1, hR2, _⟩ := rot_R h.1 ha1 ha2 hr
  have HA := Lib.hid (rgood_any (a : Int) w true (decide_eq_true ⟨by omega, by omega⟩))
  have HG := Lib.hid (h.1.rot (a : Int))
  have HRA := Lib.hid hR1
  have HRO := Lib.hid hR2
  have hl := h.1.len a
  rw [hr] at hl
  simp only [List.length_cons, hm] at hl
  obtain ⟨X, k, c1, hsl⟩ := h.row ha2
  have hn : (S.R a).length = m + 2 := by rw [hr]; simp [hm]
  rw [hn] at c1
  have hq := h.lt
  rcases hsl with ⟨_, e, _⟩ | ⟨hk1, hk2, b, o, rfl, cs, hcs, hcl⟩
  · rw [e] at hn; simp at hn
  rw [hr] at hcl hk1
  simp only [List.length_cons, hm] at hk1
  have hblt := lt_of_heap hcs
  have HH := Lib.hid h
  have HNN := Lib.hid hm
  have cy : w.cell? ⟨b, o, none⟩ = some (.int .i64 y) := by rw [cell_of_row w b _ cs 3 (0, 0) hcs]; simpa using hcl 0 y rfl
  have hsr : Sr w (some ⟨b, o + 1, none⟩) (k - 1) r := .inr ⟨b, o + 1, rfl, fun j x hx => by
    rw [cell_of_row w b _ cs 3 (0, 0) hcs, show o + 1 + j = o + (j + 1) by omega]; exact hcl (j + 1) x (by simpa using hx)⟩
  have HB : Hid (∀ W : World, Below w.heap.size w W → W.cell? ⟨b, o, none⟩ = some (.int .i64 y)) := fun W hb => (hb.cell (p := ⟨b, o, none⟩) hblt).trans cy
  have hcut := cut1 b o m k hk1
  have b1 : 0 + (m + 1) ≤ 100000 := by omega
  have b2 : m + 1 + 1 ≤ 100000 := by omega
  have hai : (a : Int) < 17 := by omega
  clear hR1 hR2 hr hm h hcl hcs hn cy hk2
  generalize S.rot (a : Int) = S' at *
  have t1 : decide ((1 : Int) < ((m + 2 : Nat) : Int)) = true := by simp; omega
  have hi0 : (0 : Int) < (m : Int) + 2 := by omega
  go_enter Tryd.func17, Tryd.ntmps17
  go_wp2_with fail
  refine HA.out.mono ?_
  rintro e w1 ⟨rfl, rfl⟩
  go_wp2
  have B0 := (Below.refl w.heap.size w).drew
  have B1 := ((Below.refl w.heap.size w).alloc (Nat.le_refl _) (.cells #[] 3)).drew
  have B2 := ((Below.refl w.heap.size w).alloc (Nat.le_refl _) (.cells #[.int .i64 y] 3)).drew
  have B12 := (((Below.refl w.heap.size w).alloc (Nat.le_refl _) (.cells #[] 3)).alloc (by rw [size_alloc]; omega) (.cells #[.int .i64 y] 3)).drew
  have B21 := (((Below.refl w.heap.size w).alloc (Nat.le_refl _) (.cells #[.int .i64 y] 3)).alloc (by rw [size_alloc]; omega) (.cells #[] 3)).drew
  have l0 := HB.out _ B0
  have l1 := HB.out _ B1
  have l2 := HB.out _ B2
  have l12 := HB.out _ B12
  have l21 := HB.out _ B21
  go_region_law (first
      | (refine step_append_row rfl _ _ rfl w.heap.size (.slice (some ⟨w.heap.size, 0, none⟩) 0 0) [] r 0 rfl rfl (own0d _ (Nat.le_refl _)) _ (m + 1) (k - 1) rfl HNN.out (hsr.below B1) b1 B1.size (m + 1) (Nat.zero_add _) ?_; intro Y1 j1 w1 hown1 hg1; have hb1 := B1.grown hg1 B1.size (fun k hk => by simp [Value.ownBlock] at hk; omega); have lw1 := HB.out _ hb1)
      | (refine step_append_row rfl _ _ rfl w.heap.size (.slice (some ⟨w.heap.size, 0, none⟩) 0 0) [] r 0 rfl rfl (own2 _ _) _ (m + 1) (k - 1) rfl HNN.out (hsr.below B12) b1 B12.size (m + 1) (Nat.zero_add _) ?_; intro Y1 j1 w1 hown1 hg1; have hb1 := B12.grown hg1 B12.size (fun k hk => by simp [Value.ownBlock] at hk; omega); have hone := sr_keep (src2 w y) (hg1.block _ (by show _ < (((w.alloc _).alloc _).heap.size); rw [size_alloc, size_alloc]; omega) (by simp [Value.ownBlock])))
      | (refine step_append_row rfl _ _ rfl w.heap.size (.slice (some ⟨w.heap.size + 1, 0, none⟩) 0 0) [] r 0 rfl rfl (own3 _ _) _ (m + 1) (k - 1) rfl HNN.out (hsr.below B21) b1 B21.size (m + 1) (Nat.zero_add _) ?_; intro Y1 j1 w1 hown1 hg1; have hb1 := B21.grown hg1 B21.size (fun k hk => by simp [Value.ownBlock] at hk; omega); have hone := sr_keep (src3 w y) (hg1.block _ (by show _ < (((w.alloc _).alloc _).heap.size); rw [size_alloc, size_alloc]; omega) (by simp [Value.ownBlock])))
      | (refine step_append_row rfl _ _ rfl w.heap.size (.slice Y1 (m + 1) j1) ([] ++ r) [y] (m + 1) HNN.out rfl (hown1.alloc _) _ 1 1 rfl rfl (sr_one _ y) b2 (hb1.alloc hb1.size _).size (m + 1 + 1) rfl ?_; intro Y2 j2 w2 hown2 hg2; have hb2 := (hb1.alloc hb1.size _).grown hg2 (hb1.alloc hb1.size _).size (fun k hk => (hown1.lt k hk).1); obtain ⟨X5, k5, hc5, _⟩ := (HH.out.below hb2).row ha2; have hz5 := (HH.out.below hb2).frozen a)
      | (refine step_append_row rfl _ _ rfl w.heap.size (.slice Y1 (m + 1) j1) ([] ++ r) [y] (m + 1) HNN.out rfl hown1 _ 1 1 rfl rfl hone b2 hb1.size (m + 1 + 1) rfl ?_; intro Y2 j2 w2 hown2 hg2; have hb2 := hb1.grown hg2 hb1.size (fun k hk => (hown1.lt k hk).1); obtain ⟨X5, k5, hc5, _⟩ := (HH.out.below hb2).row ha2; have hz5 := (HH.out.below hb2).frozen a))
  all_goals
    have HOWN := Lib.hid hown2
    have HB2 := Lib.hid hb2
    clear hown1 hown2 hg1 hg2 hb1 hb2 B0 B1 B2 B12 B21 l0 l1 l2 l12 l21
    go_wp2
    go_ret
    have hlen : (S'.R a).length = m + 1 + 1 := by rw [HRA.out, List.length_append, HNN.out]; rfl
    have hown : w2.ownsRow w.heap.size 3 1 (.slice Y2 (m + 1 + 1) j2) (m + 1 + 1) (vals (S'.R a)) := by rw [HRA.out]; simpa using HOWN.out
    obtain ⟨Y6, k6, e6, hs6⟩ := own_sl hlen hown
    injection e6 with e6 _ e7
    subst e6 e7
    exact ⟨rfl, (HH.out.below HB2.out).set HG.out ha2 HRO.out Y2 (m + 1 + 1) j2 hlen hs6, (Only.of_below HB2.out).setCell (q := ⟨q, a, none⟩) (.inl rfl) _⟩

/-- Rotate -/
theorem drotate_any (q : Nat) (S : St) (a : Int) (w : World) (h : Rf w q S) (c : Int) (hc : (if inR a then 0 else -17) = c) :
    Calls Tryd.prog 17 #[.pointer (some ⟨q, 0, none⟩), .int .i64 a] w fun e w' => e = .returned (.int .i64 c) ∧ Rf w' q (S.rot a) ∧ Only q w w' := by
  subst hc
  by_cases ha : inR a
  · rw [if_pos ha]
    have HA := Lib.hid (rgood_any a w true (decide_eq_true ha))
    obtain ⟨b, rfl, hb1, hb2⟩ := inR_nat ha
    by_cases h2 : 2 ≤ (S.R b).length
    · rcases hr : S.R b with _ | ⟨y, _ | ⟨z, r⟩⟩
      · rw [hr] at h2; simp at h2
      · rw [hr] at h2; simp at h2
      · exact rrot_in q b r.length y (z :: r) S w h hb1 hb2 hr rfl
    · have e : S.rot (b : Int) = S := by
        rcases hr : S.R b with _ | ⟨y, _ | ⟨z, r⟩⟩
        · exact rot_nil (by rw [Int.toNat_natCast]; exact hr)
        · exact rot_one h.1 hb1 hb2 hr
        · rw [hr] at h2; simp at h2
      rw [e]
      obtain ⟨Y, k, c1, _⟩ := h.row hb2
      have t1 : decide ((1 : Int) < (((S.R b).length : Nat) : Int)) = false := by simp; omega
      have t2 : decide (1 < (S.R b).length) = false := by simp; omega
      have hbi : (b : Int) < 17 := by omega
      clear h2 e ha
      generalize (S.R b).length = n at *
      go_enter Tryd.func17, Tryd.ntmps17
      go_wp2_with fail
      refine HA.out.mono ?_
      rintro e w1 ⟨rfl, rfl⟩
      go_wp2
      go_ret
      exact ⟨rfl, h, Only.refl _ _⟩
  · rw [if_neg ha]
    have e : S.rot a = S := by unfold St.rot; rw [if_neg ha]
    rw [e]
    have HA := Lib.hid (rgood_any a w false (decide_eq_false ha))
    clear ha e
    go_enter Tryd.func17, Tryd.ntmps17
    go_wp2_with fail
    refine HA.out.mono ?_
    rintro e w1 ⟨rfl, rfl⟩
    go_wp2
    go_ret
    exact ⟨rfl, h, Only.refl _ _⟩
end Go.Proofs.YtfilggkdhcjpbaaDoor
