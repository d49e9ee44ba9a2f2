/- The document's own ready tasks: Add. -/
import Derived.Test.YtfilggkdhcjpbaaDoorRefA
namespace Go.Proofs.YtfilggkdhcjpbaaDoor
open Go.RowKit

theorem step_append_row {w : World} {ops : Array Oper} {o : Oper} {a : Act} {K : Act → World → Prop} {Q : Exit → Act → World → Prop} {E : Prop} (hgd : o.guard = none) (s x : Operand)
    (ho : o.op = .call { callee := .builtin .append, args := #[s, x], argTypes := #[27, 27] })
    (base : Nat) (v : Value) (L1 L2 : List Int) (n1 : Nat) (hn1 : L1.length = n1) (hs : a.eval s = v) (hown : w.ownsRow base 3 1 v n1 (vals L1)) (Y : Option Addr) (n k : Nat) (hx : a.eval x = .slice Y n k) (hn : L2.length = n)
    (hsrc : Sr w Y k L2) (h63 : n1 + n ≤ 100000) (hbase : base ≤ w.heap.size) (c : Nat) (hcc : n1 + n = c)
    (h : ∀ Y' k' w', w'.ownsRow base 3 1 (.slice Y' c k') c (vals (L1 ++ L2)) → w.grownBy w' v.ownBlock → K (a.put o.dst (.slice Y' c k')) w') :
    if Region.wanted o (yielded ops a.tmps) = true then Oper.wp Tryd.prog o a w K Q else E := by
  have hw : Region.wanted o (yielded ops a.tmps) = true := by simp [Region.wanted, hgd]
  rw [if_pos hw]
  exact wp_append_row s x ho base v L1 L2 n1 hn1 hs hown Y n k hx hn hsrc h63 hbase c hcc h
theorem Sr.keep {w w' : World} {Y : Option Addr} {k : Nat} {L : List Int} (h : Sr w Y k L) (kp : ∀ a : Addr, a.block < w.heap.size → Y.map (·.block) = some a.block → w'.cell? a = w.cell? a) : Sr w' Y k L := by
  rcases h with h | ⟨b, o, h1, h2⟩
  · exact .inl h
  · refine .inr ⟨b, o, h1, fun j x hx => ?_⟩
    have := h2 j x hx
    rw [kp ⟨b, o + j, none⟩ (lt_of_cell this) (by rw [h1]; rfl)]; exact this
theorem Sr.below {w w' : World} {Y : Option Addr} {k : Nat} {L : List Int} (h : Sr w Y k L) (hb : Below w.heap.size w w') : Sr w' Y k L := h.keep fun a ha _ => hb.cell (p := a) ha
theorem sr_keep {w w' : World} {b : Nat} {L : List Int} (h : Sr w (some ⟨b, 0, none⟩) 1 L) (hk : w'.heap[b]? = w.heap[b]?) : Sr w' (some ⟨b, 0, none⟩) 1 L :=
  h.keep fun a _ e => by
    obtain ⟨b', o, i⟩ := a
    injection e with e
    change b = b' at e
    subst e
    exact World.cell?_of_block (w := w) (a := ⟨b, o, i⟩) hk

theorem own0 {B : Nat} (W : World) (hB : B ≤ W.heap.size) : (W.alloc (.cells #[] 3)).ownsRow B 3 1 (.slice (some ⟨W.heap.size, 0, none⟩) 0 0) 0 (vals []) :=
  World.ownsRow_lit W #[] 0 hB (by unfold maxLen; omega) rfl
theorem own0d {B : Nat} (W : World) (hB : B ≤ W.heap.size) : (W.alloc (.cells #[] 3)).drew.ownsRow B 3 1 (.slice (some ⟨W.heap.size, 0, none⟩) 0 0) 0 (vals []) := own0 W hB
theorem size_alloc (w0 : World) (o : Obj) : (w0.alloc o).heap.size = w0.heap.size + 1 := by show (w0.heap.push o).size = _; simp
theorem own2 (w0 : World) (o : Obj) : ((w0.alloc (.cells #[] 3)).alloc o).drew.ownsRow w0.heap.size 3 1 (.slice (some ⟨w0.heap.size, 0, none⟩) 0 0) 0 (vals []) := (own0 w0 (Nat.le_refl _)).alloc _
theorem own3 (w0 : World) (o : Obj) : ((w0.alloc o).alloc (.cells #[] 3)).drew.ownsRow w0.heap.size 3 1 (.slice (some ⟨w0.heap.size + 1, 0, none⟩) 0 0) 0 (vals []) := by
  have := own0 (B := w0.heap.size) (w0.alloc o) (by rw [size_alloc]; omega)
  rw [size_alloc] at this; exact this
theorem src2 (w0 : World) (x : Int) : Sr ((w0.alloc (.cells #[] 3)).alloc (.cells #[.int .i64 x] 3)).drew (some ⟨w0.heap.size + 1, 0, none⟩) 1 [x] := by
  have := sr_one (w0.alloc (.cells #[] 3)) x
  rw [size_alloc] at this; exact this
theorem src3 (w0 : World) (x : Int) : Sr ((w0.alloc (.cells #[.int .i64 x] 3)).alloc (.cells #[] 3)).drew (some ⟨w0.heap.size, 0, none⟩) 1 [x] :=
  (sr_one w0 x).below ((Below.refl (w0.alloc (.cells #[.int .i64 x] 3)).heap.size (w0.alloc (.cells #[.int .i64 x] 3))).alloc (Nat.le_refl _) (.cells #[] 3)).drew

set_option maxHeartbeats 3200000 in
theorem radd_in (q a x : Nat) (S : St) (w : World) (h : Rf w q S) (ha1 : 1 ≤ a) (ha2 : a ≤ 16) (hx : inR (x : Int)) (h0 : S.P (x : Int) = 0) :
    Calls Tryd.prog 11 #[.pointer (some ⟨q, 0, none⟩), .int .i64 (x : Int), .int .i64 (a : Int)] w fun e w' => e = .returned (.int .i64 0) ∧ Rf w' q (S.put (x : Int) a) ∧ Only q w w' := by
  have HP := Lib.hid (rpri_any q S (x : Int) w h 0 h0)
  have HA := Lib.hid (rgood_any (a : Int) w true (decide_eq_true ⟨by omega, by omega⟩))
  have HG := Lib.hid (h.1.put hx h0 ha1 ha2)
  obtain ⟨X, k, c1, hsl⟩ := h.row ha2
  obtain ⟨n, hnn⟩ : ∃ n, (S.R a).length = n := ⟨_, rfl⟩
  have hl := h.1.len a
  rw [hnn] at c1 hl
  have hsr := hsl.sr
  have b1 : 0 + n ≤ 100000 := by omega
  have b2 : n + 1 ≤ 100000 := by omega
  have HH := Lib.hid h
  have HNN := Lib.hid hnn
  have HB : Hid (∀ W : World, Below w.heap.size w W → W.cell? ⟨q, a, none⟩ = some (.slice X n k)) := fun W hb => (hb.cell (p := ⟨q, a, none⟩) (lt_of_cell c1)).trans c1
  have HRO : Hid (∀ b, b ≠ a → (S.put (x : Int) a).R b = S.R b) := Lib.hid fun b hb => if_neg hb
  have HRA : Hid ((S.put (x : Int) a).R a = S.R a ++ [(x : Int)]) := Lib.hid (if_pos rfl)
  have hqt := h.lt
  have t1 : decide ((x : Int) < 1) = false := by have := hx.1; simp; omega
  have t2 : decide (16 < (x : Int)) = false := by have := hx.2; simp; omega
  have hai : (a : Int) < 17 := by omega
  clear hnn h hsl c1 hx h0
  generalize S.put (x : Int) a = S' at *
  generalize S.R a = L at *
  go_enter Tryd.func11, Tryd.ntmps11
  go_wp2_with fail
  refine HA.out.mono ?_
  rintro e w1 ⟨rfl, rfl⟩
  go_wp2_with fail
  refine HP.out.mono ?_
  rintro e w1 ⟨rfl, rfl⟩
  go_wp2
  have B0 := (Below.refl w.heap.size w).drew
  have B1 := ((Below.refl w.heap.size w).alloc (Nat.le_refl _) (.cells #[] 3)).drew
  have B2 := ((Below.refl w.heap.size w).alloc (Nat.le_refl _) (.cells #[.int .i64 (x : Int)] 3)).drew
  have B12 := (((Below.refl w.heap.size w).alloc (Nat.le_refl _) (.cells #[] 3)).alloc (by rw [size_alloc]; omega) (.cells #[.int .i64 (x : Int)] 3)).drew
  have B21 := (((Below.refl w.heap.size w).alloc (Nat.le_refl _) (.cells #[.int .i64 (x : Int)] 3)).alloc (by rw [size_alloc]; omega) (.cells #[] 3)).drew
  have l0 := HB.out _ B0
  have l1 := HB.out _ B1
  have l2 := HB.out _ B2
  have l12 := HB.out _ B12
  have l21 := HB.out _ B21
  go_region_law (first
      | (refine step_append_row rfl _ _ rfl w.heap.size (.slice (some ⟨w.heap.size, 0, none⟩) 0 0) [] L 0 rfl rfl (own0d _ (Nat.le_refl _)) X n k rfl HNN.out (hsr.below B1) b1 B1.size n (Nat.zero_add _) ?_; intro Y1 j1 w1 hown1 hg1; have hb1 := B1.grown hg1 B1.size (fun k hk => by simp [Value.ownBlock] at hk; omega); have lw1 := HB.out _ hb1)
      | (refine step_append_row rfl _ _ rfl w.heap.size (.slice (some ⟨w.heap.size, 0, none⟩) 0 0) [] L 0 rfl rfl (own2 _ _) X n k rfl HNN.out (hsr.below B12) b1 B12.size n (Nat.zero_add _) ?_; intro Y1 j1 w1 hown1 hg1; have hb1 := B12.grown hg1 B12.size (fun k hk => by simp [Value.ownBlock] at hk; omega); have hone := sr_keep (src2 w (x : Int)) (hg1.block _ (by show _ < (((w.alloc _).alloc _).heap.size); rw [size_alloc, size_alloc]; omega) (by simp [Value.ownBlock])))
      | (refine step_append_row rfl _ _ rfl w.heap.size (.slice (some ⟨w.heap.size + 1, 0, none⟩) 0 0) [] L 0 rfl rfl (own3 _ _) X n k rfl HNN.out (hsr.below B21) b1 B21.size n (Nat.zero_add _) ?_; intro Y1 j1 w1 hown1 hg1; have hb1 := B21.grown hg1 B21.size (fun k hk => by simp [Value.ownBlock] at hk; omega); have hone := sr_keep (src3 w (x : Int)) (hg1.block _ (by show _ < (((w.alloc _).alloc _).heap.size); rw [size_alloc, size_alloc]; omega) (by simp [Value.ownBlock])))
      | (refine step_append_row rfl _ _ rfl w.heap.size (.slice Y1 n j1) ([] ++ L) [(x : Int)] n HNN.out rfl (hown1.alloc _) _ 1 1 rfl rfl (sr_one _ (x : Int)) b2 (hb1.alloc hb1.size _).size (n + 1) rfl ?_; intro Y2 j2 w2 hown2 hg2; have hb2 := (hb1.alloc hb1.size _).grown hg2 (hb1.alloc hb1.size _).size (fun k hk => (hown1.lt k hk).1); obtain ⟨X5, k5, hc5, _⟩ := (HH.out.below hb2).row ha2; have hz5 := (HH.out.below hb2).frozen a)
      | (refine step_append_row rfl _ _ rfl w.heap.size (.slice Y1 n j1) ([] ++ L) [(x : Int)] n HNN.out rfl hown1 _ 1 1 rfl rfl hone b2 hb1.size (n + 1) rfl ?_; intro Y2 j2 w2 hown2 hg2; have hb2 := hb1.grown hg2 hb1.size (fun k hk => (hown1.lt k hk).1); obtain ⟨X5, k5, hc5, _⟩ := (HH.out.below hb2).row ha2; have hz5 := (HH.out.below hb2).frozen a))
  all_goals
    have HOWN := Lib.hid hown2
    have HB2 := Lib.hid hb2
    clear hown1 hown2 hg1 hg2 hb1 hb2 B0 B1 B2 B12 B21 l0 l1 l2 l12 l21
    go_wp2
    go_ret
    have hlen : (S'.R a).length = n + 1 := by rw [HRA.out, List.length_append, HNN.out]; rfl
    have hown : w2.ownsRow w.heap.size 3 1 (.slice Y2 (n + 1) j2) (n + 1) (vals (S'.R a)) := by rw [HRA.out]; simpa using HOWN.out
    obtain ⟨Y6, k6, e6, hs6⟩ := own_sl hlen hown
    injection e6 with e6 _ e7
    subst e6 e7
    exact ⟨rfl, (HH.out.below HB2.out).set HG.out ha2 HRO.out Y2 (n + 1) j2 hlen hs6, (Only.of_below HB2.out).setCell (q := ⟨q, a, none⟩) (.inl rfl) _⟩
end Go.Proofs.YtfilggkdhcjpbaaDoor
