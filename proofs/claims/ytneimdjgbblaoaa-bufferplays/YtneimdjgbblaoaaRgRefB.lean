/- The document's own ring: Put. -/
import Derived.Test.YtneimdjgbblaoaaRgRefA
namespace Go.Proofs.Ytneimdjgbblaoaa.R
open Go.RowKit
set_option maxRecDepth 100000

theorem own0 {B : Nat} (W : World) (hB : B ≤ W.heap.size) : (W.alloc (.cells #[] 9)).ownsRow B 9 1 (.slice (some ⟨W.heap.size, 0, none⟩) 0 0) 0 (vals []) :=
  World.ownsRow_lit W #[] 0 hB (by unfold maxLen; omega) rfl
theorem own0d {B : Nat} (W : World) (hB : B ≤ W.heap.size) : (W.alloc (.cells #[] 9)).drew.ownsRow B 9 1 (.slice (some ⟨W.heap.size, 0, none⟩) 0 0) 0 (vals []) := own0 W hB
theorem size_alloc (w0 : World) (o : Obj) : (w0.alloc o).heap.size = w0.heap.size + 1 := by show (w0.heap.push o).size = _; simp
theorem own2 (w0 : World) (o : Obj) : ((w0.alloc (.cells #[] 9)).alloc o).drew.ownsRow w0.heap.size 9 1 (.slice (some ⟨w0.heap.size, 0, none⟩) 0 0) 0 (vals []) := (own0 w0 (Nat.le_refl _)).alloc _
theorem own3 (w0 : World) (o : Obj) : ((w0.alloc o).alloc (.cells #[] 9)).drew.ownsRow w0.heap.size 9 1 (.slice (some ⟨w0.heap.size + 1, 0, none⟩) 0 0) 0 (vals []) := by
  have := own0 (B := w0.heap.size) (w0.alloc o) (by rw [size_alloc]; omega)
  rw [size_alloc] at this; exact this
theorem src2 (w0 : World) (x : List Int) : Sr ((w0.alloc (.cells #[] 9)).alloc (.cells #[.string (str x)] 9)).drew (some ⟨w0.heap.size + 1, 0, none⟩) 1 [x] := by
  have := sr_one (w0.alloc (.cells #[] 9)) x
  rw [size_alloc] at this; exact this
theorem src3 (w0 : World) (x : List Int) : Sr ((w0.alloc (.cells #[.string (str x)] 9)).alloc (.cells #[] 9)).drew (some ⟨w0.heap.size, 0, none⟩) 1 [x] :=
  (sr_one w0 x).below ((Below.refl (w0.alloc (.cells #[.string (str x)] 9)).heap.size (w0.alloc (.cells #[.string (str x)] 9))).alloc (Nat.le_refl _) (.cells #[] 9)).drew
theorem sr_keep {w w' : World} {b : Nat} {L : List (List Int)} (h : Sr w (some ⟨b, 0, none⟩) 1 L) (hs : w.heap.size ≤ w'.heap.size) (hk : w'.heap[b]? = w.heap[b]?) : Sr w' (some ⟨b, 0, none⟩) 1 L := by
  rcases h with ⟨h, _⟩ | ⟨b', o, h1, h2, h3⟩
  · cases h
  · injection h1 with h1; injection h1 with h1 h4; subst h1 h4
    exact .inr ⟨b, 0, rfl, Nat.lt_of_lt_of_le h2 hs, fun j u hu => by rw [World.cell?_of_block (w := w) (a := ⟨b, 0 + j, none⟩) hk]; exact h3 j u hu⟩

theorem Src.below {w w' : World} {p m n : Nat} {A : Option Addr} {g : Nat → Int} (h : Src w p m A n g) (k : Below w.heap.size w w') : Src w' p m A n g := by
  intro hn
  obtain ⟨b, o, hA, h1, h2, hc⟩ := h hn
  exact ⟨b, o, hA, h1, h2, fun j hj => ⟨by rw [k.cell (p := ⟨b, o + j, none⟩) (block_lt_of_cell (hc j hj).1)]; exact (hc j hj).1, (hc j hj).2⟩⟩

set_option maxHeartbeats 1600000 in
theorem rput_in (q N bn bc : Nat) (L : List (List Int)) (f : Nat → Int) (A : Option Addr) (w : World) (h : Rf w q N L) (hs : Src w q q A bn f) (hfit : tot L ≤ N) (hN : N ≤ 65536) (hm : ∀ x, x ∈ L → x.length ≤ 1024) (hf : fits N (tot L) (bn : Int) = true) :
    Calls Try.prog 43 #[.pointer (some ⟨q, 0, none⟩), .slice A bn bc] w fun e w' => e = .returned (.bool true) ∧ Rf w' q N (L ++ [mkm bn f]) ∧ Only q q w w' := by
  obtain ⟨n, hnn⟩ : ∃ n, L.length = n := ⟨_, rfl⟩
  have hl := tot_len L
  rw [hnn] at hl
  have HF := Lib.hid (rfits_any q N L w h hfit hN hm (bn : Int) true hf)
  obtain ⟨X, k, _, c1, hsl, hk1, hk2, hz⟩ := h.open
  rw [hnn] at c1 hk1 hsl
  have hsr := hsl.src
  have b1 : 0 + n ≤ 100000 := by omega
  have b2 : n + 1 ≤ 100000 := by omega
  have HH := Lib.hid h
  have HNN := Lib.hid hnn
  have hstr := str_mkm bn f
  have HB : Hid (∀ W : World, Below w.heap.size w W → W.cell? ⟨q, 1, none⟩ = some (.slice X n k)) := fun W hb => (hb.cell (p := ⟨q, 1, none⟩) (block_lt_of_cell c1)).trans c1
  have HX : Hid (∀ W : World, Below w.heap.size w W → (convert 31 9 (.slice A bn bc)).run Try.prog W = .ok (.string (strOf bn f)) W) := fun W hb => run_str (hs.below hb)
  have hqt := h.lt
  rw [← hstr] at HX
  clear hm hf hnn h hsl hs hfit hl hstr c1
  generalize mkm bn f = x at *
  go_enter Try.func43, Try.ntmps43
  go_wp2_with fail
  refine HF.out.mono ?_
  rintro e w1 ⟨rfl, rfl⟩
  go_wp2
  have B0 := (Below.refl w.heap.size w).drew
  have B1 := ((Below.refl w.heap.size w).alloc (Nat.le_refl _) (.cells #[] 9)).drew
  have B2 := ((Below.refl w.heap.size w).alloc (Nat.le_refl _) (.cells #[.string (str x)] 9)).drew
  have B12 := (((Below.refl w.heap.size w).alloc (Nat.le_refl _) (.cells #[] 9)).alloc (by rw [size_alloc]; omega) (.cells #[.string (str x)] 9)).drew
  have B21 := (((Below.refl w.heap.size w).alloc (Nat.le_refl _) (.cells #[.string (str x)] 9)).alloc (by rw [size_alloc]; omega) (.cells #[] 9)).drew
  have l0 := HB.out _ B0
  have l1 := HB.out _ B1
  have l2 := HB.out _ B2
  have l12 := HB.out _ B12
  have l21 := HB.out _ B21
  have v0 := HX.out _ B0
  have v1 := HX.out _ B1
  have v2 := HX.out _ B2
  have v12 := HX.out _ B12
  have v21 := HX.out _ B21
  go_region_law (first
      | (refine step_append_row rfl _ _ rfl w.heap.size (.slice (some ⟨w.heap.size, 0, none⟩) 0 0) [] L 0 rfl rfl (own0d _ (Nat.le_refl _)) X n k rfl HNN.out (hsr.below B1) b1 B1.size n (Nat.zero_add _) ?_; intro Y1 j1 w1 hown1 hg1; have hb1 := B1.grown hg1 B1.size (fun k hk => by simp [Value.ownBlock] at hk; omega); have lw1 := HB.out _ hb1; have vw1 := HX.out _ hb1)
      | (refine step_append_row rfl _ _ rfl w.heap.size (.slice (some ⟨w.heap.size, 0, none⟩) 0 0) [] L 0 rfl rfl (own2 _ _) X n k rfl HNN.out (hsr.below B12) b1 B12.size n (Nat.zero_add _) ?_; intro Y1 j1 w1 hown1 hg1; have hb1 := B12.grown hg1 B12.size (fun k hk => by simp [Value.ownBlock] at hk; omega); have hone := sr_keep (src2 w x) hg1.size (hg1.block _ (by show _ < (((w.alloc _).alloc _).heap.size); rw [size_alloc, size_alloc]; omega) (by simp [Value.ownBlock])))
      | (refine step_append_row rfl _ _ rfl w.heap.size (.slice (some ⟨w.heap.size + 1, 0, none⟩) 0 0) [] L 0 rfl rfl (own3 _ _) X n k rfl HNN.out (hsr.below B21) b1 B21.size n (Nat.zero_add _) ?_; intro Y1 j1 w1 hown1 hg1; have hb1 := B21.grown hg1 B21.size (fun k hk => by simp [Value.ownBlock] at hk; omega); have hone := sr_keep (src3 w x) hg1.size (hg1.block _ (by show _ < (((w.alloc _).alloc _).heap.size); rw [size_alloc, size_alloc]; omega) (by simp [Value.ownBlock])))
      | (refine step_append_row rfl _ _ rfl w.heap.size (.slice Y1 n j1) ([] ++ L) [x] n HNN.out rfl (hown1.alloc _) _ 1 1 rfl rfl (sr_one _ x) b2 (hb1.alloc hb1.size _).size (n + 1) rfl ?_; intro Y2 j2 w2 hown2 hg2; have hb2 := (hb1.alloc hb1.size _).grown hg2 (hb1.alloc hb1.size _).size (fun k hk => (hown1.lt k hk).1); obtain ⟨X5, k5, _, hc5, _, _, _, hz5⟩ := (HH.out.below hb2).open)
      | (refine step_append_row rfl _ _ rfl w.heap.size (.slice Y1 n j1) ([] ++ L) [x] n HNN.out rfl hown1 _ 1 1 rfl rfl hone b2 hb1.size (n + 1) rfl ?_; intro Y2 j2 w2 hown2 hg2; have hb2 := hb1.grown hg2 hb1.size (fun k hk => (hown1.lt k hk).1); obtain ⟨X5, k5, _, hc5, _, _, _, hz5⟩ := (HH.out.below hb2).open))
  all_goals
    have HOWN := Lib.hid hown2
    have HB2 := Lib.hid hb2
    clear hown1 hown2 hg1 hg2 hb1 hb2 B0 B1 B2 B12 B21 l0 l1 l2 l12 l21 v0 v1 v2 v12 v21
    go_wp2
    go_ret
    have hlen : (L ++ [x]).length = n + 1 := by rw [List.length_append, HNN.out]; rfl
    obtain ⟨X6, k6, e6, h61, h62⟩ := own_form9 HOWN.out
    injection e6 with e6 _ e7
    subst e6 e7
    exact ⟨rfl, (HH.out.below HB2.out).set (L' := L ++ [x]) Y2 (n + 1) j2 hlen (Sl.own hlen (by simpa using HOWN.out)) h61 h62, (Only.of_below HB2.out).setCell (q := ⟨q, 1, none⟩) (.inl rfl) _⟩

set_option maxHeartbeats 400000 in
theorem rput_out (q N bn bc : Nat) (L : List (List Int)) (A : Option Addr) (w : World) (h : Rf w q N L) (hfit : tot L ≤ N) (hN : N ≤ 65536) (hm : ∀ x, x ∈ L → x.length ≤ 1024) (hf : fits N (tot L) (bn : Int) = false) :
    Calls Try.prog 43 #[.pointer (some ⟨q, 0, none⟩), .slice A bn bc] w fun e w' => e = .returned (.bool false) ∧ w = w' := by
  have HF := Lib.hid (rfits_any q N L w h hfit hN hm (bn : Int) false hf)
  clear h hm hf hfit
  go_enter Try.func43, Try.ntmps43
  go_wp2_with fail
  refine HF.out.mono ?_
  rintro e w1 ⟨rfl, rfl⟩
  go_wp2
  go_ret
  exact ⟨rfl, rfl⟩

/-- Put -/
theorem rput_any (q N bn bc : Nat) (L : List (List Int)) (f : Nat → Int) (A : Option Addr) (w : World) (h : Rf w q N L) (hs : Src w q q A bn f) (hfit : tot L ≤ N) (hN : N ≤ 65536) (hm : ∀ x, x ∈ L → x.length ≤ 1024) :
    Calls Try.prog 43 #[.pointer (some ⟨q, 0, none⟩), .slice A bn bc] w fun e w' => e = .returned (.bool (fits N (tot L) (bn : Int))) ∧ Rf w' q N (putL N L (mkm bn f)) ∧ Only q q w w' := by
  unfold putL
  rw [mkm_len]
  cases hf : fits N (tot L) (bn : Int) with
  | true => exact rput_in q N bn bc L f A w h hs hfit hN hm hf
  | false =>
    refine (rput_out q N bn bc L A w h hfit hN hm hf).mono ?_
    rintro e w' ⟨rfl, rfl⟩
    exact ⟨rfl, h, Only.refl _ _ _⟩
end Go.Proofs.Ytneimdjgbblaoaa.R
