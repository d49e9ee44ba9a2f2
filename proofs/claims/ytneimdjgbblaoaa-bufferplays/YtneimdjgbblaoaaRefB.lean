/- The document's own queues (detentref4): put. -/
import Derived.Test.YtneimdjgbblaoaaRefA
import Derived.Deep.RegionHeld3
namespace Go.Proofs.Ytneimdjgbblaoaa
open Go.RowKit
set_option maxRecDepth 100000

/-- the place, sought from behind, is the place sought from ahead, where all stand by priority -/
theorem plc_back {L : List It} {pri : Int} (hs : L.Pairwise (fun x y => x.2 ≤ y.2)) {k : Nat} (hk : k ≤ L.length) (h1 : ∀ (j : Nat) (y : It), k ≤ j → L[j]? = some y → pri < y.2) (h2 : ∀ y : It, 0 < k → L[k - 1]? = some y → y.2 ≤ pri) : plc true L pri = k := by
  have hb : ∀ (j : Nat) (y : It), j < k → L[j]? = some y → y.2 ≤ pri := fun j y hj hy => by
    obtain ⟨z, hz⟩ : ∃ z, L[k - 1]? = some z := ⟨_, List.getElem?_eq_getElem (by omega)⟩
    have h3 := h2 z (by omega) hz
    obtain ⟨hj1, ej⟩ := List.getElem?_eq_some_iff.1 hy
    obtain ⟨hk1, ek⟩ := List.getElem?_eq_some_iff.1 hz
    by_cases e : j = k - 1
    · subst e; rw [hz] at hy; injection hy with hy; rw [← hy]; exact h3
    · have := (List.pairwise_iff_getElem.1 hs) j (k - 1) hj1 hk1 (by omega)
      rw [ej, ek] at this; omega
  by_cases e : k = L.length
  · subst e
    exact plc_none fun j y hy => hb j y (List.getElem?_eq_some_iff.1 hy).1 hy
  · obtain ⟨z, hz⟩ : ∃ z, L[k]? = some z := ⟨_, List.getElem?_eq_getElem (by omega)⟩
    exact plc_eq hz (h1 k z (Nat.le_refl _) hz) hb

theorem own0 {B : Nat} (W : World) (hB : B ≤ W.heap.size) : (W.alloc (.cells #[] 100)).ownsRow B 100 2 (.slice (some ⟨W.heap.size, 0, none⟩) 0 0) 0 (vals []) :=
  World.ownsRow_lit W #[] 0 hB (by unfold maxLen; omega) rfl

/-- what stays while put builds its row -/
abbrev Hold (w0 : World) (q g n k : Nat) (X : Option Addr) (x : It) (W : World) : Prop :=
  W.cell? ⟨q, 1, none⟩ = some (.slice X n k) ∧ W.cell? ⟨g, 0, none⟩ = some (.int .i64 x.1) ∧ W.cell? ⟨g, 1, none⟩ = some (.int .i64 x.2) ∧ Below w0.heap.size w0 W
theorem hold_of {w0 W : World} {q g n k : Nat} {X : Option Addr} {x : It} (c1 : w0.cell? ⟨q, 1, none⟩ = some (.slice X n k)) (d0 : w0.cell? ⟨g, 0, none⟩ = some (.int .i64 x.1)) (d1 : w0.cell? ⟨g, 1, none⟩ = some (.int .i64 x.2)) (hb : Below w0.heap.size w0 W) : Hold w0 q g n k X x W :=
  ⟨(hb.cell (p := ⟨q, 1, none⟩) (block_lt_of_cell c1)).trans c1, (hb.cell (p := ⟨g, 0, none⟩) (block_lt_of_cell d0)).trans d0, (hb.cell (p := ⟨g, 1, none⟩) (block_lt_of_cell d1)).trans d1, hb⟩
theorem hold_alloc {w0 W : World} {q g n k : Nat} {X : Option Addr} {x : It} {o : Obj} (h : Hold w0 q g n k X x W) : Hold w0 q g n k X x (W.alloc o) := by
  obtain ⟨h1, h2, h3, hb⟩ := h
  have hk := (Below.refl W.heap.size W).alloc (Nat.le_refl _) o
  exact ⟨(hk.cell (p := ⟨q, 1, none⟩) (block_lt_of_cell h1)).trans h1, (hk.cell (p := ⟨g, 0, none⟩) (block_lt_of_cell h2)).trans h2, (hk.cell (p := ⟨g, 1, none⟩) (block_lt_of_cell h3)).trans h3, hb.alloc hb.size o⟩
theorem hold_drew {w0 W : World} {q g n k : Nat} {X : Option Addr} {x : It} (h : Hold w0 q g n k X x W) : Hold w0 q g n k X x W.drew := ⟨h.1, h.2.1, h.2.2.1, h.2.2.2.drew⟩
theorem Sr.hold {w0 W : World} {q g n k : Nat} {X : Option Addr} {x : It} {Y : Option Addr} {c : Nat} {L : List It} (hs : Sr w0 Y c L) (h : Hold w0 q g n k X x W) : Sr W Y c L := hs.below h.2.2.2
theorem hold_size {w0 W : World} {q g n k : Nat} {X : Option Addr} {x : It} (h : Hold w0 q g n k X x W) : w0.heap.size ≤ W.heap.size := h.2.2.2.size

theorem step_append_hold {w0 w : World} {q g n0 k0 : Nat} {X0 : Option Addr} {x0 : It} (hS : Hold w0 q g n0 k0 X0 x0 w) {ops : Array Oper} {o : Oper} {a : Act} {K : Act → World → Prop} {Q : Exit → Act → World → Prop} {E : Prop} (hgd : o.guard = none) (s x : Operand)
    (ho : o.op = .call { callee := .builtin .append, args := #[s, x], argTypes := #[91, 91] })
    (v : Value) (L1 L2 : List It) (n1 : Nat) (hn1 : L1.length = n1) (hs : a.eval s = v) (hown : w.ownsRow w0.heap.size 100 2 v n1 (vals L1)) (X : Option Addr) (n k : Nat) (hx : a.eval x = .slice X n k) (hn : L2.length = n)
    (hsrc : Sr w X k L2) (h63 : n1 + n ≤ 100000) (c : Nat) (hcc : n1 + n = c)
    (h : ∀ X' k' w', w'.ownsRow w0.heap.size 100 2 (.slice X' c k') c (vals (L1 ++ L2)) → Below w0.heap.size w0 w' → w.heap.size ≤ w'.heap.size → (∀ blk, blk < w.heap.size → v.ownBlock ≠ some blk → w'.heap[blk]? = w.heap[blk]?) → K (a.put o.dst (.slice X' c k')) w') :
    if Region.wanted o (yielded ops a.tmps) = true then Oper.wp Try.prog o a w K Q else E :=
  step_append_row hgd s x ho w0.heap.size v L1 L2 n1 hn1 hs hown X n k hx hn hsrc h63 hS.2.2.2.size c hcc fun X' k' w' h1 h2 =>
    h X' k' w' h1 (hS.2.2.2.grown h2 hS.2.2.2.size (fun k hk => (hown.lt k hk).1)) h2.size (fun blk hb hne => h2.block blk hb (fun e => hne e.symm))

theorem own0d {B : Nat} (W : World) (hB : B ≤ W.heap.size) : (W.alloc (.cells #[] 100)).drew.ownsRow B 100 2 (.slice (some ⟨W.heap.size, 0, none⟩) 0 0) 0 (vals []) := own0 W hB
theorem sr_keep {w w' : World} {b : Nat} {L : List It} (h : Sr w (some ⟨b, 0, none⟩) 1 L) (hs : w.heap.size ≤ w'.heap.size) (hk : w'.heap[b]? = w.heap[b]?) : Sr w' (some ⟨b, 0, none⟩) 1 L := by
  rcases h with ⟨h, _⟩ | ⟨b', o, h1, h2, h3⟩
  · cases h
  · injection h1 with h1; injection h1 with h1 h4; subst h1 h4
    exact .inr ⟨b, 0, rfl, Nat.lt_of_lt_of_le h2 hs, fun j u hu => by rw [World.cell?_of_block (w := w) (a := ⟨b, 0 + j, none⟩) hk]; exact h3 j u hu⟩

abbrev oneO (x : It) : Obj := .cells #[.int .i64 x.1, .int .i64 x.2] 100
theorem own2 (w0 : World) (o : Obj) : ((w0.alloc (.cells #[] 100)).alloc o).drew.ownsRow w0.heap.size 100 2 (.slice (some ⟨w0.heap.size, 0, none⟩) 0 0) 0 (vals []) := (own0 w0 (Nat.le_refl _)).alloc _
theorem size_alloc (w0 : World) (o : Obj) : (w0.alloc o).heap.size = w0.heap.size + 1 := by show (w0.heap.push o).size = _; simp
theorem own3 (w0 : World) (o : Obj) : ((w0.alloc o).alloc (.cells #[] 100)).drew.ownsRow w0.heap.size 100 2 (.slice (some ⟨w0.heap.size + 1, 0, none⟩) 0 0) 0 (vals []) := by
  have := own0 (B := w0.heap.size) (w0.alloc o) (by rw [size_alloc]; omega)
  rw [size_alloc] at this; exact this
theorem src2 (w0 : World) (x : It) : Sr ((w0.alloc (.cells #[] 100)).alloc (oneO x)).drew (some ⟨w0.heap.size + 1, 0, none⟩) 1 [x] := by
  have := sr_one (w0.alloc (.cells #[] 100)) x
  rw [size_alloc] at this; exact this
theorem src3 (w0 : World) (x : It) : Sr ((w0.alloc (oneO x)).alloc (.cells #[] 100)).drew (some ⟨w0.heap.size, 0, none⟩) 1 [x] :=
  (sr_one w0 x).below ((Below.refl (w0.alloc (oneO x)).heap.size (w0.alloc (oneO x))).alloc (Nat.le_refl _) (.cells #[] 100)).drew

set_option maxHeartbeats 1600000 in
theorem put_any (q : Nat) (b : Bool) (L : List It) (x : It) (w : World) (hl : Rq w q b L) (hn : L.length ≤ 16) (hs : b = true → L.Pairwise (fun x y => x.2 ≤ y.2)) (i1 i2 : Int) (h1 : i1 = x.1) (h2 : i2 = x.2) :
    Calls Try.prog 64 #[.pointer (some ⟨q, 0, none⟩), .agg #[.int .i64 i1, .int .i64 i2]] w fun e w' => e = .returned (.tuple #[]) ∧ Rq w' q b (ins L (plc b L x.2) x) ∧ Only q w w' := by
  subst h1 h2
  have ht := hl.below ((Below.refl w.heap.size w).alloc (Nat.le_refl _) (.cells #[.int .i64 x.1, .int .i64 x.2] 100))
  have hgt := box_new w 100 (.int .i64 x.1) (.int .i64 x.2)
  have hBt := (Below.refl w.heap.size w).alloc (Nat.le_refl _) (.cells #[.int .i64 x.1, .int .i64 x.2] 100)
  obtain ⟨n, hnn⟩ : ∃ n, L.length = n := ⟨_, rfl⟩
  rw [hnn] at hn
  cases b with
  | false =>
    obtain ⟨X0, k0, c0, c1, _, hk1, hk2, _⟩ := ht.open
    rw [hnn] at c1 hk1
    clear hs hl
    go_enter Try.func64, Try.ntmps64
    go_wp2
    generalize w.alloc (.cells #[.int .i64 x.1, .int .i64 x.2] 100) = wt at *
    obtain ⟨g, hgs⟩ : ∃ g, w.heap.size = g := ⟨_, rfl⟩
    rw [hgs] at hgt ⊢
    clear c0 c1 hk1 hk2
    obtain ⟨L1, L2, hL, hL1, hn12, hINS⟩ : ∃ L1 L2, L = L1 ++ L2 ∧ L1.length = n ∧ (L1 ++ L2).length = n ∧ ins L (plc false L x.2) x = L1 ++ x :: L2 := ⟨L, [], by simp, hnn, by simpa using hnn, by unfold ins plc; simp⟩
    have hin := hINS
    rw [hL] at hin
    have HINS := Lib.hid hin
    clear hINS hnn hin
    obtain ⟨n1, hn1⟩ : ∃ n1, n = n1 := ⟨_, rfl⟩
    rw [hn1] at hL1
    have en : (n : Int) = (n1 : Int) := by omega
    rw [en]
    have hl2 : L1.length + L2.length = n := by rw [← hn12, List.length_append]
    clear hn1 en
    obtain ⟨X, k, c0, c1, hs0, hk1, hk2, hz⟩ := ht.open
    have d0 := hgt.c0
    have d1 := hgt.c1
    subst hL
    obtain ⟨X1, X2, k1, k2, hA, hB, hs1, hs2⟩ := hs0.cut hk1
    rw [hn12] at c1 hA hB hk1
    rw [hL1] at hA hB
    have cA := fun W => hA W (n1 : Int) rfl
    have cB := fun W => hB W (n1 : Int) rfl
    have b1 : 0 + n1 ≤ 100000 := by omega
    have b2 : n1 + 1 ≤ 100000 := by omega
    have b3 : n1 + 1 + L2.length ≤ 100000 := by omega
    have HL1 := Lib.hid hL1
    have HT := Lib.hid ht
    have HBT := Lib.hid hBt
    have hqt := ht.lt
    obtain ⟨n2, hn2⟩ : ∃ n2, L2.length = n2 := ⟨_, rfl⟩
    rw [hn2] at cB b3
    have HL2 := Lib.hid hn2
    clear hA hB hs0 hgt ht hBt hL1 hn2
    go_region_held3 (fun W => W.cell? ⟨q, 1, none⟩ = some (.slice X n k) ∧ W.cell? ⟨g, 0, none⟩ = some (.int .i64 x.1) ∧ W.cell? ⟨g, 1, none⟩ = some (.int .i64 x.2) ∧ Below wt.heap.size wt W)
      (first | exact ⟨c1, d0, d1, Below.refl _ _⟩ | exact ⟨c1, d0, d1, (Below.refl _ _).drew⟩ | exact hold_drew (hold_alloc (hold_of c1 d0 d1 (Below.refl _ _))) | exact hold_alloc (by assumption) | exact hold_of c1 d0 d1 (by assumption))
      (first
        | (refine step_append_hold (by assumption) rfl _ _ rfl (.slice (some ⟨wt.heap.size, 0, none⟩) 0 0) [] L1 0 rfl rfl (own0d _ (Nat.le_refl _)) X1 n1 k1 rfl HL1.out (hs1.hold (by assumption)) b1 n1 (Nat.zero_add _) ?_; intro Y1 j1 w1 hown1 hbw hsz hkeep)
        | (refine step_append_hold (by assumption) rfl _ _ rfl (.slice (some ⟨wt.heap.size, 0, none⟩) 0 0) [] L1 0 rfl rfl (own2 _ _) X1 n1 k1 rfl HL1.out (hs1.hold (by assumption)) b1 n1 (Nat.zero_add _) ?_; intro Y1 j1 w1 hown1 hbw hsz hkeep; have hone := sr_keep (src2 wt x) hsz (hkeep _ (by show _ < (((wt.alloc _).alloc _).heap.size); rw [size_alloc, size_alloc]; omega) (by simp [Value.ownBlock])))
        | (refine step_append_hold (by assumption) rfl _ _ rfl (.slice (some ⟨wt.heap.size + 1, 0, none⟩) 0 0) [] L1 0 rfl rfl (own3 _ _) X1 n1 k1 rfl HL1.out (hs1.hold (by assumption)) b1 n1 (Nat.zero_add _) ?_; intro Y1 j1 w1 hown1 hbw hsz hkeep; have hone := sr_keep (src3 wt x) hsz (hkeep _ (by show _ < (((wt.alloc _).alloc _).heap.size); rw [size_alloc, size_alloc]; omega) (by simp [Value.ownBlock])))
        | (refine step_append_hold (by assumption) rfl _ _ rfl (.slice Y1 n1 j1) ([] ++ L1) [x] n1 HL1.out rfl (hown1.alloc _) _ 1 1 rfl rfl (sr_one _ x) b2 (n1 + 1) rfl ?_; intro Y2 j2 w2 hown2 hbw2 hsz2 hkeep2)
        | (refine step_append_hold (by assumption) rfl _ _ rfl (.slice Y1 n1 j1) ([] ++ L1) [x] n1 HL1.out rfl hown1 _ 1 1 rfl rfl hone b2 (n1 + 1) rfl ?_; intro Y2 j2 w2 hown2 hbw2 hsz2 hkeep2))
    all_goals
      have hq2 : w2.cell? ⟨q, 1, none⟩ = _ := (hbw2.cell (p := ⟨q, 1, none⟩) (block_lt_of_cell c1)).trans c1
      have hs3 := hs2.below hbw2
      have HOWN := Lib.hid hown2
      have HBW := Lib.hid hbw2
      clear hown1 hown2 hbw hbw2 hsz hsz2 hkeep hkeep2 cA c0 c1 d0 d1
      go_wp2_with (first
        | (at_builtin; refine wpList_append_row rfl _ _ rfl wt.heap.size (.slice Y2 (n1 + 1) j2) ([] ++ L1 ++ [x]) L2 (n1 + 1) (by rw [List.nil_append, List.length_append, HL1.out]; rfl) rfl HOWN.out X2 n2 k2 rfl HL2.out hs3 b3 HBW.out.size (n1 + 1 + n2) rfl ?_; intro Y4 j4 w4 hown4 hgrow4; have hb4 : Below wt.heap.size wt w4 := HBW.out.grown hgrow4 HBW.out.size (fun k hk => (HOWN.out.lt k hk).1); have HT4 := HT.out.below hb4; obtain ⟨X5, k5, _, hc5, _, _, _, hz5⟩ := HT4.open))
      go_end0
      have hlen : (L1 ++ x :: L2).length = n1 + 1 + n2 := by rw [List.length_append, HL1.out, List.length_cons, HL2.out]; omega
      obtain ⟨X6, k6, e6, h61, h62⟩ := own_form hown4
      injection e6 with e6 _ e7
      subst e6 e7
      refine ⟨rfl, ?_, ((Only.of_below HBT.out).of_new (Only.of_below (p := q) hb4) (.inr rfl)).setCell (q := ⟨q, 1, none⟩) (.inl rfl) _⟩
      have hset := HT4.set (L' := L1 ++ x :: L2) Y4 (n1 + 1 + n2) j4 hlen (Sl.own hlen (by simpa using hown4)) h61 h62
      rw [HINS.out]
      exact hset
  | true =>
    have HS := Lib.hid (hs rfl)
    have HNN := Lib.hid hnn
    obtain ⟨X0, k0, c0, c1, hsl0, hk1, hk2, _⟩ := ht.open
    rw [hnn] at c1 hk1 hsl0
    clear hs hl
    go_enter Try.func64, Try.ntmps64
    go_wp2
    generalize w.alloc (.cells #[.int .i64 x.1, .int .i64 x.2] 100) = wa at *
    obtain ⟨g, hgs⟩ : ∃ g, w.heap.size = g := ⟨_, rfl⟩
    rw [hgs] at hgt ⊢
    have HW := Lib.hid (show Rq wa q true L ∧ Box wa g 100 (.int .i64 x.1) (.int .i64 x.2) ∧ Below w.heap.size w wa from ⟨ht, hgt, hBt⟩)
    have HC := Lib.hid (show wa.cell? ⟨q, 0, none⟩ = some (.bool true) ∧ wa.cell? ⟨q, 1, none⟩ = some (.slice X0 n k0) from ⟨c0, c1⟩)
    have HSL := Lib.hid hsl0
    clear hsl0 c0 c1 ht hgt hBt hnn hgs
    go_loopw [4] (fun v wr => ∃ n1 d : Nat, n1 ≤ n ∧ v = .int .i64 (n1 : Int) ∧ wr = wa.drewN d ∧ ∀ (j : Nat) (y : It), n1 ≤ j → L[j]? = some y → x.2 < y.2) (fun v _ => (intOf v).toNat)
    case atStart => exact ⟨n, 0, Nat.le_refl _, rfl, rfl, fun j y hj hy => by have := (List.getElem?_eq_some_iff.1 hy).1; rw [HNN.out] at this; omega⟩
    case round =>
      obtain ⟨n1, d, hn1, rfl, hW, hno⟩ := hrel
      have HN := Lib.hid hno
      have HD : Hid (∃ d, wr = wa.drewN d) := ⟨d, hW⟩
      have ht2 : Rq wr q true L := by rw [hW]; exact HW.out.1
      have hg2 : Box wr g 100 (.int .i64 x.1) (.int .i64 x.2) := by rw [hW]; exact HW.out.2.1
      have hB2 : Below w.heap.size w wr := by rw [hW]; exact ⟨HW.out.2.2.os, HW.out.2.2.tape, HW.out.2.2.output, HW.out.2.2.size, HW.out.2.2.block⟩
      have c0 : wr.cell? ⟨q, 0, none⟩ = some (.bool true) := by rw [hW]; exact HC.out.1
      have c1 : wr.cell? ⟨q, 1, none⟩ = some (.slice X0 n k0) := by rw [hW]; exact HC.out.2
      have hsl : Sl wr 100 (.slice X0 n k0) L := by rw [hW]; exact HSL.out
      have e0 := hg2.c0
      have e1 := hg2.c1
      clear hno hW
      by_cases h0 : n1 = 0
      · have p1 : decide ((0 : Int) < (n1 : Int)) = false := by simp; omega
        have p2 : decide (0 < n1) = false := by simp; omega
        have HE : Hid (∀ y : It, 0 < n1 → L[n1 - 1]? = some y → y.2 ≤ x.2) := fun y h => absurd h (by omega)
        clear h0
        go_wp2
        go_quiet (fail)
        go_wp2
        have hte : Rq (wr.drewN nq) q true L := ht2
        have hge : Box (wr.drewN nq) g 100 (.int .i64 x.1) (.int .i64 x.2) := hg2
        have hBe : Below w.heap.size w (wr.drewN nq) := ⟨hB2.os, hB2.tape, hB2.output, hB2.size, hB2.block⟩
        generalize wr.drewN nq = wt at *
        clear ht2 hg2 hB2 c0 c1 e0 e1 hsl
        have ht := hte
        have hgt := hge
        have hBt := hBe
        clear hte hge hBe
        have hplc : plc true L x.2 = n1 := plc_back HS.out (by rw [HNN.out]; omega) HN.out HE.out
        obtain ⟨L1, L2, hL, hL1, hn12, hin⟩ : ∃ L1 L2, L = L1 ++ L2 ∧ L1.length = n1 ∧ (L1 ++ L2).length = n ∧ ins L n1 x = L1 ++ x :: L2 := ⟨L.take n1, L.drop n1, (List.take_append_drop _ _).symm, by rw [List.length_take, HNN.out]; omega, by rw [List.take_append_drop]; exact HNN.out, rfl⟩
        rw [← hplc, hL] at hin
        have HINS := Lib.hid hin
        clear hin hplc HS HN HE HNN
        have hl2 : L1.length + L2.length = n := by rw [← hn12, List.length_append]
        obtain ⟨X, k, c0, c1, hs0, hk1, hk2, hz⟩ := ht.open
        have d0 := hgt.c0
        have d1 := hgt.c1
        subst hL
        obtain ⟨X1, X2, k1, k2, hA, hB, hs1, hs2⟩ := hs0.cut hk1
        rw [hn12] at c1 hA hB hk1
        rw [hL1] at hA hB
        have cA := fun W => hA W (n1 : Int) rfl
        have cB := fun W => hB W (n1 : Int) rfl
        have b1 : 0 + n1 ≤ 100000 := by omega
        have b2 : n1 + 1 ≤ 100000 := by omega
        have b3 : n1 + 1 + L2.length ≤ 100000 := by omega
        have HL1 := Lib.hid hL1
        have HT := Lib.hid ht
        have HBT := Lib.hid hBt
        have hqt := ht.lt
        obtain ⟨n2, hn2⟩ : ∃ n2, L2.length = n2 := ⟨_, rfl⟩
        rw [hn2] at cB b3
        have HL2 := Lib.hid hn2
        clear hA hB hs0 hgt ht hBt hL1 hn2
        go_region_held3 (fun W => W.cell? ⟨q, 1, none⟩ = some (.slice X n k) ∧ W.cell? ⟨g, 0, none⟩ = some (.int .i64 x.1) ∧ W.cell? ⟨g, 1, none⟩ = some (.int .i64 x.2) ∧ Below wt.heap.size wt W)
          (first | exact ⟨c1, d0, d1, Below.refl _ _⟩ | exact ⟨c1, d0, d1, (Below.refl _ _).drew⟩ | exact hold_drew (hold_alloc (hold_of c1 d0 d1 (Below.refl _ _))) | exact hold_alloc (by assumption) | exact hold_of c1 d0 d1 (by assumption))
          (first
            | (refine step_append_hold (by assumption) rfl _ _ rfl (.slice (some ⟨wt.heap.size, 0, none⟩) 0 0) [] L1 0 rfl rfl (own0d _ (Nat.le_refl _)) X1 n1 k1 rfl HL1.out (hs1.hold (by assumption)) b1 n1 (Nat.zero_add _) ?_; intro Y1 j1 w1 hown1 hbw hsz hkeep)
            | (refine step_append_hold (by assumption) rfl _ _ rfl (.slice (some ⟨wt.heap.size, 0, none⟩) 0 0) [] L1 0 rfl rfl (own2 _ _) X1 n1 k1 rfl HL1.out (hs1.hold (by assumption)) b1 n1 (Nat.zero_add _) ?_; intro Y1 j1 w1 hown1 hbw hsz hkeep; have hone := sr_keep (src2 wt x) hsz (hkeep _ (by show _ < (((wt.alloc _).alloc _).heap.size); rw [size_alloc, size_alloc]; omega) (by simp [Value.ownBlock])))
            | (refine step_append_hold (by assumption) rfl _ _ rfl (.slice (some ⟨wt.heap.size + 1, 0, none⟩) 0 0) [] L1 0 rfl rfl (own3 _ _) X1 n1 k1 rfl HL1.out (hs1.hold (by assumption)) b1 n1 (Nat.zero_add _) ?_; intro Y1 j1 w1 hown1 hbw hsz hkeep; have hone := sr_keep (src3 wt x) hsz (hkeep _ (by show _ < (((wt.alloc _).alloc _).heap.size); rw [size_alloc, size_alloc]; omega) (by simp [Value.ownBlock])))
            | (refine step_append_hold (by assumption) rfl _ _ rfl (.slice Y1 n1 j1) ([] ++ L1) [x] n1 HL1.out rfl (hown1.alloc _) _ 1 1 rfl rfl (sr_one _ x) b2 (n1 + 1) rfl ?_; intro Y2 j2 w2 hown2 hbw2 hsz2 hkeep2)
            | (refine step_append_hold (by assumption) rfl _ _ rfl (.slice Y1 n1 j1) ([] ++ L1) [x] n1 HL1.out rfl hown1 _ 1 1 rfl rfl hone b2 (n1 + 1) rfl ?_; intro Y2 j2 w2 hown2 hbw2 hsz2 hkeep2))
        all_goals
          have hq2 : w2.cell? ⟨q, 1, none⟩ = _ := (hbw2.cell (p := ⟨q, 1, none⟩) (block_lt_of_cell c1)).trans c1
          have hs3 := hs2.below hbw2
          have HOWN := Lib.hid hown2
          have HBW := Lib.hid hbw2
          clear hown1 hown2 hbw hbw2 hsz hsz2 hkeep hkeep2 cA c0 c1 d0 d1
          go_wp2_with (first
            | (at_builtin; refine wpList_append_row rfl _ _ rfl wt.heap.size (.slice Y2 (n1 + 1) j2) ([] ++ L1 ++ [x]) L2 (n1 + 1) (by rw [List.nil_append, List.length_append, HL1.out]; rfl) rfl HOWN.out X2 n2 k2 rfl HL2.out hs3 b3 HBW.out.size (n1 + 1 + n2) rfl ?_; intro Y4 j4 w4 hown4 hgrow4; have hb4 : Below wt.heap.size wt w4 := HBW.out.grown hgrow4 HBW.out.size (fun k hk => (HOWN.out.lt k hk).1); have HT4 := HT.out.below hb4; obtain ⟨X5, k5, _, hc5, _, _, _, hz5⟩ := HT4.open))
          go_end0
          have hlen : (L1 ++ x :: L2).length = n1 + 1 + n2 := by rw [List.length_append, HL1.out, List.length_cons, HL2.out]; omega
          obtain ⟨X6, k6, e6, h61, h62⟩ := own_form hown4
          injection e6 with e6 _ e7
          subst e6 e7
          refine ⟨rfl, ?_, ((Only.of_below HBT.out).of_new (Only.of_below (p := q) hb4) (.inr rfl)).setCell (q := ⟨q, 1, none⟩) (.inl rfl) _⟩
          have hset := HT4.set (L' := L1 ++ x :: L2) Y4 (n1 + 1 + n2) j4 hlen (Sl.own hlen (by simpa using hown4)) h61 h62
          rw [HINS.out]
          exact hset
      · obtain ⟨m, hm⟩ : ∃ m, n1 = m + 1 := ⟨n1 - 1, by omega⟩
        obtain ⟨z, hz⟩ : ∃ z, L[m]? = some z := ⟨_, List.getElem?_eq_getElem (by rw [HNN.out]; omega)⟩
        obtain ⟨gg, o, rfl, hcl⟩ := sl_open hsl (by rw [HNN.out]; omega)
        have p1 : (0 : Int) < (n1 : Int) := by omega
        have p2 : 0 < n1 := by omega
        have p3 : IntKind.i64.wrap ((n1 : Int) - 1) = (m : Int) := by rw [IntWalk.i64_in _ (by omega)]; omega
        have p4 : (n1 : Int) - 1 = (m : Int) := by omega
        have p5 : (m : Int) < (n : Int) := by omega
        have hz1 := (hcl m z hz).2
        have HZ := Lib.hid hz
        have HM := Lib.hid hm
        clear hcl hz hm h0
        by_cases he : x.2 < z.2
        · have p6 : decide (x.2 < z.2) = true := by simpa using he
          clear hsl
          go_wp2
          go_quiet (fail)
          go_wp2
          go_roundw
          case rel =>
            obtain ⟨d9, e9⟩ := HD.out
            refine ⟨m, d9 + nq, by omega, by go_num, by rw [e9]; simp [World.drewN, Nat.add_assoc], fun j y hj hy => ?_⟩
            by_cases e : j = m
            · subst e; rw [HZ.out] at hy; injection hy with hy; rw [← hy]; exact he
            · exact HN.out j y (by have := HM.out; omega) hy
          case measure => have := HM.out; simp [intOf]; omega
        · have p6 : decide (x.2 < z.2) = false := by simpa using he
          have HE : Hid (∀ y : It, 0 < n1 → L[n1 - 1]? = some y → y.2 ≤ x.2) := fun y _ hy => by
            have : n1 - 1 = m := by have := HM.out; omega
            rw [this, HZ.out] at hy; injection hy with hy; rw [← hy]; omega
          clear he
          go_wp2
          go_quiet (fail)
          go_wp2
          have hte : Rq (wr.drewN nq) q true L := ht2
          have hge : Box (wr.drewN nq) g 100 (.int .i64 x.1) (.int .i64 x.2) := hg2
          have hBe : Below w.heap.size w (wr.drewN nq) := ⟨hB2.os, hB2.tape, hB2.output, hB2.size, hB2.block⟩
          generalize wr.drewN nq = wt at *
          clear ht2 hg2 hB2 c0 c1 e0 e1 hsl hz1 p1 p2 p3 p4 p5 p6
          have ht := hte
          have hgt := hge
          have hBt := hBe
          clear hte hge hBe
          have hplc : plc true L x.2 = n1 := plc_back HS.out (by rw [HNN.out]; omega) HN.out HE.out
          obtain ⟨L1, L2, hL, hL1, hn12, hin⟩ : ∃ L1 L2, L = L1 ++ L2 ∧ L1.length = n1 ∧ (L1 ++ L2).length = n ∧ ins L n1 x = L1 ++ x :: L2 := ⟨L.take n1, L.drop n1, (List.take_append_drop _ _).symm, by rw [List.length_take, HNN.out]; omega, by rw [List.take_append_drop]; exact HNN.out, rfl⟩
          rw [← hplc, hL] at hin
          have HINS := Lib.hid hin
          clear hin hplc HS HN HE HNN
          have hl2 : L1.length + L2.length = n := by rw [← hn12, List.length_append]
          obtain ⟨X, k, c0, c1, hs0, hk1, hk2, hz⟩ := ht.open
          have d0 := hgt.c0
          have d1 := hgt.c1
          subst hL
          obtain ⟨X1, X2, k1, k2, hA, hB, hs1, hs2⟩ := hs0.cut hk1
          rw [hn12] at c1 hA hB hk1
          rw [hL1] at hA hB
          have cA := fun W => hA W (n1 : Int) rfl
          have cB := fun W => hB W (n1 : Int) rfl
          have b1 : 0 + n1 ≤ 100000 := by omega
          have b2 : n1 + 1 ≤ 100000 := by omega
          have b3 : n1 + 1 + L2.length ≤ 100000 := by omega
          have HL1 := Lib.hid hL1
          have HT := Lib.hid ht
          have HBT := Lib.hid hBt
          have hqt := ht.lt
          obtain ⟨n2, hn2⟩ : ∃ n2, L2.length = n2 := ⟨_, rfl⟩
          rw [hn2] at cB b3
          have HL2 := Lib.hid hn2
          clear hA hB hs0 hgt ht hBt hL1 hn2
          go_region_held3 (fun W => W.cell? ⟨q, 1, none⟩ = some (.slice X n k) ∧ W.cell? ⟨g, 0, none⟩ = some (.int .i64 x.1) ∧ W.cell? ⟨g, 1, none⟩ = some (.int .i64 x.2) ∧ Below wt.heap.size wt W)
            (first | exact ⟨c1, d0, d1, Below.refl _ _⟩ | exact ⟨c1, d0, d1, (Below.refl _ _).drew⟩ | exact hold_drew (hold_alloc (hold_of c1 d0 d1 (Below.refl _ _))) | exact hold_alloc (by assumption) | exact hold_of c1 d0 d1 (by assumption))
            (first
              | (refine step_append_hold (by assumption) rfl _ _ rfl (.slice (some ⟨wt.heap.size, 0, none⟩) 0 0) [] L1 0 rfl rfl (own0d _ (Nat.le_refl _)) X1 n1 k1 rfl HL1.out (hs1.hold (by assumption)) b1 n1 (Nat.zero_add _) ?_; intro Y1 j1 w1 hown1 hbw hsz hkeep)
              | (refine step_append_hold (by assumption) rfl _ _ rfl (.slice (some ⟨wt.heap.size, 0, none⟩) 0 0) [] L1 0 rfl rfl (own2 _ _) X1 n1 k1 rfl HL1.out (hs1.hold (by assumption)) b1 n1 (Nat.zero_add _) ?_; intro Y1 j1 w1 hown1 hbw hsz hkeep; have hone := sr_keep (src2 wt x) hsz (hkeep _ (by show _ < (((wt.alloc _).alloc _).heap.size); rw [size_alloc, size_alloc]; omega) (by simp [Value.ownBlock])))
              | (refine step_append_hold (by assumption) rfl _ _ rfl (.slice (some ⟨wt.heap.size + 1, 0, none⟩) 0 0) [] L1 0 rfl rfl (own3 _ _) X1 n1 k1 rfl HL1.out (hs1.hold (by assumption)) b1 n1 (Nat.zero_add _) ?_; intro Y1 j1 w1 hown1 hbw hsz hkeep; have hone := sr_keep (src3 wt x) hsz (hkeep _ (by show _ < (((wt.alloc _).alloc _).heap.size); rw [size_alloc, size_alloc]; omega) (by simp [Value.ownBlock])))
              | (refine step_append_hold (by assumption) rfl _ _ rfl (.slice Y1 n1 j1) ([] ++ L1) [x] n1 HL1.out rfl (hown1.alloc _) _ 1 1 rfl rfl (sr_one _ x) b2 (n1 + 1) rfl ?_; intro Y2 j2 w2 hown2 hbw2 hsz2 hkeep2)
              | (refine step_append_hold (by assumption) rfl _ _ rfl (.slice Y1 n1 j1) ([] ++ L1) [x] n1 HL1.out rfl hown1 _ 1 1 rfl rfl hone b2 (n1 + 1) rfl ?_; intro Y2 j2 w2 hown2 hbw2 hsz2 hkeep2))
          all_goals
            have hq2 : w2.cell? ⟨q, 1, none⟩ = _ := (hbw2.cell (p := ⟨q, 1, none⟩) (block_lt_of_cell c1)).trans c1
            have hs3 := hs2.below hbw2
            have HOWN := Lib.hid hown2
            have HBW := Lib.hid hbw2
            clear hown1 hown2 hbw hbw2 hsz hsz2 hkeep hkeep2 cA c0 c1 d0 d1
            go_wp2_with (first
              | (at_builtin; refine wpList_append_row rfl _ _ rfl wt.heap.size (.slice Y2 (n1 + 1) j2) ([] ++ L1 ++ [x]) L2 (n1 + 1) (by rw [List.nil_append, List.length_append, HL1.out]; rfl) rfl HOWN.out X2 n2 k2 rfl HL2.out hs3 b3 HBW.out.size (n1 + 1 + n2) rfl ?_; intro Y4 j4 w4 hown4 hgrow4; have hb4 : Below wt.heap.size wt w4 := HBW.out.grown hgrow4 HBW.out.size (fun k hk => (HOWN.out.lt k hk).1); have HT4 := HT.out.below hb4; obtain ⟨X5, k5, _, hc5, _, _, _, hz5⟩ := HT4.open))
            go_end0
            have hlen : (L1 ++ x :: L2).length = n1 + 1 + n2 := by rw [List.length_append, HL1.out, List.length_cons, HL2.out]; omega
            obtain ⟨X6, k6, e6, h61, h62⟩ := own_form hown4
            injection e6 with e6 _ e7
            subst e6 e7
            refine ⟨rfl, ?_, ((Only.of_below HBT.out).of_new (Only.of_below (p := q) hb4) (.inr rfl)).setCell (q := ⟨q, 1, none⟩) (.inl rfl) _⟩
            have hset := HT4.set (L' := L1 ++ x :: L2) Y4 (n1 + 1 + n2) j4 hlen (Sl.own hlen (by simpa using hown4)) h61 h62
            rw [HINS.out]
            exact hset
end Go.Proofs.Ytneimdjgbblaoaa
