/- The document's mailbox (detentref14): Send. -/
import Derived.Test.YtapogohekfeiiaaMxR
namespace Go.Proofs.Ytapogohekfeiiaa
open Go.RowKit
set_option maxRecDepth 100000

set_option maxHeartbeats 6400000 in
theorem rsend_any (m r : Nat) (S S' : St) (msg pri tt kc : Int) (w : World) (h : Rb w m r S) (hf : Fine S) (hn : S.M.length ≤ 1000) (hs : send S msg pri = (S', tt, kc)) :
    Calls Try.prog 11 #[.pointer (some ⟨m, 0, none⟩), .int .i64 msg, .int .i64 pri] w fun e w' => e = .returned (.tuple #[.int .i64 tt, .int .i64 kc]) ∧ Rb w' m r S' ∧ On2 m r w w' := by
  obtain ⟨b, L, mp, mo, M⟩ := S
  obtain ⟨X, kk, c0, c1, c2, c3, hsl, hk1, hk2, hz⟩ := h.open
  simp only at c0 c1 c2 c3 hsl hk1 hn
  obtain ⟨N, hN⟩ : ∃ N, M.length = N := ⟨_, rfl⟩
  rw [hN] at c3 hk1 hn
  have HNN := Lib.hid hN
  have HX := Lib.hid h
  have HG := Lib.hid hf.g
  have H16 := Lib.hid hf.q.len
  have HSL := Lib.hid hsl
  simp only at HG H16
  unfold send at hs
  simp only at hs
  clear h hf hsl hN
  by_cases z : msg = 0
  · have t0 : (msg == 0) = true := by simpa using z
    rw [if_pos (.inl z)] at hs
    simp only [Prod.mk.injEq] at hs
    obtain ⟨rfl, rfl, rfl⟩ := hs
    clear HSL
    go_enter Try.func11, Try.ntmps11
    go_wp2
    go_ret2
    exact ⟨rfl, HX.out, On2.refl _ _ _⟩
  have t0 : (msg == 0) = false := by simpa using z
  cases mp with
  | true =>
    by_cases p1 : pri < 1
    · have t1 : decide (pri < 1) = true := by simpa using p1
      rw [if_pos (.inr ⟨rfl, .inl p1⟩)] at hs
      simp only [Prod.mk.injEq] at hs
      obtain ⟨rfl, rfl, rfl⟩ := hs
      clear HSL p1 z
      go_enter Try.func11, Try.ntmps11
      go_wp2
      go_ret2
      exact ⟨rfl, HX.out, On2.refl _ _ _⟩
    have t1 : decide (pri < 1) = false := by simpa using p1
    by_cases p2 : mo < pri
    · have t2 : decide (mo < pri) = true := by simpa using p2
      rw [if_pos (.inr ⟨rfl, .inr p2⟩)] at hs
      simp only [Prod.mk.injEq] at hs
      obtain ⟨rfl, rfl, rfl⟩ := hs
      clear HSL p1 p2 z
      go_enter Try.func11, Try.ntmps11
      go_wp2
      go_ret2
      exact ⟨rfl, HX.out, On2.refl _ _ _⟩
    have t2 : decide (mo < pri) = false := by simpa using p2
    rw [if_neg (by rintro (h | ⟨_, h | h⟩); exact z h; exact p1 h; exact p2 h)] at hs
    clear z p1 p2
    have HS := Lib.hid hs
    clear hs
    go_enter Try.func11, Try.ntmps11
    go_wp2
    go_loop [8] (fun i => ∃ t : Nat, t ≤ N ∧ i = .int .i64 (t : Int) ∧ ∀ (j : Nat) (y : It), j < t → M[j]? = some y → y.1 ≠ msg) (fun i => N - (intOf i).toNat)
    case atStart => exact ⟨0, Nat.zero_le _, rfl, fun j y hj => absurd hj (by omega)⟩
    case round =>
      obtain ⟨t, ht, rfl, hno⟩ := hrel
      have HNO := Lib.hid hno
      clear hno
      by_cases hlt : t < N
      · obtain ⟨x, hx⟩ : ∃ x, M[t]? = some x := ⟨_, List.getElem?_eq_getElem (by rw [HNN.out]; exact hlt)⟩
        obtain ⟨g, o, rfl, hc⟩ := sl_open HSL.out (by rw [HNN.out]; omega)
        have hc0 := (hc t x hx).1
        have HXX := Lib.hid hx
        have it : (t : Int) < (N : Int) := by omega
        clear hx hc
        by_cases he : x.1 = msg
        · have te : (x.1 == msg) = true := by simpa using he
          have hs := HS.out
          rw [if_pos (mem_ids.2 ⟨x, List.mem_of_getElem? HXX.out, he⟩)] at hs
          simp only [Prod.mk.injEq] at hs
          obtain ⟨rfl, rfl, rfl⟩ := hs
          clear he
          go_wp2
          go_ret2
          exact ⟨rfl, HX.out, On2.refl _ _ _⟩
        · have te : (x.1 == msg) = false := by simpa using he
          have HNE := Lib.hid he
          clear he
          go_wp2
          go_round
          case rel =>
            refine ⟨t + 1, by omega, by go_num, fun j y hj hy => ?_⟩
            by_cases e : j = t
            · subst e; rw [HXX.out] at hy; injection hy with hy; rw [← hy]; exact HNE.out
            · exact HNO.out j y (by omega) hy
          case measure => simp [intOf]; omega
      · have v1 : decide ((t : Int) < (N : Int)) = false := by simp; omega
        have hni : msg ∉ ids M := fun h => by
          obtain ⟨y, hy, e⟩ := mem_ids.1 h
          obtain ⟨j, hj⟩ := List.getElem?_of_mem hy
          exact HNO.out j y (by have := (List.getElem?_eq_some_iff.1 hj).1; rw [HNN.out] at this; omega) hj e
        have hs := HS.out
        rw [if_neg hni] at hs
        clear hni HS
        cases L with
        | cons x L =>
          simp only [Prod.mk.injEq] at hs
          obtain ⟨rfl, rfl, rfl⟩ := hs
          have HT := Lib.hid (rtake_some r b x L w HX.out.q H16.out)
          go_wp2_with fail
          refine HT.out.mono ?_
          rintro e w1 ⟨rfl, hq1, ho1⟩
          have HB1 := Lib.hid ((HX.out.turn ho1 hq1).below ((Below.refl _ _).alloc (Nat.le_refl _) (.cells #[.int .i64 x.1, .int .i64 x.2] 81)))
          have HO1 := Lib.hid ((On2.at_r (m := m) ho1).alloc (.cells #[.int .i64 x.1, .int .i64 x.2] 81))
          have hx := box_new w1 81 (.int .i64 x.1) (.int .i64 x.2)
          have q0 := hx.c0
          clear hq1 ho1 hx HT c0 c1 c2 c3
          go_wp2
          go_ret2
          exact ⟨rfl, HB1.out, HO1.out⟩
        | nil =>
          simp only [Prod.mk.injEq] at hs
          obtain ⟨rfl, rfl, rfl⟩ := hs
          have HT := Lib.hid (rtake_none r b w HX.out.q)
          go_wp2_with fail
          refine HT.out.mono ?_
          rintro e w1 ⟨rfl, hb1⟩
          have hb2 := hb1.alloc hb1.size (.cells #[.int .i64 0, .int .i64 0] 81)
          have HR2 := Lib.hid (HX.out.below hb2)
          have HO2 := Lib.hid (On2.of_below (m := m) (r := r) hb2)
          have bx := box_new w1 81 (.int .i64 0) (.int .i64 0)
          clear hb1 hb2 HT c0 c1 c2 c3 bx v1 ht hlt hk1 hk2 hz
          skip
          have HORD := Lib.hid (HG.out.ord rfl)
          obtain ⟨X, kk, c0, c1, c2, c3, hsl, hk1, hk2, hz⟩ := HR2.out.open
          simp only at c1 c2 c3 hsl hk1
          rw [HNN.out] at c3 hk1
          have HSL2 := Lib.hid hsl
          clear hsl
          go_wp2
          generalize w1.alloc (.cells #[.int .i64 0, .int .i64 0] 81) = w2 at *
          go_loop [11] (fun v => ∃ n1 : Nat, n1 ≤ N ∧ v = .int .i64 (n1 : Int) ∧ ∀ (j : Nat) (y : It), n1 ≤ j → M[j]? = some y → pri < y.2) (fun v => (intOf v).toNat)
          case atStart => exact ⟨N, Nat.le_refl _, rfl, fun j y hj hy => by have := (List.getElem?_eq_some_iff.1 hy).1; rw [HNN.out] at this; omega⟩
          case round =>
            obtain ⟨n1, hn1, rfl, hno⟩ := hrel
            have HN := Lib.hid hno
            clear hno
            by_cases h0 : n1 = 0
            · have p1 : decide ((0 : Int) < (n1 : Int)) = false := by simp; omega
              have p2 : decide (0 < n1) = false := by simp; omega
              have HE : Hid (∀ y : It, 0 < n1 → M[n1 - 1]? = some y → y.2 ≤ pri) := fun y h => absurd h (by omega)
              clear h0
              have hplc : plc true M pri = n1 := plc_back HORD.out (by rw [HNN.out]; omega) HN.out HE.out
              obtain ⟨L1, L2, hL, hL1, hn12, hin⟩ : ∃ L1 L2, M = L1 ++ L2 ∧ L1.length = n1 ∧ (L1 ++ L2).length = N ∧ ins M n1 (msg, pri) = L1 ++ (msg, pri) :: L2 := ⟨M.take n1, M.drop n1, (List.take_append_drop _ _).symm, by rw [List.length_take, HNN.out]; omega, by rw [List.take_append_drop]; exact HNN.out, rfl⟩
              rw [← hplc] at hin
              clear HNN HSL HNO HX HG HORD HN HE hplc c1 c3 c0 c2 HSL2

              have HINS := Lib.hid hin
              clear hin
              obtain ⟨X, kk, c0, c1, c2, c3, hs0, hk1, hk2, hz⟩ := HR2.out.open
              simp only at c1 c2 c3 hs0 hk1
              subst hL
              obtain ⟨X1, X2, k1, k2, hA, hB, hs1, hs2⟩ := Mg.Sl.cut hs0 hk1
              rw [hn12] at c3 hA hB hk1
              rw [hL1] at hA hB
              have cA := fun W => hA W (n1 : Int) rfl
              have cB := fun W => hB W (n1 : Int) rfl
              have hl2 : L1.length + L2.length = N := by rw [← hn12, List.length_append]
              have b1 : 0 + n1 ≤ 100000 := by omega
              have b2 : n1 + 1 ≤ 100000 := by omega
              obtain ⟨n2, hn2⟩ : ∃ n2, L2.length = n2 := ⟨_, rfl⟩
              rw [hn2] at cB hB
              have b3 : n1 + 1 + n2 ≤ 100000 := by omega
              have HL1 := Lib.hid hL1
              have HL2 := Lib.hid hn2
              have how := mown0 w2 (Nat.le_refl w2.heap.size)
              have hbc := (Below.refl w2.heap.size w2).alloc (Nat.le_refl _) (.cells #[] 64)
              have hs1c := hs1.below hbc
              obtain ⟨B, hBB⟩ : ∃ B, w2.heap.size = B := ⟨_, rfl⟩
              obtain ⟨wc, hWC⟩ : ∃ wc, w2.alloc (.cells #[] 64) = wc := ⟨_, rfl⟩
              have hBc : B ≤ wc.heap.size := by rw [← hWC, size_alloc, hBB]; omega
              have c3b := (hbc.cell (p := ⟨m, 3, none⟩) HR2.out.lt).trans c3
              rw [hBB, hWC] at how hbc
              rw [hWC] at hs1c c3b
              have HBC := Lib.hid hBc
              have HC3 := Lib.hid c3
              have HS2 := Lib.hid hs2
              have HB := Lib.hid hBB
              clear hA hB hs0 hs1 hs2 hk1 hk2 hz hL1 hn2 hn12 hl2 hBc c0
              go_wp2_with (first
                | (at_builtin
                   refine Mg.wpList_append_row rfl _ _ rfl B (.slice (some ⟨B, 0, none⟩) 0 0) [] L1 0 rfl rfl how X1 n1 k1 rfl HL1.out hs1c b1 HBC.out n1 (Nat.zero_add _) ?_
                   intro Y1 j1 w4 hown4 hgrow4
                   have hb4 : Below B w2 w4 := hbc.grown hgrow4 HBC.out (fun k hk => (how.lt k hk).1)
                   have hb5 := hb4.alloc (by rw [← HB.out]; exact (by have := hb4.size; exact this)) (.cells #[.int .i64 msg, .int .i64 pri] 64)
                   have src := Mg.sr_one w4 (msg, pri)
                   have hown5 := hown4.alloc (.cells #[.int .i64 msg, .int .i64 pri] 64)
                   have HB5 := Lib.hid hb5
                   have HZ5 := Lib.hid (show B ≤ (w4.alloc (.cells #[.int .i64 msg, .int .i64 pri] 64)).heap.size by have := hb5.size; rw [← HB.out]; exact this)
                   clear hb4 hb5 how hs1c hbc c3b hgrow4)
                | (at_builtin
                   refine Mg.wpList_append_row rfl _ _ rfl B (.slice Y1 n1 j1) ([] ++ L1) [(msg, pri)] n1 HL1.out rfl hown5 _ 1 1 rfl rfl src b2 HZ5.out (n1 + 1) rfl ?_
                   intro Y2 j2 w6 hown6 hgrow6
                   have hb6 : Below B w2 w6 := HB5.out.grown hgrow6 HZ5.out (fun k hk => (hown5.lt k hk).1)
                   have HB6 := Lib.hid (show Below w2.heap.size w2 w6 by rw [HB.out]; exact hb6)
                   have HZ6 := Lib.hid (show B ≤ w6.heap.size by have := hb6.size; rw [← HB.out]; exact this)
                   have hown7 := hown6
                   have c3c := (HB6.out.cell (p := ⟨m, 3, none⟩) HR2.out.lt).trans HC3.out
                   have hs2c := HS2.out.below HB6.out
                   clear hb6 hgrow6 hown4 src)
                | (at_builtin
                   refine Mg.wpList_append_row rfl _ _ rfl B (.slice Y2 (n1 + 1) j2) ([] ++ L1 ++ [(msg, pri)]) L2 (n1 + 1) (by rw [List.nil_append, List.length_append, HL1.out]; rfl) rfl hown7 X2 n2 k2 rfl HL2.out hs2c b3 HZ6.out (n1 + 1 + n2) rfl ?_
                   intro Y4 j4 w8 hown8 hgrow8
                   have hb8 : Below B w2 w8 := (show Below B w2 w6 by rw [← HB.out]; exact HB6.out).grown hgrow8 HZ6.out (fun k hk => (hown7.lt k hk).1)
                   have HB8 := Lib.hid (show Below w2.heap.size w2 w8 by rw [HB.out]; exact hb8)
                   have HT8 := Lib.hid (HR2.out.below HB8.out)
                   obtain ⟨X5, k5, _, _, _, hc5, _, _, _, hz5⟩ := HT8.out.open
                   clear hb8 hgrow8 c3c hs2c))
              go_ret2
              have hlen : (L1 ++ (msg, pri) :: L2).length = n1 + 1 + n2 := by rw [List.length_append, HL1.out, List.length_cons, HL2.out]; omega
              obtain ⟨X6, k6, e6, h61, h62⟩ := mown_form hown8
              injection e6 with e6 _ e7
              subst e6 e7
              have hown9 : w8.ownsRow B 64 2 (.slice Y4 (n1 + 1 + n2) j4) (n1 + 1 + n2) (Mg.vals (L1 ++ (msg, pri) :: L2)) := by simpa using hown8
              have hset := HT8.out.set (M := L1 ++ (msg, pri) :: L2) Y4 (n1 + 1 + n2) j4 hlen (Mg.Sl.own hlen hown9) h61 h62
              refine ⟨rfl, ?_, (HO2.out.trans (.of_below HB8.out)).trans (.at_m ((Only.refl _ _).setCell (q := ⟨m, 3, none⟩) (.inl rfl) _))⟩
              rw [HINS.out]
              exact hset
            · obtain ⟨u, hu⟩ : ∃ u, n1 = u + 1 := ⟨n1 - 1, by omega⟩
              obtain ⟨z, hz9⟩ : ∃ z, M[u]? = some z := ⟨_, List.getElem?_eq_getElem (by rw [HNN.out]; omega)⟩
              obtain ⟨gg, o, rfl, hcl⟩ := sl_open HSL2.out (by rw [HNN.out]; omega)
              have p1 : (0 : Int) < (n1 : Int) := by omega
              have p2 : 0 < n1 := by omega
              have p3 : IntKind.i64.wrap ((n1 : Int) - 1) = (u : Int) := by rw [IntWalk.i64_in _ (by omega)]; omega
              have p4 : (n1 : Int) - 1 = (u : Int) := by omega
              have p5 : (u : Int) < (N : Int) := by omega
              have hz1 := (hcl u z hz9).2
              have HZ := Lib.hid hz9
              have HM := Lib.hid hu
              clear hcl hz9 hu h0
              by_cases he : pri < z.2
              · have p6 : decide (pri < z.2) = true := by simpa using he
                have HQ := Lib.hid he
                clear he
                go_wp2
                go_round
                case rel =>
                  refine ⟨u, by omega, by go_num, fun j y hj hy => ?_⟩
                  by_cases e : j = u
                  · subst e; rw [HZ.out] at hy; injection hy with hy; rw [← hy]; exact HQ.out
                  · exact HN.out j y (by have := HM.out; omega) hy
                case measure => have := HM.out; simp [intOf]; omega
              · have p6 : decide (pri < z.2) = false := by simpa using he
                have HE : Hid (∀ y : It, 0 < n1 → M[n1 - 1]? = some y → y.2 ≤ pri) := fun y _ hy => by
                  have : n1 - 1 = u := by have := HM.out; omega
                  rw [this, HZ.out] at hy; injection hy with hy; rw [← hy]; omega
                clear he
                have hplc : plc true M pri = n1 := plc_back HORD.out (by rw [HNN.out]; omega) HN.out HE.out
                obtain ⟨L1, L2, hL, hL1, hn12, hin⟩ : ∃ L1 L2, M = L1 ++ L2 ∧ L1.length = n1 ∧ (L1 ++ L2).length = N ∧ ins M n1 (msg, pri) = L1 ++ (msg, pri) :: L2 := ⟨M.take n1, M.drop n1, (List.take_append_drop _ _).symm, by rw [List.length_take, HNN.out]; omega, by rw [List.take_append_drop]; exact HNN.out, rfl⟩
                rw [← hplc] at hin
                clear HNN HSL HNO HX HG HORD HN HE hplc c0 c2 HSL2

                have HINS := Lib.hid hin
                clear hin
                obtain ⟨X, kk, c0, c1, c2, c3, hs0, hk1, hk2, hz⟩ := HR2.out.open
                simp only at c1 c2 c3 hs0 hk1
                subst hL
                obtain ⟨X1, X2, k1, k2, hA, hB, hs1, hs2⟩ := Mg.Sl.cut hs0 hk1
                rw [hn12] at c3 hA hB hk1
                rw [hL1] at hA hB
                have cA := fun W => hA W (n1 : Int) rfl
                have cB := fun W => hB W (n1 : Int) rfl
                have hl2 : L1.length + L2.length = N := by rw [← hn12, List.length_append]
                have b1 : 0 + n1 ≤ 100000 := by omega
                have b2 : n1 + 1 ≤ 100000 := by omega
                obtain ⟨n2, hn2⟩ : ∃ n2, L2.length = n2 := ⟨_, rfl⟩
                rw [hn2] at cB hB
                have b3 : n1 + 1 + n2 ≤ 100000 := by omega
                have HL1 := Lib.hid hL1
                have HL2 := Lib.hid hn2
                have how := mown0 w2 (Nat.le_refl w2.heap.size)
                have hbc := (Below.refl w2.heap.size w2).alloc (Nat.le_refl _) (.cells #[] 64)
                have hs1c := hs1.below hbc
                obtain ⟨B, hBB⟩ : ∃ B, w2.heap.size = B := ⟨_, rfl⟩
                obtain ⟨wc, hWC⟩ : ∃ wc, w2.alloc (.cells #[] 64) = wc := ⟨_, rfl⟩
                have hBc : B ≤ wc.heap.size := by rw [← hWC, size_alloc, hBB]; omega
                have c3b := (hbc.cell (p := ⟨m, 3, none⟩) HR2.out.lt).trans c3
                rw [hBB, hWC] at how hbc
                rw [hWC] at hs1c c3b
                have HBC := Lib.hid hBc
                have HC3 := Lib.hid c3
                have HS2 := Lib.hid hs2
                have HB := Lib.hid hBB
                clear hA hB hs0 hs1 hs2 hk1 hk2 hz hL1 hn2 hn12 hl2 hBc c0
                go_wp2_with (first
                  | (at_builtin
                     refine Mg.wpList_append_row rfl _ _ rfl B (.slice (some ⟨B, 0, none⟩) 0 0) [] L1 0 rfl rfl how X1 n1 k1 rfl HL1.out hs1c b1 HBC.out n1 (Nat.zero_add _) ?_
                     intro Y1 j1 w4 hown4 hgrow4
                     have hb4 : Below B w2 w4 := hbc.grown hgrow4 HBC.out (fun k hk => (how.lt k hk).1)
                     have hb5 := hb4.alloc (by rw [← HB.out]; exact (by have := hb4.size; exact this)) (.cells #[.int .i64 msg, .int .i64 pri] 64)
                     have src := Mg.sr_one w4 (msg, pri)
                     have hown5 := hown4.alloc (.cells #[.int .i64 msg, .int .i64 pri] 64)
                     have HB5 := Lib.hid hb5
                     have HZ5 := Lib.hid (show B ≤ (w4.alloc (.cells #[.int .i64 msg, .int .i64 pri] 64)).heap.size by have := hb5.size; rw [← HB.out]; exact this)
                     clear hb4 hb5 how hs1c hbc c3b hgrow4)
                  | (at_builtin
                     refine Mg.wpList_append_row rfl _ _ rfl B (.slice Y1 n1 j1) ([] ++ L1) [(msg, pri)] n1 HL1.out rfl hown5 _ 1 1 rfl rfl src b2 HZ5.out (n1 + 1) rfl ?_
                     intro Y2 j2 w6 hown6 hgrow6
                     have hb6 : Below B w2 w6 := HB5.out.grown hgrow6 HZ5.out (fun k hk => (hown5.lt k hk).1)
                     have HB6 := Lib.hid (show Below w2.heap.size w2 w6 by rw [HB.out]; exact hb6)
                     have HZ6 := Lib.hid (show B ≤ w6.heap.size by have := hb6.size; rw [← HB.out]; exact this)
                     have hown7 := hown6
                     have c3c := (HB6.out.cell (p := ⟨m, 3, none⟩) HR2.out.lt).trans HC3.out
                     have hs2c := HS2.out.below HB6.out
                     clear hb6 hgrow6 hown4 src)
                  | (at_builtin
                     refine Mg.wpList_append_row rfl _ _ rfl B (.slice Y2 (n1 + 1) j2) ([] ++ L1 ++ [(msg, pri)]) L2 (n1 + 1) (by rw [List.nil_append, List.length_append, HL1.out]; rfl) rfl hown7 X2 n2 k2 rfl HL2.out hs2c b3 HZ6.out (n1 + 1 + n2) rfl ?_
                     intro Y4 j4 w8 hown8 hgrow8
                     have hb8 : Below B w2 w8 := (show Below B w2 w6 by rw [← HB.out]; exact HB6.out).grown hgrow8 HZ6.out (fun k hk => (hown7.lt k hk).1)
                     have HB8 := Lib.hid (show Below w2.heap.size w2 w8 by rw [HB.out]; exact hb8)
                     have HT8 := Lib.hid (HR2.out.below HB8.out)
                     obtain ⟨X5, k5, _, _, _, hc5, _, _, _, hz5⟩ := HT8.out.open
                     clear hb8 hgrow8 c3c hs2c))
                go_ret2
                have hlen : (L1 ++ (msg, pri) :: L2).length = n1 + 1 + n2 := by rw [List.length_append, HL1.out, List.length_cons, HL2.out]; omega
                obtain ⟨X6, k6, e6, h61, h62⟩ := mown_form hown8
                injection e6 with e6 _ e7
                subst e6 e7
                have hown9 : w8.ownsRow B 64 2 (.slice Y4 (n1 + 1 + n2) j4) (n1 + 1 + n2) (Mg.vals (L1 ++ (msg, pri) :: L2)) := by simpa using hown8
                have hset := HT8.out.set (M := L1 ++ (msg, pri) :: L2) Y4 (n1 + 1 + n2) j4 hlen (Mg.Sl.own hlen hown9) h61 h62
                refine ⟨rfl, ?_, (HO2.out.trans (.of_below HB8.out)).trans (.at_m ((Only.refl _ _).setCell (q := ⟨m, 3, none⟩) (.inl rfl) _))⟩
                rw [HINS.out]
                exact hset
  | false =>
    rw [if_neg (by rintro (h | ⟨h, _⟩); exact z h; cases h)] at hs
    clear z
    have HS := Lib.hid hs
    clear hs
    go_enter Try.func11, Try.ntmps11
    go_wp2
    go_loop [8] (fun i => ∃ t : Nat, t ≤ N ∧ i = .int .i64 (t : Int) ∧ ∀ (j : Nat) (y : It), j < t → M[j]? = some y → y.1 ≠ msg) (fun i => N - (intOf i).toNat)
    case atStart => exact ⟨0, Nat.zero_le _, rfl, fun j y hj => absurd hj (by omega)⟩
    case round =>
      obtain ⟨t, ht, rfl, hno⟩ := hrel
      have HNO := Lib.hid hno
      clear hno
      by_cases hlt : t < N
      · obtain ⟨x, hx⟩ : ∃ x, M[t]? = some x := ⟨_, List.getElem?_eq_getElem (by rw [HNN.out]; exact hlt)⟩
        obtain ⟨g, o, rfl, hc⟩ := sl_open HSL.out (by rw [HNN.out]; omega)
        have hc0 := (hc t x hx).1
        have HXX := Lib.hid hx
        have it : (t : Int) < (N : Int) := by omega
        clear hx hc
        by_cases he : x.1 = msg
        · have te : (x.1 == msg) = true := by simpa using he
          have hs := HS.out
          rw [if_pos (mem_ids.2 ⟨x, List.mem_of_getElem? HXX.out, he⟩)] at hs
          simp only [Prod.mk.injEq] at hs
          obtain ⟨rfl, rfl, rfl⟩ := hs
          clear he
          go_wp2
          go_ret2
          exact ⟨rfl, HX.out, On2.refl _ _ _⟩
        · have te : (x.1 == msg) = false := by simpa using he
          have HNE := Lib.hid he
          clear he
          go_wp2
          go_round
          case rel =>
            refine ⟨t + 1, by omega, by go_num, fun j y hj hy => ?_⟩
            by_cases e : j = t
            · subst e; rw [HXX.out] at hy; injection hy with hy; rw [← hy]; exact HNE.out
            · exact HNO.out j y (by omega) hy
          case measure => simp [intOf]; omega
      · have v1 : decide ((t : Int) < (N : Int)) = false := by simp; omega
        have hni : msg ∉ ids M := fun h => by
          obtain ⟨y, hy, e⟩ := mem_ids.1 h
          obtain ⟨j, hj⟩ := List.getElem?_of_mem hy
          exact HNO.out j y (by have := (List.getElem?_eq_some_iff.1 hj).1; rw [HNN.out] at this; omega) hj e
        have hs := HS.out
        rw [if_neg hni] at hs
        clear hni HS
        cases L with
        | cons x L =>
          simp only [Prod.mk.injEq] at hs
          obtain ⟨rfl, rfl, rfl⟩ := hs
          have HT := Lib.hid (rtake_some r b x L w HX.out.q H16.out)
          go_wp2_with fail
          refine HT.out.mono ?_
          rintro e w1 ⟨rfl, hq1, ho1⟩
          have HB1 := Lib.hid ((HX.out.turn ho1 hq1).below ((Below.refl _ _).alloc (Nat.le_refl _) (.cells #[.int .i64 x.1, .int .i64 x.2] 81)))
          have HO1 := Lib.hid ((On2.at_r (m := m) ho1).alloc (.cells #[.int .i64 x.1, .int .i64 x.2] 81))
          have hx := box_new w1 81 (.int .i64 x.1) (.int .i64 x.2)
          have q0 := hx.c0
          clear hq1 ho1 hx HT c0 c1 c2 c3
          go_wp2
          go_ret2
          exact ⟨rfl, HB1.out, HO1.out⟩
        | nil =>
          simp only [Prod.mk.injEq] at hs
          obtain ⟨rfl, rfl, rfl⟩ := hs
          have HT := Lib.hid (rtake_none r b w HX.out.q)
          go_wp2_with fail
          refine HT.out.mono ?_
          rintro e w1 ⟨rfl, hb1⟩
          have hb2 := hb1.alloc hb1.size (.cells #[.int .i64 0, .int .i64 0] 81)
          have HR2 := Lib.hid (HX.out.below hb2)
          have HO2 := Lib.hid (On2.of_below (m := m) (r := r) hb2)
          have bx := box_new w1 81 (.int .i64 0) (.int .i64 0)
          clear hb1 hb2 HT c0 c1 c2 c3 bx v1 ht hlt hk1 hk2 hz
          skip
          obtain ⟨X, kk, c0, c1, c2, c3, hsl, hk1, hk2, hz⟩ := HR2.out.open
          simp only at c1 c2 c3 hsl hk1
          rw [HNN.out] at c3 hk1
          obtain ⟨mq, hmq⟩ : ∃ mq, mq = false := ⟨_, rfl⟩
          rw [← hmq] at c1
          have HMQ := Lib.hid hmq
          clear hsl hmq
          go_wp2
          generalize w1.alloc (.cells #[.int .i64 0, .int .i64 0] 81) = w2 at *
          go_loop [11] (fun v => v = .int .i64 (N : Int)) (fun v => 0)
          case atStart => rfl
          case round =>
            obtain rfl := hrel
            obtain rfl := HMQ.out
            obtain ⟨n1, hn1⟩ : ∃ n1, N = n1 := ⟨_, rfl⟩
            obtain ⟨L1, L2, hL, hL1, hn12, hin⟩ : ∃ L1 L2, M = L1 ++ L2 ∧ L1.length = n1 ∧ (L1 ++ L2).length = N ∧ ins M (plc false M pri) (msg, pri) = L1 ++ (msg, pri) :: L2 := ⟨M, [], by simp, by rw [HNN.out, hn1], by simpa using HNN.out, by unfold ins plc; simp⟩
            have HEN := Lib.hid hn1
            rw [hn1]
            clear HNN HSL HNO HX HG hn1 c0 c2 c3 hk1 hk2 hz
            have HINS := Lib.hid hin
            clear hin
            obtain ⟨X, kk, c0, c1, c2, c3, hs0, hk1, hk2, hz⟩ := HR2.out.open
            simp only at c1 c2 c3 hs0 hk1
            subst hL
            obtain ⟨X1, X2, k1, k2, hA, hB, hs1, hs2⟩ := Mg.Sl.cut hs0 hk1
            rw [hn12] at c3 hA hB hk1
            rw [hL1] at hA hB
            have cA := fun W => hA W (n1 : Int) rfl
            have cB := fun W => hB W (n1 : Int) rfl
            have hl2 : L1.length + L2.length = N := by rw [← hn12, List.length_append]
            have b1 : 0 + n1 ≤ 100000 := by omega
            have b2 : n1 + 1 ≤ 100000 := by omega
            obtain ⟨n2, hn2⟩ : ∃ n2, L2.length = n2 := ⟨_, rfl⟩
            rw [hn2] at cB hB
            have b3 : n1 + 1 + n2 ≤ 100000 := by omega
            have HL1 := Lib.hid hL1
            have HL2 := Lib.hid hn2
            have how := mown0 w2 (Nat.le_refl w2.heap.size)
            have hbc := (Below.refl w2.heap.size w2).alloc (Nat.le_refl _) (.cells #[] 64)
            have hs1c := hs1.below hbc
            obtain ⟨B, hBB⟩ : ∃ B, w2.heap.size = B := ⟨_, rfl⟩
            obtain ⟨wc, hWC⟩ : ∃ wc, w2.alloc (.cells #[] 64) = wc := ⟨_, rfl⟩
            have hBc : B ≤ wc.heap.size := by rw [← hWC, size_alloc, hBB]; omega
            have c3b := (hbc.cell (p := ⟨m, 3, none⟩) HR2.out.lt).trans c3
            rw [hBB, hWC] at how hbc
            rw [hWC] at hs1c c3b
            have HBC := Lib.hid hBc
            have HC3 := Lib.hid c3
            have HS2 := Lib.hid hs2
            have HB := Lib.hid hBB
            clear hA hB hs0 hs1 hs2 hk1 hk2 hz hL1 hn2 hn12 hl2 hBc c0
            go_wp2_with (first
              | (at_builtin
                 refine Mg.wpList_append_row rfl _ _ rfl B (.slice (some ⟨B, 0, none⟩) 0 0) [] L1 0 rfl rfl how X1 n1 k1 rfl HL1.out hs1c b1 HBC.out n1 (Nat.zero_add _) ?_
                 intro Y1 j1 w4 hown4 hgrow4
                 have hb4 : Below B w2 w4 := hbc.grown hgrow4 HBC.out (fun k hk => (how.lt k hk).1)
                 have hb5 := hb4.alloc (by rw [← HB.out]; exact (by have := hb4.size; exact this)) (.cells #[.int .i64 msg, .int .i64 pri] 64)
                 have src := Mg.sr_one w4 (msg, pri)
                 have hown5 := hown4.alloc (.cells #[.int .i64 msg, .int .i64 pri] 64)
                 have HB5 := Lib.hid hb5
                 have HZ5 := Lib.hid (show B ≤ (w4.alloc (.cells #[.int .i64 msg, .int .i64 pri] 64)).heap.size by have := hb5.size; rw [← HB.out]; exact this)
                 clear hb4 hb5 how hs1c hbc c3b hgrow4)
              | (at_builtin
                 refine Mg.wpList_append_row rfl _ _ rfl B (.slice Y1 n1 j1) ([] ++ L1) [(msg, pri)] n1 HL1.out rfl hown5 _ 1 1 rfl rfl src b2 HZ5.out (n1 + 1) rfl ?_
                 intro Y2 j2 w6 hown6 hgrow6
                 have hb6 : Below B w2 w6 := HB5.out.grown hgrow6 HZ5.out (fun k hk => (hown5.lt k hk).1)
                 have HB6 := Lib.hid (show Below w2.heap.size w2 w6 by rw [HB.out]; exact hb6)
                 have HZ6 := Lib.hid (show B ≤ w6.heap.size by have := hb6.size; rw [← HB.out]; exact this)
                 have hown7 := hown6
                 have c3c := (HB6.out.cell (p := ⟨m, 3, none⟩) HR2.out.lt).trans HC3.out
                 have hs2c := HS2.out.below HB6.out
                 clear hb6 hgrow6 hown4 src)
              | (at_builtin
                 refine Mg.wpList_append_row rfl _ _ rfl B (.slice Y2 (n1 + 1) j2) ([] ++ L1 ++ [(msg, pri)]) L2 (n1 + 1) (by rw [List.nil_append, List.length_append, HL1.out]; rfl) rfl hown7 X2 n2 k2 rfl HL2.out hs2c b3 HZ6.out (n1 + 1 + n2) rfl ?_
                 intro Y4 j4 w8 hown8 hgrow8
                 have hb8 : Below B w2 w8 := (show Below B w2 w6 by rw [← HB.out]; exact HB6.out).grown hgrow8 HZ6.out (fun k hk => (hown7.lt k hk).1)
                 have HB8 := Lib.hid (show Below w2.heap.size w2 w8 by rw [HB.out]; exact hb8)
                 have HT8 := Lib.hid (HR2.out.below HB8.out)
                 obtain ⟨X5, k5, _, _, _, hc5, _, _, _, hz5⟩ := HT8.out.open
                 clear hb8 hgrow8 c3c hs2c))
            go_ret2
            have hlen : (L1 ++ (msg, pri) :: L2).length = n1 + 1 + n2 := by rw [List.length_append, HL1.out, List.length_cons, HL2.out]; omega
            obtain ⟨X6, k6, e6, h61, h62⟩ := mown_form hown8
            injection e6 with e6 _ e7
            subst e6 e7
            have hown9 : w8.ownsRow B 64 2 (.slice Y4 (n1 + 1 + n2) j4) (n1 + 1 + n2) (Mg.vals (L1 ++ (msg, pri) :: L2)) := by simpa using hown8
            have hset := HT8.out.set (M := L1 ++ (msg, pri) :: L2) Y4 (n1 + 1 + n2) j4 hlen (Mg.Sl.own hlen hown9) h61 h62
            refine ⟨rfl, ?_, (HO2.out.trans (.of_below HB8.out)).trans (.at_m ((Only.refl _ _).setCell (q := ⟨m, 3, none⟩) (.inl rfl) _))⟩
            rw [HINS.out]
            exact hset
end Go.Proofs.Ytapogohekfeiiaa
