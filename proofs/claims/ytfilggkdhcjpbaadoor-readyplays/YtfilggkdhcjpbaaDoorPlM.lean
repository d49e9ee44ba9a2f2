/-
  detentlaw9.ReadyPlays: the walk.
-/
import Derived.Test.YtfilggkdhcjpbaaDoorPlO
namespace Go.Proofs.YtfilggkdhcjpbaaDoor.readyPlays
open Go.RowKit
set_option linter.unusedVariables false

def Post (w : World) (e : Ending) (w' : World) : Prop := e = .returned (.bool true) ∧ Below w.heap.size w w'

def PlRel (r n : Nat) (w : World) (qv i : Value) (wr : World) : Prop :=
  ∃ (p t : Nat) (S : St), t ≤ n ∧ qv = .pointer (some ⟨p, 0, none⟩) ∧ i = .int .i64 (t : Int) ∧ w.heap.size ≤ p ∧ Bo w p r S wr

/-- the call's struct, as the law holds it -/
def Cl (w : World) (s : Nat) (x0 x1 x2 : Int) : Prop := w.heap[s]? = some (.cells #[.int .i64 x0, .int .i64 x1, .int .i64 x2] 32 (0, 0))
theorem Cl.lt {w : World} {s : Nat} {x0 x1 x2 : Int} (h : Cl w s x0 x1 x2) : s < w.heap.size := lt_of_heap h
theorem Cl.cells {w : World} {s : Nat} {x0 x1 x2 : Int} (h : Cl w s x0 x1 x2) :
    w.cell? ⟨s, 0, none⟩ = some (.int .i64 x0) ∧ w.cell? ⟨s, 1, none⟩ = some (.int .i64 x1) ∧ w.cell? ⟨s, 2, none⟩ = some (.int .i64 x2) := by
  refine ⟨?_, ?_, ?_⟩ <;> rw [cell_of_row _ _ _ _ _ _ h] <;> rfl
theorem ck_only {W W' : World} {s p : Nat} {x1 x2 : Int} (ho : Only p W W') (hs : s ≠ p) (h : W.cell? ⟨s, 1, none⟩ = some (.int .i64 x1) ∧ W.cell? ⟨s, 2, none⟩ = some (.int .i64 x2)) :
    W'.cell? ⟨s, 1, none⟩ = some (.int .i64 x1) ∧ W'.cell? ⟨s, 2, none⟩ = some (.int .i64 x2) :=
  ⟨(ho.cell (q := ⟨s, 1, none⟩) (lt_of_cell h.1) hs).trans h.1, (ho.cell (q := ⟨s, 2, none⟩) (lt_of_cell h.2) hs).trans h.2⟩

def zrf : Array Value := Array.replicate 17 (.slice none 0 0)
theorem zero30_info : (Tryd.prog.info? 30).map (·.zero) = some (some (.agg zrf)) := by kernel_rfl
theorem zero30 (W : World) : (zeroValue 30).run Tryd.prog W = .ok (.agg zrf) W := by
  have h := zero30_info
  cases hq : Tryd.prog.info? 30 with
  | none => simp [hq] at h
  | some i =>
    have hi : i.zero = some (.agg zrf) := by simpa [hq] using h
    simp [zeroValue, typeInfo, hq, hi]
theorem rf_new (w : World) : Rf (w.alloc (.cells zrf 30)) w.heap.size St.new :=
  ⟨Good.new, zrf, heap_alloc_new _ _, by unfold zrf; rw [Array.size_replicate], fun a ha => ⟨none, 0, by unfold zrf; rw [Array.getElem?_replicate, if_pos (by omega)]; rfl, Sl.nil _⟩⟩

set_option maxHeartbeats 800000 in
theorem walkOut (A : Option Addr) (n cap : Nat) (w : World) (hT : Tab w) (h : ¬ n ≤ 100) : Calls Tryd.prog 3 #[.slice A n cap] w (Post w) := by
  have t1 : decide ((100 : Int) < (n : Int)) = true := by simp; omega
  have HKn := Lib.hid (known_any w hT)
  clear hT h
  go_enter Tryd.func3, Tryd.ntmps3
  go_wp2_with fail
  refine HKn.out.mono ?_
  rintro e w0 ⟨rfl, hb0⟩
  go_wp2
  go_ret
  exact ⟨rfl, hb0⟩

/-- both have turned -/
theorem bo_turn {w a b c : World} {p r : Nat} {S S' : St} (h : Bo w p r S a) (h0 : 0 < w.heap.size) (hp : w.heap.size ≤ p) (hr : w.heap.size ≤ r) (hq : Qu b p S') (ho : Only p a b) (hf : Rf c r S') (ho2 : Only r b c) (hne : p ≠ r) : Bo w p r S' c :=
  ⟨hq.only ho2 hne, hf, (h.tab.only ho h.q.pos).only ho2 (by omega), h.bel.trans ((ho.below h.bel.size hp).trans (ho2.below (Nat.le_trans h.bel.size ho.size) hr))⟩

set_option maxHeartbeats 6400000 in
set_option maxRecDepth 100000 in
theorem walkIn (n cap b o : Nat) (A : Option Addr) (op id pri : Nat → Int) (w : World) (hT : Tab w)
    (hA : 0 < n → A = some ⟨b, o, none⟩ ∧ Acts w b o n op id pri) (hn : n ≤ 100) :
    Calls Tryd.prog 3 #[.slice A n cap] w (Post w) := by
  have t1 : decide ((100 : Int) < (n : Int)) = false := by simp; omega
  have HA := Lib.hid hA
  have HT := Lib.hid hT
  have HKn := Lib.hid (known_any w hT)
  have hz30 := zero30
  clear hA hT
  go_enter Tryd.func3, Tryd.ntmps3
  go_wp2_with fail
  refine HKn.out.mono ?_
  rintro e w0 ⟨rfl, hb0⟩
  have HB0 := Lib.hid hb0
  clear hb0 HKn
  go_wp2_with fail
  refine (new_any w0 (HT.out.below HB0.out).pos).mono ?_
  rintro e w1 ⟨p, hp, rfl, hq1, hk1⟩
  have hpw : w.heap.size ≤ p := Nat.le_trans HB0.out.size hp
  have HB1 := Lib.hid (HB0.out.trans (hk1.mono HB0.out.size))
  have hqw : w.heap.size ≤ w1.heap.size := HB1.out.size
  have hbo : Hid (Bo w p w1.heap.size St.new (w1.alloc (.cells zrf 30))) := Lib.hid (by
    have hal : Below w1.heap.size w1 (w1.alloc (.cells zrf 30)) := (Below.refl _ _).alloc (Nat.le_refl _) _
    exact ⟨hq1.below hal, rf_new w1, ((HT.out.below HB0.out).below hk1).below hal, HB1.out.trans (hal.mono hqw)⟩)
  clear HB0 hp hk1 hq1 HB1
  generalize zrf = zr at *
  go_wp2
  generalize w1.alloc (.cells zr 30) = w2 at *
  generalize w1.heap.size = r at *
  clear hz30
  go_loopw [3, 5] (fun qv i wr => PlRel r n w qv i wr) (fun _ i _ => n - (intOf i).toNat)
  case atStart => exact ⟨p, 0, St.new, Nat.zero_le _, rfl, rfl, hpw, hbo.out⟩
  case round =>
    clear hbo hpw
    obtain ⟨p, t, S, ht, rfl, rfl, hpw, hb3⟩ := hrel
    have H3 := Lib.hid hb3
    clear hb3
    by_cases hlt : t < n
    · obtain ⟨rfl, hac⟩ := HA.out (by omega)
      have hlb := hac.hlt t hlt
      have k0 := (H3.out.bel.cell (p := ⟨b, o + t * 3, none⟩) hlb).trans (hac.c0 t hlt)
      have k1 := (H3.out.bel.cell (p := ⟨b, o + t * 3 + 1, none⟩) hlb).trans (hac.c1 t hlt)
      have k2 := (H3.out.bel.cell (p := ⟨b, o + t * 3 + 2, none⟩) hlb).trans (hac.c2 t hlt)
      clear hac hlb
      generalize op t = x0 at *
      generalize id t = x1 at *
      generalize pri t = x2 at *
      have H4 := Lib.hid (H3.out.below ((Below.refl wr.heap.size wr).alloc (Nat.le_refl _) (.cells #[.int .i64 x0, .int .i64 x1, .int .i64 x2] 32)))
      have cl4 : Cl (wr.alloc (.cells #[.int .i64 x0, .int .i64 x1, .int .i64 x2] 32)) wr.heap.size x0 x1 x2 := heap_alloc_new _ _
      have sp : wr.heap.size ≠ p := by have := H3.out.q.lt; omega
      have sq : wr.heap.size ≠ r := by have := H3.out.f.lt; omega
      have hpr := H3.out.q.ne H3.out.f
      clear H3
      by_cases hop1 : x0 = 1
      · have hop := hop1
        clear hop1
        subst hop
        obtain ⟨c, hc⟩ : ∃ c, S.addC x1 x2 = c := ⟨_, rfl⟩
        have HC := Lib.hid hc
        clear hc
        go_wp2
        generalize wr.alloc (.cells #[.int .i64 1, .int .i64 x1, .int .i64 x2] 32) = w4 at *
        generalize wr.heap.size = s at *
        obtain ⟨_, j1, j2⟩ := cl4.cells
        clear k0 k1 k2 cl4
        go_region_held3 (fun W => W.cell? ⟨s, 1, none⟩ = some (.int .i64 x1) ∧ W.cell? ⟨s, 2, none⟩ = some (.int .i64 x2))
          (first | exact ⟨j1, j2⟩ | exact ck_only ho6 sq (by assumption) | exact ck_only ho5 sp (by assumption) | assumption)
          (first
            | (go_at_call 10; refine (add_any p S x1 x2 _ (by exact H4.out.q) c HC.out).mono ?_; rintro e w5 ⟨rfl, hq5, ho5⟩)
            | (go_at_call 11; refine (dadd_any r S x1 x2 _ (by exact Rf.other (by exact H4.out.f) ho5 (by exact H4.out.q)) c HC.out).mono ?_; rintro e w6 ⟨rfl, hf6, ho6⟩))
        have H4' : Bo w p r S w4.drew := H4.out.drewN 1
        have H6 := Lib.hid (bo_turn H4' HT.out.pos hpw hqw hq5 ho5 hf6 ho6 hpr)
        clear H4 H4' hq5 hf6 ho5 ho6 j1 j2 HC
        generalize S.add x1 x2 = S' at *
        go_wp2_with fail
        refine (same_any _ r S' w6 H6.out.q H6.out.f H6.out.tab).mono ?_
        rintro e w7 ⟨rfl, hb7⟩
        have H7 := Lib.hid (H6.out.below hb7)
        clear H6 hb7
        go_wp2
        go_roundw
        case rel => exact ⟨p, t + 1, S', by omega, rfl, by go_num, hpw, H7.out⟩
        case measure => simp [intOf]; omega
      by_cases hop2 : x0 = 2
      · have hop := hop2
        clear hop2
        clear hop1
        subst hop
        obtain ⟨c, hc⟩ : ∃ c, decide (S.P x1 ≠ 0) = c := ⟨_, rfl⟩
        have HC := Lib.hid hc
        clear hc
        go_wp2
        generalize wr.alloc (.cells #[.int .i64 2, .int .i64 x1, .int .i64 x2] 32) = w4 at *
        generalize wr.heap.size = s at *
        obtain ⟨_, j1, j2⟩ := cl4.cells
        clear k0 k1 k2 cl4
        go_region_held3 (fun W => W.cell? ⟨s, 1, none⟩ = some (.int .i64 x1) ∧ W.cell? ⟨s, 2, none⟩ = some (.int .i64 x2))
          (first | exact ⟨j1, j2⟩ | exact ck_only ho6 sq (by assumption) | exact ck_only ho5 sp (by assumption) | assumption)
          (first
            | (go_at_call 12; refine (remove_any p S x1 _ (by exact H4.out.q) c HC.out).mono ?_; rintro e w5 ⟨rfl, hq5, ho5⟩)
            | (go_at_call 13; refine (dremove_any r S x1 _ (by exact Rf.other (by exact H4.out.f) ho5 (by exact H4.out.q)) c HC.out).mono ?_; rintro e w6 ⟨rfl, hf6, ho6⟩))
        have H4' : Bo w p r S w4.drew := H4.out.drewN 1
        have H6 := Lib.hid (bo_turn H4' HT.out.pos hpw hqw hq5 ho5 hf6 ho6 hpr)
        clear H4 H4' hq5 hf6 ho5 ho6 j1 j2 HC
        generalize S.del x1 = S' at *
        go_wp2_with fail
        refine (same_any _ r S' w6 H6.out.q H6.out.f H6.out.tab).mono ?_
        rintro e w7 ⟨rfl, hb7⟩
        have H7 := Lib.hid (H6.out.below hb7)
        clear H6 hb7
        go_wp2
        go_roundw
        case rel => exact ⟨p, t + 1, S', by omega, rfl, by go_num, hpw, H7.out⟩
        case measure => simp [intOf]; omega
      by_cases hop3 : x0 = 3
      · have hop := hop3
        clear hop3
        clear hop1 hop2
        subst hop
        obtain ⟨c, hc⟩ : ∃ c, decide (inR x2 ∧ S.P x1 ≠ 0) = c := ⟨_, rfl⟩
        have HC := Lib.hid hc
        clear hc
        go_wp2
        generalize wr.alloc (.cells #[.int .i64 3, .int .i64 x1, .int .i64 x2] 32) = w4 at *
        generalize wr.heap.size = s at *
        obtain ⟨_, j1, j2⟩ := cl4.cells
        clear k0 k1 k2 cl4
        go_region_held3 (fun W => W.cell? ⟨s, 1, none⟩ = some (.int .i64 x1) ∧ W.cell? ⟨s, 2, none⟩ = some (.int .i64 x2))
          (first | exact ⟨j1, j2⟩ | exact ck_only ho6 sq (by assumption) | exact ck_only ho5 sp (by assumption) | assumption)
          (first
            | (go_at_call 14; refine (change_any p S x1 x2 _ (by exact H4.out.q) c HC.out).mono ?_; rintro e w5 ⟨rfl, hq5, ho5⟩)
            | (go_at_call 15; refine (dchange_any r S x1 x2 _ (by exact Rf.other (by exact H4.out.f) ho5 (by exact H4.out.q)) c HC.out).mono ?_; rintro e w6 ⟨rfl, hf6, ho6⟩))
        have H4' : Bo w p r S w4.drew := H4.out.drewN 1
        have H6 := Lib.hid (bo_turn H4' HT.out.pos hpw hqw hq5 ho5 hf6 ho6 hpr)
        clear H4 H4' hq5 hf6 ho5 ho6 j1 j2 HC
        generalize S.chg x1 x2 = S' at *
        go_wp2_with fail
        refine (same_any _ r S' w6 H6.out.q H6.out.f H6.out.tab).mono ?_
        rintro e w7 ⟨rfl, hb7⟩
        have H7 := Lib.hid (H6.out.below hb7)
        clear H6 hb7
        go_wp2
        go_roundw
        case rel => exact ⟨p, t + 1, S', by omega, rfl, by go_num, hpw, H7.out⟩
        case measure => simp [intOf]; omega
      by_cases hop4 : x0 = 4
      · have hop := hop4
        clear hop4
        clear hop1 hop2 hop3
        subst hop
        obtain ⟨c, hc⟩ : ∃ c, (if inR x2 then (0 : Int) else -17) = c := ⟨_, rfl⟩
        have HC := Lib.hid hc
        clear hc
        go_wp2
        generalize wr.alloc (.cells #[.int .i64 4, .int .i64 x1, .int .i64 x2] 32) = w4 at *
        generalize wr.heap.size = s at *
        obtain ⟨_, j1, j2⟩ := cl4.cells
        clear k0 k1 k2 cl4
        go_region_held3 (fun W => W.cell? ⟨s, 1, none⟩ = some (.int .i64 x1) ∧ W.cell? ⟨s, 2, none⟩ = some (.int .i64 x2))
          (first | exact ⟨j1, j2⟩ | exact ck_only ho6 sq (by assumption) | exact ck_only ho5 sp (by assumption) | assumption)
          (first
            | (go_at_call 16; refine (rotate_any p S x2 _ (by exact H4.out.q) c HC.out).mono ?_; rintro e w5 ⟨rfl, hq5, ho5⟩)
            | (go_at_call 17; refine (drotate_any r S x2 _ (by exact Rf.other (by exact H4.out.f) ho5 (by exact H4.out.q)) c HC.out).mono ?_; rintro e w6 ⟨rfl, hf6, ho6⟩))
        have H4' : Bo w p r S w4.drew := H4.out.drewN 1
        have H6 := Lib.hid (bo_turn H4' HT.out.pos hpw hqw hq5 ho5 hf6 ho6 hpr)
        clear H4 H4' hq5 hf6 ho5 ho6 j1 j2 HC
        generalize S.rot x2 = S' at *
        go_wp2_with fail
        refine (same_any _ r S' w6 H6.out.q H6.out.f H6.out.tab).mono ?_
        rintro e w7 ⟨rfl, hb7⟩
        have H7 := Lib.hid (H6.out.below hb7)
        clear H6 hb7
        go_wp2
        go_roundw
        case rel => exact ⟨p, t + 1, S', by omega, rfl, by go_num, hpw, H7.out⟩
        case measure => simp [intOf]; omega
      by_cases hop5 : x0 = 5
      · have hop := hop5
        clear hop5 hop1 hop2 hop3 hop4
        subst hop
        go_wp2_with fail
        generalize wr.alloc (.cells #[.int .i64 5, .int .i64 x1, .int .i64 x2] 32) = w4 at *
        clear k0 k1 k2 cl4 sp sq
        refine (twin_any p S w4 H4.out.q).mono ?_
        rintro e w5 ⟨p2, hp2, rfl, hq2, hb5⟩
        have hpp : p ≠ p2 := by have := H4.out.q.lt; omega
        have hp2w : w.heap.size ≤ p2 := Nat.le_trans H4.out.bel.size hp2
        have H5 : Hid (Qu w5 p S ∧ Bo w p2 r S w5) := Lib.hid (by
          have := H4.out.below hb5
          exact ⟨this.q, hq2, this.f, this.tab, this.bel⟩)
        clear H4 hq2 hb5 hp2
        go_wp2
        go_loopw [8] (fun v wr => ∃ (u : Nat) (T : St), u ≤ 16 ∧ v = .int .i64 ((u : Int) + 1) ∧ Qu wr p T ∧ Bo w p2 r S wr) (fun v _ => 17 - (intOf v).toNat)
        case atStart => exact ⟨0, S, by decide, rfl, H5.out.1, H5.out.2⟩
        case round =>
          obtain ⟨u, T, hu, rfl, hqT, hbo⟩ := hrel
          have HQ := Lib.hid hqT
          have HBO := Lib.hid hbo
          clear hqT hbo H5
          by_cases hu2 : u < 16
          · have hui : (u : Int) + 1 ≤ 16 := by omega
            go_wp2_with fail
            refine (remove_any p T _ wr HQ.out _ rfl).mono ?_
            rintro e w7 ⟨rfl, hq7, ho7⟩
            have HB7 : Hid (Bo w p2 r S w7) := Lib.hid ⟨HBO.out.q.only ho7 (Ne.symm hpp), HBO.out.f.other ho7 HQ.out, HBO.out.tab.only ho7 HQ.out.pos, HBO.out.bel.trans (ho7.below HBO.out.bel.size hpw)⟩
            have HQ7 := Lib.hid hq7
            clear HQ HBO hq7 ho7
            go_wp2
            go_roundw
            case rel => exact ⟨u + 1, _, by omega, by go_num, HQ7.out, HB7.out⟩
            case measure => simp [intOf]; omega
          · obtain rfl : u = 16 := by omega
            clear HQ
            go_wp2_with fail
            refine (same_any _ r S wr HBO.out.q HBO.out.f HBO.out.tab).mono ?_
            rintro e w7 ⟨rfl, hb7⟩
            have H7 := Lib.hid (HBO.out.below hb7)
            clear HBO hb7
            go_wp2
            go_roundw
            case rel => exact ⟨p2, t + 1, S, by omega, rfl, by go_num, hp2w, H7.out⟩
            case measure => simp [intOf]; omega
      · have e1 : (x0 == 1) = false := by simpa using hop1
        have e2 : (x0 == 2) = false := by simpa using hop2
        have e3 : (x0 == 3) = false := by simpa using hop3
        have e4 : (x0 == 4) = false := by simpa using hop4
        have e5 : (x0 == 5) = false := by simpa using hop5
        clear hop1 hop2 hop3 hop4 hop5
        go_wp2_with fail
        generalize wr.alloc (.cells #[.int .i64 x0, .int .i64 x1, .int .i64 x2] 32) = w6 at *
        clear k0 k1 k2 cl4 sp sq
        have H6 := H4
        clear H4
        refine (same_any _ r S w6 H6.out.q H6.out.f H6.out.tab).mono ?_
        rintro e w7 ⟨rfl, hb7⟩
        have H7 := Lib.hid (H6.out.below hb7)
        clear H6 hb7
        go_wp2
        go_roundw
        case rel => exact ⟨p, t + 1, S, by omega, rfl, by go_num, hpw, H7.out⟩
        case measure => simp [intOf]; omega
    · go_wp2
      go_ret
      exact ⟨rfl, H3.out.bel⟩
end Go.Proofs.YtfilggkdhcjpbaaDoor.readyPlays
