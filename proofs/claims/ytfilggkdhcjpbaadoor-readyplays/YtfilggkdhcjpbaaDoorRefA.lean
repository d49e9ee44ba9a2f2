/- The document's own ready tasks (detentref9): memory; good, Pri, All, First. -/
import Derived.Test.YtfilggkdhcjpbaaDoorRdK
import Derived.Deep.RegionHeld3
namespace Go.Proofs.YtfilggkdhcjpbaaDoor
open Go.RowKit

/-- the document's Queue in block q: a slice a priority -/
def Rf (w : World) (q : Nat) (S : St) : Prop :=
  Good S ∧ ∃ cs : Array Value, w.heap[q]? = some (.cells cs 30 (0, 0)) ∧ cs.size = 17 ∧ ∀ a, a ≤ 16 → ∃ (Y : Option Addr) (k : Nat), cs[a]? = some (.slice Y (S.R a).length k) ∧ Sl w Y k (S.R a)
theorem Rf.lt {w : World} {q : Nat} {S : St} (h : Rf w q S) : q < w.heap.size := by obtain ⟨_, cs, hh, _⟩ := h; exact lt_of_heap hh
theorem Rf.row {w : World} {q : Nat} {S : St} (h : Rf w q S) {a : Nat} (ha : a ≤ 16) : ∃ (Y : Option Addr) (k : Nat), w.cell? ⟨q, a, none⟩ = some (.slice Y (S.R a).length k) ∧ Sl w Y k (S.R a) := by
  obtain ⟨_, cs, hh, _, hr⟩ := h
  obtain ⟨Y, k, h1, h2⟩ := hr a ha
  exact ⟨Y, k, by rw [cell_of_row w q a cs 30 (0, 0) hh]; exact h1, h2⟩
theorem Rf.keep {w w' : World} {q : Nat} {S : St} (h : Rf w q S) (k1 : w'.heap[q]? = w.heap[q]?) (k2 : ∀ (g : Nat) (cs : Array Value), w.heap[g]? = some (.cells cs 3 (0, 0)) → w'.heap[g]? = w.heap[g]?) : Rf w' q S := by
  obtain ⟨g, cs, hh, hz, hr⟩ := h
  refine ⟨g, cs, k1.trans hh, hz, fun a ha => ?_⟩
  obtain ⟨Y, k, h1, h2⟩ := hr a ha
  exact ⟨Y, k, h1, h2.keep k2⟩
theorem Rf.below {w w' : World} {q : Nat} {S : St} (h : Rf w q S) (k : Below w.heap.size w w') : Rf w' q S := h.keep (k.block q h.lt) fun g _ hg => k.block g (lt_of_heap hg)
theorem Rf.drewN {w : World} {q : Nat} {S : St} (h : Rf w q S) (n : Nat) : Rf (w.drewN n) q S := h
theorem Rf.type {w : World} {q : Nat} {S : St} (h : Rf w q S) {t : TypeId} (ht : t ≠ 30) : ∀ cs fr, w.heap[q]? ≠ some (.cells cs t fr) := by
  obtain ⟨_, cs, hh, _⟩ := h
  intro cs2 fr h2
  rw [hh] at h2; injection h2 with h2; injection h2 with _ h3; exact ht h3.symm
theorem Qu.ne {w : World} {p q : Nat} {S T : St} (h : Qu w p S) (k : Rf w q T) : p ≠ q := by
  rintro rfl
  obtain ⟨_, X, ⟨_, f, ⟨cs, hh, _⟩, _⟩, _⟩ := h
  exact k.type (t := 63) (by decide) cs _ hh
/-- the program's Queue has turned -/
theorem Rf.other {w w' : World} {p q : Nat} {S T : St} (h : Rf w q S) (ko : Only p w w') (hq : Qu w p T) : Rf w' q S :=
  h.keep (ko.block q h.lt (Ne.symm (hq.ne h))) fun g cs hg => ko.block g (lt_of_heap hg) (by rintro rfl; exact hq.type cs _ hg)
theorem Rf.frozen {w : World} {q : Nat} {S : St} (h : Rf w q S) (j : Nat) : w.frozen? ⟨q, j, none⟩ = false := by
  obtain ⟨_, cs, hh, _⟩ := h; exact frozen_of_row w q j cs 30 hh
/-- one row is put -/
theorem Rf.set {w : World} {q : Nat} {S S' : St} (h : Rf w q S) (hg : Good S') {a : Nat} (ha : a ≤ 16) (hR : ∀ b, b ≠ a → S'.R b = S.R b) (Y : Option Addr) (n k : Nat) (hn : (S'.R a).length = n) (hs : Sl w Y k (S'.R a)) :
    Rf (w.setCell ⟨q, a, none⟩ (.slice Y n k)) q S' := by
  have ht := h.type (t := 3) (by decide)
  obtain ⟨g, cs, hh, hz, hr⟩ := h
  have hk : ∀ (g : Nat) (cs : Array Value), w.heap[g]? = some (.cells cs 3 (0, 0)) → (w.setCell ⟨q, a, none⟩ (.slice Y n k)).heap[g]? = w.heap[g]? := fun g cs hg =>
    Below.heap_setCell _ _ _ _ (by rintro rfl; exact ht cs _ hg)
  refine ⟨hg, cs.setIfInBounds a (.slice Y n k), heap_setCell_same w q a cs 30 _ hh, by simpa using hz, fun b hb => ?_⟩
  by_cases e : b = a
  · subst e
    have hlt : b < cs.size := by omega
    exact ⟨Y, k, by simp [hlt, hn], hs.keep hk⟩
  · obtain ⟨Y', k', h1, h2⟩ := hr b hb
    rw [hR b e]
    exact ⟨Y', k', by simp [Ne.symm e, h1], h2.keep hk⟩

theorem rgood_any (x : Int) (w : World) (r : Bool) (hr : decide (inR x) = r) :
    Calls Tryd.prog 28 #[.int .i64 x] w fun e w' => e = .returned (.bool r) ∧ w = w' := by
  subst hr
  by_cases c1 : 1 ≤ x
  · have e2 : decide (inR x) = decide (x ≤ 16) := by simp [inR, c1]
    rw [e2]
    go_enter Tryd.func28, Tryd.ntmps28
    go_wp2
    go_ret
    exact ⟨rfl, rfl⟩
  · have e : decide (inR x) = false := by simp [inR, c1]
    have t1 : decide (1 ≤ x) = false := by simpa using c1
    rw [e]
    go_enter Tryd.func28, Tryd.ntmps28
    go_wp2
    go_ret
    exact ⟨rfl, rfl⟩

set_option maxHeartbeats 1600000 in
theorem rpri_any (q : Nat) (S : St) (x : Int) (w : World) (h : Rf w q S) (r : Nat) (hr : S.P x = r) :
    Calls Tryd.prog 29 #[.pointer (some ⟨q, 0, none⟩), .int .i64 x] w fun e w' => e = .returned (.int .i64 (r : Int)) ∧ w = w' := by
  have HR := Lib.hid hr
  have HH := Lib.hid h
  have HG := Lib.hid h.1
  clear hr h
  go_enter Tryd.func29, Tryd.ntmps29
  go_wp2
  go_loop [5, 6] (fun v _ => ∃ a : Nat, 1 ≤ a ∧ a ≤ 17 ∧ v = .int .i64 (a : Int) ∧ ∀ b, 1 ≤ b → b < a → x ∉ S.R b) (fun v _ => 17 - (intOf v).toNat)
  case atStart => exact ⟨1, by decide, by decide, rfl, fun b h1 h2 => absurd h2 (by omega)⟩
  case round =>
    obtain ⟨a, ha1, ha2, rfl, hno⟩ := hrel
    have HNO := Lib.hid hno
    clear hno
    by_cases hlt : a ≤ 16
    · have hai : (a : Int) ≤ 16 := by omega
      have hai2 : (a : Int) < 17 := by omega
      obtain ⟨Y, k, c1, hsl⟩ := HH.out.row hlt
      obtain ⟨n, hn⟩ : ∃ n, (S.R a).length = n := ⟨_, rfl⟩
      rw [hn] at c1
      have HN := Lib.hid hn
      have HSL := Lib.hid hsl
      have hn16 : n ≤ 16 := by rw [← hn]; exact HG.out.len a
      clear hn hsl
      go_wp2
      go_loop [6] (fun v => ∃ t : Nat, t ≤ n ∧ v = .int .i64 (t : Int) ∧ ∀ j y, j < t → (S.R a)[j]? = some y → y ≠ x) (fun v => n - (intOf v).toNat)
      case atStart => exact ⟨0, Nat.zero_le _, rfl, fun j y hj => absurd hj (by omega)⟩
      case round =>
        obtain ⟨t, ht, rfl, hj⟩ := hrel
        have HJ := Lib.hid hj
        clear hj
        by_cases hlt2 : t < n
        · have hti : (t : Int) < (n : Int) := by omega
          obtain ⟨y, hy⟩ : ∃ y, (S.R a)[t]? = some y := ⟨_, List.getElem?_eq_getElem (by rw [HN.out]; exact hlt2)⟩
          obtain ⟨b, o, rfl, _, hc⟩ := HSL.out.at_ (by rw [HN.out]; omega)
          have c2 := hc t y hy
          have HY := Lib.hid hy
          clear hc hy
          by_cases he : y = x
          · have te : (y == x) = true := by simpa using he
            have HE := Lib.hid he
            clear he
            go_wp2
            go_ret
            refine ⟨?_, rfl⟩
            have hm : x ∈ S.R a := by rw [← HE.out]; exact List.mem_of_getElem? HY.out
            have := ((HG.out.mem a x).1 hm).2
            rw [← HR.out, this]; rfl
          · have te : (y == x) = false := by simpa using he
            have HE := Lib.hid he
            clear he
            go_wp2
            go_round
            case rel =>
              refine ⟨t + 1, by omega, by go_num, fun j z hj hz => ?_⟩
              by_cases e : j = t
              · subst e; rw [HY.out] at hz; injection hz with hz; rw [← hz]; exact HE.out
              · exact HJ.out j z (by omega) hz
            case measure => simp [intOf]; omega
        · obtain rfl : t = n := by omega
          go_wp2
          go_round
          case rel =>
            refine ⟨a + 1, by omega, by omega, by go_num, fun b h1 h2 hm => ?_⟩
            by_cases e : b = a
            · subst e
              obtain ⟨j, hj⟩ := List.mem_iff_getElem?.1 hm
              exact HJ.out j x (by have := (List.getElem?_eq_some_iff.1 hj).1; rw [HN.out] at this; exact this) hj rfl
            · exact HNO.out b h1 (by omega) hm
          case measure => simp [intOf]; omega
    · obtain rfl : a = 17 := by omega
      have hz : r = 0 := by
        rw [← HR.out]; apply Classical.byContradiction; intro h0
        have := HG.out.le x
        exact HNO.out (S.P x) (by omega) (by omega) ((HG.out.mem _ x).2 ⟨h0, rfl⟩)
      have HZ := Lib.hid hz
      clear hz
      go_wp2
      go_ret
      exact ⟨by rw [HZ.out]; rfl, rfl⟩

set_option maxHeartbeats 1600000 in
theorem rall_any (q : Nat) (S : St) (w : World) (h : Rf w q S) (n : Nat) (hn : S.all.length = n) :
    Calls Tryd.prog 33 #[.pointer (some ⟨q, 0, none⟩)] w (RowPost S.all n w) := by
  have HH := Lib.hid h
  have HG := Lib.hid h.1
  have HN := Lib.hid hn
  clear h hn
  go_enter Tryd.func33, Tryd.ntmps33
  go_wp2
  go_loopw [3, 4] (fun l v wr => ∃ a : Nat, a ≤ 16 ∧ v = .int .i64 ((a : Int) + 1) ∧ wr.ownsRow w.heap.size 3 1 l (allF S.R a 1).length (vals (allF S.R a 1)) ∧ Below w.heap.size w wr) (fun _ v _ => 17 - (intOf v).toNat)
  case atStart => exact ⟨0, by decide, rfl, own_nil _ _, Below.refl _ _⟩
  case round =>
    obtain ⟨a, ha, rfl, hown, hb⟩ := hrel
    by_cases hlt : a < 16
    · have hai : (a : Int) + 1 ≤ 16 := by omega
      have hai2 : (a : Int) + 1 < 17 := by omega
      obtain ⟨Y, k, c1, hsl⟩ := (HH.out.below hb).row (a := a + 1) (by omega)
      have HSR := Lib.hid hsl.sr
      have e1 := allF_snoc S.R a 1
      rw [show 1 + a = a + 1 by omega] at e1
      have HE := Lib.hid e1
      have hl1 := HG.out.len (a + 1)
      have hl2 := allF_len HG.out a 1
      obtain ⟨m, hm⟩ : ∃ m, (S.R (a + 1)).length = m := ⟨_, rfl⟩
      rw [hm] at c1 hl1
      have HM := Lib.hid hm
      have hsz := hb.size
      clear hm hsl e1
      go_wp2_with (at_builtin; refine wpList_append_row rfl _ _ rfl w.heap.size _ (allF S.R a 1) (S.R (a + 1)) _ rfl rfl hown _ m k rfl HM.out HSR.out (by omega) hsz ((allF S.R a 1).length + m) rfl ?_; intro Z j w2 hown2 hgrow)
      have hb2 := own_below hb (Nat.le_refl _) hown hgrow
      clear hgrow hown hb c1
      go_roundw
      case rel => exact ⟨a + 1, by omega, by go_num, by rw [HE.out, List.length_append, HM.out]; exact hown2, hb2⟩
      case measure => simp [intOf]; omega
    · obtain rfl : a = 16 := by omega
      rw [HG.out.all16, HN.out] at hown
      have HW := Lib.hid (own_sl HN.out hown)
      clear hown
      go_wp2
      go_ret
      obtain ⟨Y, k, h1, h2⟩ := HW.out
      exact ⟨Y, k, congrArg Ending.returned h1, h2, hb⟩

theorem rfirst_any (q : Nat) (S : St) (w : World) (h : Rf w q S) (y : Int) (hy : S.first = y) :
    Calls Tryd.prog 32 #[.pointer (some ⟨q, 0, none⟩)] w fun e w' => e = .returned (.int .i64 y) ∧ Below w.heap.size w w' := by
  obtain ⟨n, hn⟩ : ∃ n, S.all.length = n := ⟨_, rfl⟩
  have hl := h.1.all_len
  have HC := Lib.hid (rall_any q S w h n hn)
  rw [hn] at hl
  have HN := Lib.hid hn
  have HY := Lib.hid hy
  clear hn hy h
  by_cases c : n = 0
  · have t0 : ((n : Int) == 0) = true := by simpa using c
    have e : S.first = 0 := by unfold St.first; rw [List.eq_nil_of_length_eq_zero (HN.out.trans c)]; rfl
    have HE := Lib.hid e
    clear c e
    go_enter Tryd.func32, Tryd.ntmps32
    go_wp2_with fail
    refine HC.out.mono ?_
    rintro e w1 ⟨Y, k, rfl, hs, hb⟩
    clear hs
    go_wp2
    go_ret
    exact ⟨by rw [← HY.out, HE.out]; rfl, hb⟩
  · have t0 : ((n : Int) == 0) = false := by simpa using c
    have hn0 : (0 : Int) < (n : Int) := by omega
    obtain ⟨z, r, hz⟩ : ∃ z r, S.all = z :: r := by
      rcases hA : S.all with _ | ⟨z, r⟩
      · rw [hA] at HN; exact absurd HN.out.symm c
      · exact ⟨z, r, rfl⟩
    have hyz : y = z := by rw [← HY.out]; unfold St.first; rw [hz]; rfl
    subst hyz
    have HZ : Hid (S.all[0]? = some y) := Lib.hid (by rw [hz]; rfl)
    clear c hz HY
    go_enter Tryd.func32, Tryd.ntmps32
    go_wp2_with fail
    refine HC.out.mono ?_
    rintro e w1 ⟨Y, k, rfl, hs, hb⟩
    obtain ⟨b, o, rfl, _, hc⟩ := hs.at_ (by rw [HN.out]; omega)
    have c1 := hc 0 y HZ.out
    rw [Nat.add_zero] at c1
    clear hc hs
    go_wp2
    go_ret
    exact ⟨rfl, hb⟩
end Go.Proofs.YtfilggkdhcjpbaaDoor
