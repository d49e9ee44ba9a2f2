/- Contracts of package heap: before, firstBelow. -/
import Derived.Test.YtpnhpgdidineaaaMem
import Derived.WalkKit
import Derived.WalkSpells
import Derived.WalkLawsBesides
import Derived.Lib.Hide
import Derived.OwnWalk
import Derived.Deep.QuietTactic
import Derived.BigQuiet
import Derived.BigRegion
import Derived.StillTailTactics
import Derived.Laws.ResultCell
namespace Go.Proofs.Ytpnhpgdidineaaa
open Go.RowKit

/-- an entry as a value -/
def ev (x : En) : Value := .agg #[.int .u64 x.1, .int .i64 x.2.1, .int .i64 x.2.2]

set_option maxHeartbeats 400000 in
theorem before_any (x y : En) (w : World) (r : Bool) (hr : bef x y = r) :
    Calls Try.prog 50 #[.agg #[.int .u64 x.1, .int .i64 x.2.1, .int .i64 x.2.2], .agg #[.int .u64 y.1, .int .i64 y.2.1, .int .i64 y.2.2]] w fun e w' => e = .returned (.bool r) ∧ Below w.heap.size w w' := by
  subst hr
  by_cases c : x.1 = y.1
  · have e : bef x y = decide (x.2.1 < y.2.1) := by unfold bef lt; simp [c]
    have t1 : (x.1 == y.1) = true := by simpa using c
    rw [e]
    go_enter Try.func50, Try.ntmps50
    go_wp2
    go_ret
    exact ⟨rfl, ((Below.refl _ _).alloc (Nat.le_refl _) _).alloc (by simp) _⟩
  · have e : bef x y = decide (x.1 < y.1) := by unfold bef lt; simp [c]
    have t1 : (x.1 == y.1) = false := by simpa using c
    rw [e]
    go_enter Try.func50, Try.ntmps50
    go_wp2
    go_ret
    exact ⟨rfl, ((Below.refl _ _).alloc (Nat.le_refl _) _).alloc (by simp) _⟩

/-- what firstBelow knows when it has looked at all below b -/
def FBupto (H : List En) (k b r : Nat) : Prop :=
  (∀ c, 2 * k + 1 ≤ c → c < b → le (ix H r) (ix H c)) ∧ le (ix H r) (ix H k) ∧ (r = k ∨ (2 * k + 1 ≤ r ∧ r < b ∧ lt (ix H r) (ix H k)))
theorem fb_start (H : List En) (k : Nat) : FBupto H k (2 * k + 1) k := ⟨fun c h1 h2 => by omega, le_refl _, .inl rfl⟩
theorem fb_no {H : List En} {k b r : Nat} (h : FBupto H k b r) (hn : bef (ix H b) (ix H r) = false) : FBupto H k (b + 1) r := by
  have hn' : le (ix H r) (ix H b) := by unfold bef at hn; simpa [le] using hn
  refine ⟨fun c h1 h2 => ?_, h.2.1, ?_⟩
  · by_cases e : c = b
    · subst e; exact hn'
    · exact h.1 c h1 (by omega)
  · rcases h.2.2 with e | ⟨e1, e2, e3⟩
    · exact .inl e
    · exact .inr ⟨e1, by omega, e3⟩
theorem fb_yes {H : List En} {k b r : Nat} (h : FBupto H k b r) (hb : 2 * k + 1 ≤ b) (hn : bef (ix H b) (ix H r) = true) : FBupto H k (b + 1) b := by
  have hn' : lt (ix H b) (ix H r) := by unfold bef at hn; simpa using hn
  refine ⟨fun c h1 h2 => ?_, lt_le hn' h.2.1, .inr ⟨hb, by omega, ?_⟩⟩
  · by_cases e : c = b
    · subst e; exact le_refl _
    · exact lt_le hn' (h.1 c h1 (by omega))
  · have := h.2.1
    unfold lt le lt at *; omega
theorem fb_end {H : List En} {k b r : Nat} (h : FBupto H k b r) (h1 : b ≤ 2 * k + 3) (h2 : 2 * k + 2 < b ∨ H.length ≤ b) (h3 : b ≤ H.length ∨ b = 2 * k + 1) : FB H k r := by
  refine ⟨fun c hc hcn hck => h.1 c (by omega) (by omega), ?_⟩
  rcases h.2.2 with e | ⟨e1, e2, e3⟩
  · exact .inl e
  · exact .inr ⟨by omega, by omega, e3⟩

set_option maxHeartbeats 1600000 in
theorem firstBelow_any (g k n j : Nat) (H : List En) (w : World) (hr : Rw w g k H) (hn : H.length = n) (hn2 : n ≤ 256) (hj : j ≤ 256) (_hjn : j < n ∨ n ≤ 2 * j + 1) :
    Calls Try.prog 49 #[.slice (some ⟨g, 0, none⟩) n k, .int .i64 (j : Int)] w fun e w' => ∃ r : Nat, e = .returned (.int .i64 (r : Int)) ∧ FB H j r ∧ Below w.heap.size w w' := by
  have HL := Lib.hid hn
  have HR := Lib.hid hr
  clear hr hn
  go_enter Try.func49, Try.ntmps49
  go_wp2
  go_loopw [5, 6] (fun f b wr => ∃ r t : Nat, f = .int .i64 (r : Int) ∧ b = .int .i64 (t : Int) ∧ 2 * j + 1 ≤ t ∧ t ≤ 2 * j + 3 ∧ (t ≤ n ∨ t = 2 * j + 1) ∧ Hid (FBupto H j t r) ∧ (r = j ∨ r < n) ∧ Below w.heap.size w wr) (fun _ b _ => 2 * j + 3 - (intOf b).toNat)
  case atStart => exact ⟨j, 2 * j + 1, rfl, by go_num, by omega, by omega, .inr rfl, fb_start H j, .inl rfl, Below.refl _ _⟩
  case round =>
    obtain ⟨r, t, rfl, rfl, ht1, ht2, ht3, hF, hrn, hb⟩ := hrel
    by_cases c1 : t ≤ 2 * j + 2
    · by_cases c2 : t < n
      · have hrn' : r < n := by omega
        have hw := HR.out.below hb
        obtain ⟨d0, d1, d2⟩ := hw.cells (i := t) (by rw [HL.out]; exact c2)
        obtain ⟨e0, e1, e2⟩ := hw.cells (i := r) (by rw [HL.out]; exact hrn')
        obtain ⟨x, hx⟩ : ∃ x, ix H t = x := ⟨_, rfl⟩
        obtain ⟨y, hy⟩ : ∃ y, ix H r = y := ⟨_, rfl⟩
        rw [hx] at d0 d1 d2
        rw [hy] at e0 e1 e2
        have HX := Lib.hid hx
        have HY := Lib.hid hy
        have i1 : (t : Int) < (n : Int) := by omega
        have i2 : (r : Int) < (n : Int) := by omega
        have i3 : (t : Int) ≤ 2 * (j : Int) + 2 := by omega
        clear hx hy hw
        obtain ⟨bb, hbb⟩ : ∃ bb, bef x y = bb := ⟨_, rfl⟩
        go_wp2
        go_still_tail 8, (by kernel_rfl)
        change wpList _ _ _ _ _ wr.drew
        have hb1 : Below w.heap.size w wr.drew := hb.drew
        generalize wr.drew = wa at *
        clear d0 d1 d2 e0 e1 e2 hb
        go_wp2_with fail
        refine (before_any x y wa bb hbb).mono ?_
        rintro e w2 ⟨rfl, hb2⟩
        have hb3 := below_trans hb1 hb2
        clear hb1 hb2
        have HB := Lib.hid hbb
        clear hbb
        cases bb with
        | true =>
          go_wp2
          go_roundw
          case rel => exact ⟨t, t + 1, rfl, by go_num, by omega, by omega, by omega, fb_yes hF.out ht1 (by rw [HX.out, HY.out]; exact HB.out), by omega, hb3⟩
          case measure => simp [intOf]; omega
        | false =>
          go_wp2
          go_roundw
          case rel => exact ⟨r, t + 1, rfl, by go_num, by omega, by omega, by omega, fb_no hF.out (by rw [HX.out, HY.out]; exact HB.out), by omega, hb3⟩
          case measure => simp [intOf]; omega
      · have i1 : decide ((t : Int) < (n : Int)) = false := by simp; omega
        have i3 : (t : Int) ≤ 2 * (j : Int) + 2 := by omega
        go_wp2
        go_ret
        exact ⟨r, rfl, fb_end hF.out ht2 (by rw [HL.out]; omega) (by rw [HL.out]; omega), hb⟩
    · have i3 : decide ((t : Int) ≤ 2 * (j : Int) + 2) = false := by simp; omega
      go_wp2
      go_ret
      exact ⟨r, rfl, fb_end hF.out ht2 (by omega) (by rw [HL.out]; omega), hb⟩
end Go.Proofs.Ytpnhpgdidineaaa
