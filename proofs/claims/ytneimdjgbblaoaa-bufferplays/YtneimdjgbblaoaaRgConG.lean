/- writeRound and readRound of a ring. -/
import Derived.Test.YtneimdjgbblaoaaRgConF
import Derived.StillTailTactics
import Derived.Deep.RegionHeld3
namespace Go.Proofs.Ytneimdjgbblaoaa.R
open Go.RowKit
set_option maxRecDepth 100000
variable {X : TypeId × List Value}

theorem elem31 : Try.prog.elem 31 = 5 := by kernel_rfl
theorem size31 (W : World) : (sizeOf (Try.prog.elem 31)).run Try.prog W = .ok 1 W := by
  obtain ⟨i0, hi, _, hz1, _⟩ := info_parts info5
  rw [elem31]; simp [sizeOf, typeInfo, hi, hz1]

/-- b[:k] -/
theorem cut_h (A : Option Addr) (n cap k : Nat) (hk : k ≤ n) (hn : n ≤ cap) (x : Int) (hx : x = k) (W : World) :
    (Instr.slice 31 (.slice A n cap) none (some (.int .i64 x)) none).run Try.prog W = .ok (.slice A k cap) W := by
  subst hx
  have hu : Try.prog.underlying 31 = some (.slice (Try.prog.elem 31)) := by kernel_rfl
  rw [run_slice_h W 31 A n cap hu .i64 k (by omega) (by omega), size31]
  rcases A with _ | a <;> simp [Result.andThen, sliced, Addr.add]
/-- b[k:] -/
theorem cut_l (A : Option Addr) (n cap k : Nat) (hk : k ≤ n) (hn : n ≤ cap) (p m : Nat) (q : Nat → Int) : ∃ (A2 : Option Addr) (k2 : Nat),
    (∀ (W : World) (x : Int), x = k → (Instr.slice 31 (.slice A n cap) (some (.int .i64 x)) none none).run Try.prog W = .ok (.slice A2 (n - k) k2) W) ∧ ∀ W, Src W p m A n q → Src W p m A2 (n - k) (fun j => q (k + j)) := by
  have hu : Try.prog.underlying 31 = some (.slice (Try.prog.elem 31)) := by kernel_rfl
  refine ⟨if cap = k then A else A.map (·.add k), cap - k, fun W x hx => ?_, fun W hs h0 => ?_⟩
  · subst hx
    rw [run_slice_l W 31 A n cap hu .i64 k (by omega) (by omega), size31]
    rcases A with _ | a <;> by_cases c : cap = k <;> simp [Result.andThen, sliced, c]
  · obtain ⟨b, o, rfl, h1, h2, hc⟩ := hs (by omega)
    rw [if_neg (by omega)]
    refine ⟨b, o + k, by simp [add_at], h1, h2, fun j hj => ?_⟩
    rw [Nat.add_assoc]; exact hc (k + j) (by omega)

theorem Src.less {w : World} {p m n k : Nat} {A : Option Addr} {g : Nat → Int} (h : Src w p m A n g) (hk : k ≤ n) : Src w p m A k g := fun h0 => by
  obtain ⟨b, o, hA, h1, h2, hc⟩ := h (by omega)
  exact ⟨b, o, hA, h1, h2, fun j hj => hc j (by omega)⟩
theorem Src.drew {w : World} {p m n : Nat} {A : Option Addr} {g : Nat → Int} (h : Src w p m A n g) : Src w.drew p m A n g := h

set_option maxHeartbeats 800000 in
theorem writeRound_ok (p m N a n cap : Nat) (c : Int) (f q : Nat → Int) (A : Option Addr) (w : World) (h : Ar X w p m N c f) (hs : Src w p m A n q) (hcap : n ≤ cap) (ha : a ≤ N) (hn : n ≤ N) (hN : N ≤ 65536) (hc0 : 0 ≤ c) (hc1 : c ≤ 100000000000) :
    Calls Try.prog 69 #[.pointer (some ⟨p, 0, none⟩), .int .i64 (a : Int), .slice A n cap] w fun e w' => e = .returned (.tuple #[]) ∧
      Ar X w' p m N (c + n) (upd (upd f a (min n (N - a)) q) 0 (n - min n (N - a)) (fun j => q (min n (N - a) + j))) ∧ Only p m w w' := by
  obtain ⟨fr, hfr⟩ : ∃ fr, min n (N - a) = fr := ⟨_, rfl⟩
  have e1 : min (n : Int) ((N : Int) - (a : Int)) = (fr : Int) := by omega
  have hf1 : fr ≤ n := by omega
  have hf2 : a + fr ≤ N := by omega
  rw [hfr]
  have HS := Lib.hid (rsize_any p m N c f w h)
  obtain ⟨A2, cap2, k2, hs2⟩ := cut_l A n cap fr hf1 hcap p m q
  have HK2 := Lib.hid k2
  have H := Lib.hid h
  have HSRC := Lib.hid hs
  have HS2 := Lib.hid hs2
  have key : ((n : Int) ≤ (N : Int) - (a : Int) ∧ (n : Int) = fr) ∨ ((N : Int) - (a : Int) < n ∧ (N : Int) - (a : Int) = fr) := by omega
  clear h hs hs2 hfr e1 k2
  rcases key with ⟨t, ht⟩ | ⟨t, ht⟩
  all_goals
    have k1 := fun W => cut_h A n cap fr hf1 hcap _ ht W
    have k2 := fun W => HK2.out W _ ht
    have HT := Lib.hid ht
    clear ht
    go_enter Try.func69, Try.ntmps69
    go_wp2_with fail
    refine HS.out.mono ?_
    rintro e w' ⟨rfl, rfl⟩
    go_wp2
    go_region_held3 (fun W => True ∧ True) (exact ⟨trivial, trivial⟩)
      (first | (go_at_call 83; refine (write1_ok (H.out.drew) (hs := (HSRC.out.less hf1).drew) hf2 hN hc0 (by omega) _ rfl).mono ?_; rintro e w2 ⟨rfl, ha2, ho2⟩))
    have ho1 : Only p m w w2 := ((Only.refl p m w).drew.alloc _).trans ho2
    have HS3 := Lib.hid (HS2.out _ (HSRC.out.only ho1 (.inl rfl) (.inr (.inl rfl))))
    have HA2 := Lib.hid ha2
    have HO1 := Lib.hid ho1
    clear ha2 ho2 ho1 k1
    go_wp2
    go_region_held3 (fun W => True ∧ True) (exact ⟨trivial, trivial⟩)
      (first | (go_at_call 83; refine (write1_ok (a := 0) (HA2.out.drew) (hs := HS3.out.drew) (by omega) hN (by omega) (by omega) _ rfl).mono ?_; rintro e w4 ⟨rfl, ha4, ho4⟩))
    have ho3 : Only p m w w4 := (HO1.out.drew.alloc _).trans ho4
    have HA4 := Lib.hid ha4
    clear ha4 ho4
    go_wp2
    go_end0
    refine ⟨rfl, ?_, ho3⟩
    have e : c + (fr : Int) + ((n - fr : Nat) : Int) = c + (n : Int) := by omega
    rw [← e]
    exact HA4.out

theorem Only.grown {p m g : Nat} {a w w' : World} (h : Only p m a w) (k : w.grownBy w' (some g)) (hg : a.heap.size ≤ g) : Only p m a w' :=
  ⟨k.os.trans h.os, k.tape.trans h.tape, k.output.trans h.output, Nat.le_trans h.size k.size,
   fun i hi h1 h2 => (k.block i (Nat.lt_of_lt_of_le hi h.size) (by intro e; injection e with e; omega)).trans (h.block i hi h1 h2)⟩

theorem own_of_fit {w : World} {B g k : Nat} {f : Nat → Int} (h : Row w g k f) (hz : Fit w g k) (hB : B ≤ g) (hk : k ≤ 65536) : w.ownsRow B 5 1 (.slice (some ⟨g, 0, none⟩) k k) k ((List.range k).map fun j => Value.int .u8 (f j)) := by
  obtain ⟨cs, h1, h2⟩ := hz
  obtain ⟨cs', h3, h4⟩ := h
  rw [h1] at h3; injection h3 with h3; injection h3 with h3; subst h3
  refine ⟨by simp, .inr ⟨g, k, cs, rfl, hB, h1, Nat.le_refl _, by simp [maxLen]; omega, by omega, ?_⟩⟩
  apply List.ext_getElem?
  intro i
  by_cases hi : i < k
  · rw [Nat.mul_one, List.getElem?_take_of_lt hi, Array.getElem?_toList, (h4 i hi).1, List.getElem?_map, List.getElem?_range hi]; rfl
  · rw [List.getElem?_eq_none (by simp; omega), List.getElem?_eq_none (by simp; omega)]

/-- readRound's answer: n bytes in new memory. -/
def Got (X : TypeId × List Value) (p m N n : Nat) (c : Int) (f b : Nat → Int) (w : World) (e : Ending) (w' : World) : Prop :=
  ∃ g k : Nat, w.heap.size ≤ g ∧ n ≤ k ∧ k ≤ 9223372036854775807 ∧ e = .returned (.slice (some ⟨g, 0, none⟩) n k) ∧ Ar X w' p m N (c + n) f ∧ Row w' g n b ∧ Only p p w w'

theorem read_z (p m n a k : Nat) (c : Int) (f : Nat → Int) (w : World) (h : Ar X w p m n c f) (hk : a + k ≤ n) (hn : n ≤ 65536) (hc0 : 0 ≤ c) (hc1 : c ≤ 1000000000000) (za zk : Int) (ea : za = a) (ek : zk = k) :
    Calls Try.prog 85 #[.pointer (some ⟨p, 0, none⟩), .int .i64 za, .int .i64 zk] w (ReadPost X p m n a k c f w) := by
  subst ea ek; exact read_ok p m n a k c f w h hk hn hc0 hc1

set_option maxHeartbeats 800000 in
theorem readRound_ok (p m N a n : Nat) (c : Int) (f : Nat → Int) (w : World) (h : Ar X w p m N c f) (ha : a ≤ N) (hn : n ≤ N) (hN : N ≤ 65536) (hc0 : 0 ≤ c) (hc1 : c ≤ 100000000000) (z : Int) (hz : z = n) :
    Calls Try.prog 77 #[.pointer (some ⟨p, 0, none⟩), .int .i64 (a : Int), .int .i64 z] w (Got X p m N n c f (fun j => if j < min n (N - a) then f (a + j) else f (0 + (j - min n (N - a)))) w) := by
  subst hz
  obtain ⟨fr, hfr⟩ : ∃ fr, min n (N - a) = fr := ⟨_, rfl⟩
  have hf1 : fr ≤ n := by omega
  have hf2 : a + fr ≤ N := by omega
  rw [hfr]
  have HS := Lib.hid (rsize_any p m N c f w h)
  have key : ((n : Int) ≤ (N : Int) - (a : Int) ∧ (n : Int) = fr) ∨ ((N : Int) - (a : Int) < n ∧ (N : Int) - (a : Int) = fr) := by omega
  obtain ⟨i0, hi0, hz0, hz1, hz2⟩ := info_parts info5
  have HI := Lib.hid hi0; have HZ0 := Lib.hid hz0; have HZ1 := Lib.hid hz1; have HZ2 := Lib.hid hz2
  clear hi0 hz0 hz1 hz2
  have H := Lib.hid h
  have lp := h.ltp
  have lm := h.ltm
  clear h hfr
  rcases key with ⟨t, ht⟩ | ⟨t, ht⟩
  all_goals
    have HT := Lib.hid ht
    clear ht
    go_enter Try.func77, Try.ntmps77
    go_wp2_with fail
    refine HS.out.mono ?_
    rintro e w' ⟨rfl, rfl⟩
    go_wp2_with fail
    refine (read_z p m N a fr c f w H.out hf2 hN hc0 (by omega) _ _ rfl HT.out).mono ?_
    rintro e w1 ⟨g1, hg1, rfl, ha1, hr1, ho1, hz1⟩
    have lg1 := hr1.lt
    have HA1 := Lib.hid ha1
    have s1 := ho1.size
    have HO1 := Lib.hid ho1
    clear ha1 ho1
    go_wp2_with fail
    refine (read_z p m N 0 (n - fr) (c + fr) f w1 HA1.out (by omega) hN (by omega) (by omega) _ _ rfl (by have := HT.out; omega)).mono ?_
    rintro e w2 ⟨g2, hg2, rfl, ha2, hr2, ho2, hz2⟩
    have s2 := ho2.size
    have g1p : g1 ≠ p := by omega
    have hr1' := hr1.only ho2 g1p g1p
    have hz1' : Fit w2 g1 fr := hz1.keep (ho2.block g1 lg1 g1p g1p)
    have HOWN := Lib.hid (own_of_fit (B := w.heap.size) hr1' hz1' hg1 (by omega))
    have HO2 := Lib.hid (HO1.out.trans ho2)
    have HA2 := Lib.hid ha2
    have HR2 := Lib.hid hr2
    have HLO := Lib.hid hr1'
    have lg2 := hr2.lt
    clear ha2 ho2 hr1 hr1' hz1 hz1' hz2 hr2 HO1 HA1
    go_wp2_with (at_builtin; refine wpList_append_own _ rfl _ _ 31 rfl w.heap.size 5 i0 (.int .u8 0) 1 1 Try.underlying31 HI.out HZ0.out HZ1.out HZ2.out rfl (by decide) _ fr _ rfl HOWN.out ⟨g2, 0, none⟩ (n - fr) (n - fr) ((List.range (n - fr)).map fun j => Value.int .u8 (f (0 + j))) rfl (by simp) ?c1 ?c2 (by simp [maxLen]; omega) (by omega) (by omega) ?c3)
    case c1 =>
      intro j u hj
      have hjl : j < n - fr := by have := (List.getElem?_eq_some_iff.1 hj).1; simpa using this
      rw [List.getElem?_map, List.getElem?_range hjl] at hj
      simp only [Option.map_some, Option.some.injEq] at hj
      subst hj
      rw [add_at, Nat.zero_add]
      have := HR2.out.at_ hjl
      simpa using this
    case c2 => intro u hu; simp at hu; obtain ⟨j, _, rfl⟩ := hu; rfl
    case c3 =>
      intro v' w3 hown hg hnil
      obtain ⟨g, cap, rfl, hb, hc1, hc2⟩ := own_form hown hnil
      have HR := Lib.hid (row_of_own (f := fun j => if j < fr then f (a + j) else f (0 + (j - fr))) hown (fun i hi => by
        by_cases hif : i < fr
        · rw [List.getElem?_append_left (by simp; omega), List.getElem?_map, List.getElem?_range hif]
          simp only [Option.map_some, if_pos hif]
          exact ⟨by simp, HLO.out.lo hif⟩
        · rw [List.getElem?_append_right (by simp; omega), List.getElem?_map, List.length_map, List.length_range, List.getElem?_range (by omega)]
          simp only [Option.map_some, if_neg hif]
          exact ⟨by simp, HR2.out.lo (by omega)⟩))
      have HO3 := Lib.hid (HO2.out.grown hg hg1)
      have HA3 := Lib.hid (HA2.out.keep (hg.block p (by omega) (by simp [Value.ownBlock]; omega)) (hg.block m (by omega) (by simp [Value.ownBlock]; omega)))
      clear hown hg hnil HA2 HO2
      go_wp2
      go_ret
      refine ⟨g, cap, hb, by omega, by omega, rfl, ?_, HR.out, HO3.out⟩
      have e : c + (fr : Int) + ((n - fr : Nat) : Int) = c + (n : Int) := by omega
      rw [← e]
      exact HA3.out
end Go.Proofs.Ytneimdjgbblaoaa.R
