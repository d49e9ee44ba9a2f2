/- Contracts of the laws' own helpers: string(b), known, in. -/
import Derived.Test.YtbednmifgbbhlaaConE
import Derived.Laws.IdiomStrings
import Derived.Lib.SlBytesConst
import Derived.Lib.SmallJoins
namespace Go.Proofs.Ytbednmifgbbhlaa
open Go.RowKit

/-- the text of n bytes -/
def strOf (n : Nat) (f : Nat → Int) : ByteArray := ⟨((List.range n).map fun i => UInt8.ofNat (f i).toNat).toArray⟩
theorem strOf_congr {n : Nat} {f g : Nat → Int} (h : ∀ i, i < n → f i = g i) : strOf n f = strOf n g := by
  unfold strOf
  congr 2
  apply List.map_congr_left
  intro i hi
  rw [h i (by simpa using hi)]

theorem run_str {A : Option Addr} {n cap p m : Nat} {f : Nat → Int} {W : World} (h : Src W p m A n f) : (convert 28 9 (.slice A n cap)).run Try.prog W = .ok (.string (strOf n f)) W := by
  rcases Nat.eq_zero_or_pos n with h0 | h0
  · subst h0
    rcases A with _ | a
    · rw [run_convert_bytes_string W 28 9 5 none 0 cap Try.underlying28 Try.underlying5 Try.underlying9]; rfl
    · exact run_convert_bytes_back (P := Try.prog) W 28 9 5 a cap [] Try.underlying28 Try.underlying5 Try.underlying9 (fun j hj => absurd hj (by simp))
  · obtain ⟨b, o, rfl, _, _, hc⟩ := h h0
    have hl : ((List.range n).map fun i => UInt8.ofNat (f i).toNat).length = n := by simp
    have := run_convert_bytes_back (P := Try.prog) W 28 9 5 ⟨b, o, none⟩ cap ((List.range n).map fun i => UInt8.ofNat (f i).toNat) Try.underlying28 Try.underlying5 Try.underlying9 (fun j hj => by
      have hj' : j < n := by simpa using hj
      obtain ⟨h1, h2, h3⟩ := hc j hj'
      rw [add_at, h1]
      simp only [List.getElem_map, List.getElem_range, UInt8.toNat_ofNat']
      congr 2
      omega)
    rw [hl] at this
    exact this

theorem Row.src {W : World} {g n : Nat} {f : Nat → Int} (h : Row W g n f) : Src W (g + 1) (g + 1) (some ⟨g, 0, none⟩) n f :=
  Src.of_row h (by omega) (by omega) 0 (by omega) (fun j _ => by simp)

theorem in_any (a k n : Int) (w : World) (hn0 : 0 ≤ n) (hn : n ≤ 65536) (r : Bool) (hr : decide (0 ≤ a ∧ 0 ≤ k ∧ a + k ≤ n) = r) :
    Calls Try.prog 11 #[.int .i64 a, .int .i64 k, .int .i64 n] w fun e w' => e = .returned (.bool r) ∧ w = w' := by
  subst hr
  by_cases c1 : 0 ≤ a
  · by_cases c2 : 0 ≤ k
    · by_cases c3 : a ≤ n
      · by_cases c4 : k ≤ n - a
        · have e : decide (0 ≤ a ∧ 0 ≤ k ∧ a + k ≤ n) = true := by simp; omega
          rw [e]; clear e
          go_enter Try.func11, Try.ntmps11
          go_wp2
          go_ret
          exact ⟨rfl, rfl⟩
        · have e : decide (0 ≤ a ∧ 0 ≤ k ∧ a + k ≤ n) = false := by simp; omega
          have t4 : decide (k ≤ n - a) = false := by simpa using c4
          rw [e]; clear e
          go_enter Try.func11, Try.ntmps11
          go_wp2
          go_ret
          exact ⟨rfl, rfl⟩
      · have e : decide (0 ≤ a ∧ 0 ≤ k ∧ a + k ≤ n) = false := by simp; omega
        have t3 : decide (a ≤ n) = false := by simpa using c3
        rw [e]; clear e
        go_enter Try.func11, Try.ntmps11
        go_wp2
        go_ret
        exact ⟨rfl, rfl⟩
    · have e : decide (0 ≤ a ∧ 0 ≤ k ∧ a + k ≤ n) = false := by simp; omega
      have t2 : decide (0 ≤ k) = false := by simpa using c2
      rw [e]; clear e
      go_enter Try.func11, Try.ntmps11
      go_wp2
      go_ret
      exact ⟨rfl, rfl⟩
  · have e : decide (0 ≤ a ∧ 0 ≤ k ∧ a + k ≤ n) = false := by simp; omega
    have t1 : decide (0 ≤ a) = false := by simpa using c1
    rw [e]; clear e
    go_enter Try.func11, Try.ntmps11
    go_wp2
    go_ret
    exact ⟨rfl, rfl⟩

/-- the world of known's parts -/
def knownW (w1 : World) : World :=
  ((w1.alloc (.cells #[.int .u8 97, .int .u8 98] 5 (2, 3))).alloc (.cells #[.int .u8 99] 5 (1, 2))).alloc (.cells #[.slice (some ⟨w1.heap.size, 0, none⟩) 2 2, .slice (some ⟨w1.heap.size + 1, 0, none⟩) 1 1] 28)

theorem knownW_0 (w1 : World) : (knownW w1).heap[w1.heap.size]? = some (.cells #[.int .u8 97, .int .u8 98] 5 (2, 3)) := by
  unfold knownW; rw [Below.heap_alloc _ _ _ (by simp; omega), Below.heap_alloc _ _ _ (by simp), heap_alloc_new]
theorem knownW_1 (w1 : World) : (knownW w1).heap[w1.heap.size + 1]? = some (.cells #[.int .u8 99] 5 (1, 2)) := by
  unfold knownW; rw [Below.heap_alloc _ _ _ (by simp)]
  have := heap_alloc_new (w1.alloc (.cells #[.int .u8 97, .int .u8 98] 5 (2, 3))) (.cells #[.int .u8 99] 5 (1, 2))
  simpa using this
theorem knownW_2 (w1 : World) : (knownW w1).heap[w1.heap.size + 2]? = some (.cells #[.slice (some ⟨w1.heap.size, 0, none⟩) 2 2, .slice (some ⟨w1.heap.size + 1, 0, none⟩) 1 1] 28) := by
  unfold knownW
  have := heap_alloc_new ((w1.alloc (.cells #[.int .u8 97, .int .u8 98] 5 (2, 3))).alloc (.cells #[.int .u8 99] 5 (1, 2))) (.cells #[.slice (some ⟨w1.heap.size, 0, none⟩) 2 2, .slice (some ⟨w1.heap.size + 1, 0, none⟩) 1 1] 28)
  simpa using this

theorem known_parts (w1 : World) (p m : Nat) (hp : p < w1.heap.size) (hm : m < w1.heap.size) : Parts (knownW w1) p m (some ⟨w1.heap.size + 2, 0, none⟩) [[97, 98], [99]] := by
  intro _
  refine ⟨_, _, rfl, by omega, by omega, fun i hi => ?_⟩
  have hi' : i = 0 ∨ i = 1 := by simp at hi; omega
  rcases hi' with rfl | rfl
  · refine ⟨some ⟨w1.heap.size, 0, none⟩, 2, by rw [cell_of_row _ _ _ _ _ _ (knownW_2 w1)]; rfl, fun _ => ⟨_, _, rfl, by omega, by omega, fun j hj => ?_⟩, by simp [part]⟩
    have hj' : j = 0 ∨ j = 1 := by simp [part] at hj; omega
    rw [cell_of_row _ _ _ _ _ _ (knownW_0 w1)]
    rcases hj' with rfl | rfl <;> simp [part]
  · refine ⟨some ⟨w1.heap.size + 1, 0, none⟩, 1, by rw [cell_of_row _ _ _ _ _ _ (knownW_2 w1)]; rfl, fun _ => ⟨_, _, rfl, by omega, by omega, fun j hj => ?_⟩, by simp [part]⟩
    have hj' : j = 0 := by simp [part] at hj; omega
    rw [cell_of_row _ _ _ _ _ _ (knownW_1 w1)]
    subst hj'; simp [part]

def KnownPost (w : World) (e : Ending) (w' : World) : Prop := e = .returned (.bool true) ∧ Below w.heap.size w w'

def knownF : Nat → Int := upd (fun _ => 0) 4 3 (bytesOf [[97, 98], [99]])
def knownG : Nat → Int := upd knownF 8 4 (byteOf 16909060)
theorem known_str : strOf 5 (fun j => knownF (3 + j)) = ⟨#[0, 97, 98, 99, 0]⟩ := by decide +kernel
theorem known_word : wordUp knownG 8 4 = 16909060 := by decide +kernel

set_option maxHeartbeats 1600000 in
set_option maxRecDepth 100000 in
theorem known_any (w : World) : Calls Try.prog 8 #[] w (KnownPost w) := by
  have HK := Lib.hid (fun (w : World) (C : Array Value) (n c : Nat) => Lib.run_convert_bytes_const (P := Try.prog) w 28 5 C n c Try.underlying28 Try.underlying5)
  go_enter Try.func8, Try.ntmps8
  go_wp2_with fail
  refine (new_ok 16 (by omega) w).mono ?_
  rintro e w1 ⟨p, m, hp, hm, rfl, ha, hb⟩
  have kc := HK.out w1
  have kc2 := Joins.run_convert_bytes_const_at (P := Try.prog) (w1.alloc (.cells #[.int .u8 97, .int .u8 98] 5 (2, 3))) 28 5 #[.int .u8 99] 1 1 (w1.heap.size + 1) (by simp) Try.underlying28 Try.underlying5
  have HB := Lib.hid hb
  have HW := Lib.hid ((write_ok p m 16 4 0 (fun _ => 0) (some ⟨w1.heap.size + 2, 0, none⟩) 2 [[97, 98], [99]] (knownW w1) (((ha.alloc _).alloc _).alloc _) (known_parts w1 p m ha.ltp ha.ltm) (by simp) (by decide) (by omega) (by omega) (by omega)).mono
    fun _ _ h => (show Wrote p m 16 3 knownF (knownW w1) _ _ from h))
  have HB1 := Lib.hid (((Below.refl w1.heap.size w1).alloc (Nat.le_refl _) (.cells #[.int .u8 97, .int .u8 98] 5 (2, 3))).alloc (by simp) (.cells #[.int .u8 99] 5 (1, 2)) |>.alloc (by simp; omega) (.cells #[.slice (some ⟨w1.heap.size, 0, none⟩) 2 2, .slice (some ⟨w1.heap.size + 1, 0, none⟩) 1 1] 28))
  have lp := ha.ltp; have lm := ha.ltm
  clear ha hb HK
  go_wp2_with fail
  refine HW.out.mono ?_
  rintro e w2 ⟨rfl, ha2, ho2⟩
  clear kc kc2
  have HB2 : Hid (Below w.heap.size w w2) := (HB.out.trans (HB1.out.mono HB.out.size)).trans (ho2.below (Nat.le_trans HB.out.size HB1.out.size) hp hm)
  clear HB HB1 ho2 HW lp lm
  go_wp2_with fail
  refine (read_ok p m 16 3 5 3 knownF w2 ha2 (by omega) (by omega) (by omega) (by omega)).mono ?_
  rintro e w3 ⟨g, hg, rfl, ha3, hr3, ho3⟩
  have gp : g ≠ p := by have := ha2.ltp; omega
  have gm : g ≠ m := by have := ha2.ltm; omega
  have HB3 : Hid (Below w.heap.size w w3) := HB2.out.trans (ho3.below HB2.out.size hp hp)
  clear HB2 ha2 ho3 hg
  go_wp2_with fail
  refine (putWord_ok p m 16 8 (3 + (5 : Nat)) 16909060 knownF w3 ha3 (by omega) (by omega) (by omega) (by omega) (by omega) (by omega) (by omega)).mono ?_
  rintro e w4 ⟨rfl, ha4, ho4⟩
  have HB4 : Hid (Below w.heap.size w w4) := HB3.out.trans (ho4.below HB3.out.size hp hm)
  have hr4 := hr3.only ho4 gp gm
  clear HB3 ha3 ho4 hr3
  go_wp2_with fail
  refine (word_ok p m 16 8 _ knownG w4 ha4 (by omega) (by omega) (by omega) (by omega) (by omega)).mono ?_
  rintro e w5 ⟨rfl, ha5, ho5⟩
  have HB5 : Hid (Below w.heap.size w w5) := HB4.out.trans (ho5.below HB4.out.size hp hp)
  have hr5 := hr4.only ho5 gp gp
  clear HB4 ha4 ho5 hr4
  go_wp2_with fail
  refine (word_bad p m 16 9 _ knownG w5 ha5 (by decide)).mono ?_
  rintro e w6 ⟨rfl, rfl⟩
  rw [known_word]
  have hs := run_str (cap := 5) hr5.src
  rw [known_str] at hs
  go_wp2_with (first | (go_at_call 18; refine (size_any p m 16 _ knownG w5 ha5).mono ?_; rintro e w' ⟨rfl, rfl⟩) | (go_at_call 17; refine (cost_any p m 16 _ knownG w5 ha5).mono ?_; rintro e w' ⟨rfl, rfl⟩))
  go_ret
  exact ⟨rfl, HB5.out⟩
end Go.Proofs.Ytbednmifgbbhlaa
