/- Write of one part, as the laws call it; integers' facts. -/
import Derived.Test.YtbednmifgbbhlaaConK
namespace Go.Proofs.Ytbednmifgbbhlaa
open Go.RowKit

theorem part_one (ys : List Int) : part [ys] 0 = ys := rfl
theorem whole_one (ys : List Int) : whole [ys] = ys := by simp [whole]
theorem bytes_one (n : Nat) (q : Nat → Int) (j : Nat) (hj : j < n) : bytesOf [(List.range n).map q] j = q j := by
  simp [bytesOf, whole_one, List.getD_eq_getElem?_getD, hj]

theorem Src.alloc {W : World} {p m n : Nat} {A : Option Addr} {q : Nat → Int} (h : Src W p m A n q) (o : Obj) : Src (W.alloc o) p m A n q :=
  h.only ((Only.refl p m W).alloc o) (.inl rfl) (.inr (.inl rfl))

theorem parts_one {W : World} {p m n k : Nat} {A : Option Addr} {q : Nat → Int} (h : Src W p m A n q) (hp : p < W.heap.size) (hm : m < W.heap.size) (hn : n ≤ 9223372036854775807) :
    Parts (W.alloc (.cells #[.slice A n k] 28)) p m (some ⟨W.heap.size, 0, none⟩) [(List.range n).map q] := by
  intro _
  refine ⟨_, _, rfl, by omega, by omega, fun i hi => ?_⟩
  obtain rfl : i = 0 := by simp at hi; omega
  rw [part_one]
  have hl : ((List.range n).map q).length = n := by simp
  rw [hl]
  refine ⟨A, k, by rw [cell_of_row _ _ _ _ _ _ (heap_alloc_new W _)]; rfl, ?_, hn⟩
  intro h0
  obtain ⟨b, o, hA, h1, h2, hc⟩ := (h.alloc (.cells #[.slice A n k] 28)) h0
  refine ⟨b, o, hA, h1, h2, fun j hj => ?_⟩
  have e : ((List.range n).map q).getD j 0 = q j := by simp [List.getD_eq_getElem?_getD, hj]
  simp only [e]; exact hc j hj

theorem write1_ok {p m n a k kk : Nat} {c : Int} {f q : Nat → Int} {A : Option Addr} {W : World} (h : Ar W p m n c f) (hs : Src W p m A k q) (hk : a + k ≤ n) (hn : n ≤ 65536) (hc0 : 0 ≤ c) (hc1 : c ≤ 1000000000000) (z : Int) (hz : z = a) :
    Calls Try.prog 12 #[.pointer (some ⟨p, 0, none⟩), .int .i64 z, .slice (some ⟨W.heap.size, 0, none⟩) 1 1] (W.alloc (.cells #[.slice A k kk] 28)) (Wrote p m n (c + k) (upd f a k q) (W.alloc (.cells #[.slice A k kk] 28))) := by
  subst hz
  have hl : (whole [(List.range k).map q]).length = k := by simp [whole_one]
  have := write_ok p m n a c f (some ⟨W.heap.size, 0, none⟩) 1 [(List.range k).map q] (W.alloc (.cells #[.slice A k kk] 28)) (h.alloc _) (parts_one hs h.ltp h.ltm (by omega)) (by simp) (by rw [hl]; exact hk) hn hc0 hc1
  rw [hl, upd_congr f a k _ q (fun i hi => bytes_one k q i hi)] at this
  exact this

theorem write1_bad {p m n k kk : Nat} {z c : Int} {f q : Nat → Int} {A : Option Addr} {W : World} (h : Ar W p m n c f) (hs : Src W p m A k q) (hk : ¬ (0 ≤ z ∧ z + k ≤ n)) (hk2 : k ≤ 9223372036854775807) (hn : n ≤ 65536) :
    Calls Try.prog 12 #[.pointer (some ⟨p, 0, none⟩), .int .i64 z, .slice (some ⟨W.heap.size, 0, none⟩) 1 1] (W.alloc (.cells #[.slice A k kk] 28)) fun e w' => e = .returned (.int .i64 (-17)) ∧ W.alloc (.cells #[.slice A k kk] 28) = w' := by
  have hl : (whole [(List.range k).map q]).length = k := by simp [whole_one]
  exact write_bad p m n z c f (some ⟨W.heap.size, 0, none⟩) 1 [(List.range k).map q] (W.alloc (.cells #[.slice A k kk] 28)) (h.alloc _) (parts_one hs h.ltp h.ltm hk2) (by simp) hn (by rw [hl]; exact hk)

theorem or1_bounds (a : Int) (h0 : 0 ≤ a) (h1 : a ≤ 255) : 0 ≤ bits .or .u8 a 1 ∧ bits .or .u8 a 1 ≤ 255 := by
  rw [u8_or a 1 h0 (by omega) (by omega) (by omega)]
  have : a.toNat ||| (1 : Int).toNat < 2 ^ 8 := Nat.or_lt_two_pow (by omega) (by decide)
  omega
end Go.Proofs.Ytbednmifgbbhlaa
