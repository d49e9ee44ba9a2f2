/- Contracts of package arena: Word, PutWord. -/
import Derived.Test.YtneimdjgbblaoaaRgConB
import Derived.Laws.BitsAllLaws
namespace Go.Proofs.Ytneimdjgbblaoaa.R
open Go.RowKit
set_option maxRecDepth 100000
variable {X : TypeId × List Value}

/-- byte t of a number, the least first -/
def byteOf (x : Int) (t : Nat) : Int := x / 2 ^ (8 * t) % 256
theorem byteOf_lo (x : Int) (t : Nat) : 0 ≤ byteOf x t ∧ byteOf x t ≤ 255 := by unfold byteOf; omega

def PutRel (m n a : Nat) (f : Nat → Int) (x : Int) (w1 : World) (i : Value) (wr : World) : Prop :=
  ∃ t : Nat, t ≤ 4 ∧ i = .int .i64 t ∧ Row wr m n (upd f a t (byteOf x)) ∧ Only m m w1 wr

set_option maxHeartbeats 800000 in
theorem putWord_ok (p m n a : Nat) (c x : Int) (f : Nat → Int) (w : World) (h : Ar X w p m n c f) (h4 : a % 4 = 0) (hk : a + 4 ≤ n) (hn : n ≤ 65536) (hc0 : 0 ≤ c) (hc1 : c ≤ 1000000000000) (_hx0 : 0 ≤ x) (_hx1 : x ≤ 4294967295) :
    Calls Try.prog 67 #[.pointer (some ⟨p, 0, none⟩), .int .i64 (a : Int), .int .u32 x] w (Wrote X p m n (c + 4) (upd f a 4 (byteOf x)) w) := by
  have HO := Lib.hid (openWord_okv p m n a c f w h h4 hk hn hc0 hc1)
  clear h h4
  go_enter Try.func67, Try.ntmps67
  go_wp2_with fail
  refine HO.out.mono ?_
  rintro e w1 ⟨A, j, hA, hj, hj2, rfl, ha, ho⟩
  obtain rfl := hA (by omega)
  clear hA
  go_wp2
  go_loopw [21] (fun i wr => PutRel m n a f x w1 i wr) (fun i _ => 4 - (intOf i).toNat)
  case atStart => exact ⟨0, Nat.zero_le _, rfl, by rw [upd_zero]; exact ha.row, Only.refl _ _ _⟩
  case round =>
    obtain ⟨t, ht, rfl, hr, hw⟩ := hrel
    by_cases hlt : t < 4
    · have hc1 := hr.at_ (i := a + t) (by omega)
      have hc2 := hr.frozen (a + t)
      go_wp2
      go_roundw
      case rel => exact ⟨t + 1, by omega, by go_num, hr.put (q := byteOf x) (byteOf_lo x t).1 (byteOf_lo x t).2 (by omega), hw.setCell (q := ⟨m, a + t, none⟩) (.inl rfl) _⟩
      case measure => simp [intOf]; omega
    · go_wp2
      go_ret
      obtain rfl : t = 4 := by omega
      exact ⟨rfl, ha.bytes hw hr, ho.wide.trans hw.wide'⟩

/-- the number of the first t bytes from a on, the least first -/
def wordUp (f : Nat → Int) (a : Nat) : Nat → Int
  | 0 => 0
  | t + 1 => wordUp f a t + f (a + t) * 2 ^ (8 * t)

theorem or_join (a b : Int) (s : Nat) (M : Int) (h0 : 0 ≤ a) (ha : a < M) (hb : 0 ≤ b) (hb2 : b < 4294967296) (hM : M ≤ 4294967296)
    (hj : ∀ x y : Nat, x % s = 0 → y < s → y ||| x = x + y) (hs : (s : Int) = M) (hd : b % M = 0) : bits .or .u32 a b = a + b := by
  rw [u32_or a b h0 (by omega) hb hb2, hj b.toNat a.toNat (by have : ((b.toNat % s : Nat) : Int) = 0 := by { rw [Int.natCast_emod, hs, Int.toNat_of_nonneg hb, hd] }; omega) (by omega)]
  omega

theorem wordUp_1 (f : Nat → Int) (a : Nat) : wordUp f a 1 = f a := by simp [wordUp]
theorem wordUp_2 (f : Nat → Int) (a : Nat) : wordUp f a 2 = f a + f (a + 1) * 256 := by simp [wordUp]
theorem wordUp_3 (f : Nat → Int) (a : Nat) : wordUp f a 3 = f a + f (a + 1) * 256 + f (a + 2) * 65536 := by simp [wordUp]
theorem wordUp_4 (f : Nat → Int) (a : Nat) : wordUp f a 4 = f a + f (a + 1) * 256 + f (a + 2) * 65536 + f (a + 3) * 16777216 := by simp [wordUp]

theorem or_up (f : Nat → Int) (a t : Nat) (ht : t < 4) (h : ∀ i, i < 4 → 0 ≤ f (a + i) ∧ f (a + i) ≤ 255) :
    bits .or .u32 (wordUp f a t) (f (a + t) * 2 ^ (8 * t) % 4294967296) = wordUp f a (t + 1) := by
  have h0 := h 0 (by omega); have h1 := h 1 (by omega); have h2 := h 2 (by omega); have h3 := h 3 (by omega)
  simp only [Nat.add_zero] at h0
  match t, ht with
  | 0, _ =>
    rw [wordUp_1, wordUp]; simp only [Nat.add_zero, Nat.mul_zero, Int.pow_zero, Int.mul_one]
    rw [Int.emod_eq_of_lt (by omega) (by omega), u32_or 0 (f a) (by omega) (by omega) (by omega) (by omega)]; simp; omega
  | 1, _ =>
    rw [wordUp_1, wordUp_2]
    have e : f (a + 1) * 2 ^ (8 * 1) % 4294967296 = f (a + 1) * 256 := by simp only [Nat.mul_one]; omega
    rw [e]; exact or_join _ _ 256 256 (by omega) (by omega) (by omega) (by omega) (by omega) nat_join8' rfl (by omega)
  | 2, _ =>
    rw [wordUp_2, wordUp_3]
    have e : f (a + 2) * 2 ^ (8 * 2) % 4294967296 = f (a + 2) * 65536 := by simp only [Nat.reduceMul]; omega
    rw [e]; exact or_join _ _ 65536 65536 (by omega) (by omega) (by omega) (by omega) (by omega) nat_join16' rfl (by omega)
  | 3, _ =>
    rw [wordUp_3, wordUp_4]
    have e : f (a + 3) * 2 ^ (8 * 3) % 4294967296 = f (a + 3) * 16777216 := by simp only [Nat.reduceMul]; omega
    rw [e]; exact or_join _ _ 16777216 16777216 (by omega) (by omega) (by omega) (by omega) (by omega) nat_join24' rfl (by omega)

theorem byteOf_0 (x : Int) : byteOf x 0 = x % 256 := by unfold byteOf; omega
theorem byteOf_1 (x : Int) : byteOf x 1 = x / 256 % 256 := by unfold byteOf; simp only [Nat.mul_one]; omega
theorem byteOf_2 (x : Int) : byteOf x 2 = x / 65536 % 256 := by unfold byteOf; simp only [Nat.reduceMul]; omega
theorem byteOf_3 (x : Int) : byteOf x 3 = x / 16777216 % 256 := by unfold byteOf; simp only [Nat.reduceMul]; omega
/-- the bytes of a number make the number -/
theorem wordUp_byteOf (f : Nat → Int) (a : Nat) (x : Int) (h0 : 0 ≤ x) (h1 : x ≤ 4294967295) (e : ∀ i, i < 4 → f (a + i) = byteOf x i) : wordUp f a 4 = x := by
  have e0 := e 0 (by omega); have e1 := e 1 (by omega); have e2 := e 2 (by omega); have e3 := e 3 (by omega)
  simp only [Nat.add_zero] at e0
  rw [wordUp_4, e0, e1, e2, e3, byteOf_0, byteOf_1, byteOf_2, byteOf_3]; omega

def WordPost (X : TypeId × List Value) (p m n a : Nat) (c : Int) (f : Nat → Int) (w : World) (e : Ending) (w' : World) : Prop :=
  e = .returned (.tuple #[.int .u32 (wordUp f a 4), .int .i64 0]) ∧ Ar X w' p m n (c + 4) f ∧ Only p p w w'

def WordRel (a : Nat) (f : Nat → Int) (v i : Value) : Prop :=
  ∃ t : Nat, t ≤ 4 ∧ i = .int .i64 t ∧ v = .int .u32 (wordUp f a t)

set_option maxHeartbeats 800000 in
theorem word_ok (p m n a : Nat) (c : Int) (f : Nat → Int) (w : World) (h : Ar X w p m n c f) (h4 : a % 4 = 0) (hk : a + 4 ≤ n) (hn : n ≤ 65536) (hc0 : 0 ≤ c) (hc1 : c ≤ 1000000000000) :
    Calls Try.prog 76 #[.pointer (some ⟨p, 0, none⟩), .int .i64 (a : Int)] w (WordPost X p m n a c f w) := by
  have HO := Lib.hid (openWord_okv p m n a c f w h h4 hk hn hc0 hc1)
  clear h h4
  go_enter Try.func76, Try.ntmps76
  go_wp2_with fail
  refine HO.out.mono ?_
  rintro e w1 ⟨A, j, hA, hj, hj2, rfl, ha, ho⟩
  obtain rfl := hA (by omega)
  clear hA
  go_wp2
  go_loop [8, 22] (fun v i => WordRel a f v i) (fun _ i => 4 - (intOf i).toNat)
  case atStart => exact ⟨0, Nat.zero_le _, rfl, rfl⟩
  case round =>
    obtain ⟨t, ht, rfl, rfl⟩ := hrel
    by_cases hlt : t < 4
    · have hc1 := ha.row.at_ (i := a + t) (by omega)
      have hc2 := ha.row.lo (i := a + t) (by omega)
      have HU := Lib.hid (or_up f a t hlt (fun i hi => ha.row.lo (i := a + i) (by omega)))
      go_wp2
      go_round
      case rel => exact ⟨t + 1, by omega, by go_num, by rw [HU.out]⟩
      case measure => simp [intOf]; omega
    · go_wp2
      go_ret2
      obtain rfl : t = 4 := by omega
      exact ⟨rfl, ha, ho⟩
end Go.Proofs.Ytneimdjgbblaoaa.R
