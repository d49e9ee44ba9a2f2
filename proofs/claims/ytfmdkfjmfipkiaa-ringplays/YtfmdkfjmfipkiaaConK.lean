/- Put where it is known whether it fits; the laws' own helper known. -/
import Derived.Test.YtfmdkfjmfipkiaaConJ
import Derived.Lib.SlBytesConst
import Derived.Lib.SmallJoins
namespace Go.Proofs.Ytfmdkfjmfipkiaa
open Go.RowKit

def PutYes (p m N : Nat) (c : Int) (L : List (List Int)) (w : World) (e : Ending) (w' : World) : Prop :=
  ∃ c', c ≤ c' ∧ c' ≤ c + 2000 ∧ e = .returned (.bool true) ∧ Rg w' p m N c' L ∧ Only p m w w'
def PutNo (p m N : Nat) (c : Int) (L : List (List Int)) (w : World) (e : Ending) (w' : World) : Prop :=
  ∃ c', c ≤ c' ∧ c' ≤ c + 2000 ∧ e = .returned (.bool false) ∧ Rg w' p m N c' L ∧ Only p m w w'

theorem put_yes (p m N n cap : Nat) (c : Int) (L : List (List Int)) (q : Nat → Int) (A : Option Addr) (w : World) (h : Rg w p m N c L) (hs : Src w p m A n q) (hcap : n ≤ cap) (hN : N ≤ 65536) (hc0 : 0 ≤ c) (hc1 : c ≤ 10000000000) (h1 : n ≤ 1024) (h2 : tot L + occ n ≤ N) :
    Calls Try.prog 10 #[.pointer (some ⟨p, 0, none⟩), .slice A n cap] w (PutYes p m N c (L ++ [mkm n q]) w) := by
  refine (put_any p m N n cap c L q A w h hs hcap hN hc0 hc1).mono ?_
  have e : fits N (tot L) ((mkm n q).length : Int) = true := by rw [mkm_len, fits_nat]; exact ⟨h1, h2⟩
  intro x w' ⟨c', k1, k2, k3, k4, k5⟩
  unfold putL at k4
  rw [e] at k3 k4
  exact ⟨c', k1, k2, k3, k4, k5⟩
theorem put_no (p m N n cap : Nat) (c : Int) (L : List (List Int)) (q : Nat → Int) (A : Option Addr) (w : World) (h : Rg w p m N c L) (hs : Src w p m A n q) (hcap : n ≤ cap) (hN : N ≤ 65536) (hc0 : 0 ≤ c) (hc1 : c ≤ 10000000000) (h1 : 1024 < n ∨ N < tot L + occ n) :
    Calls Try.prog 10 #[.pointer (some ⟨p, 0, none⟩), .slice A n cap] w (PutNo p m N c L w) := by
  refine (put_any p m N n cap c L q A w h hs hcap hN hc0 hc1).mono ?_
  have e : fits N (tot L) ((mkm n q).length : Int) = false := by rw [← Bool.not_eq_true, mkm_len, fits_nat]; omega
  intro x w' ⟨c', k1, k2, k3, k4, k5⟩
  unfold putL at k4
  rw [e] at k3 k4
  exact ⟨c', k1, k2, k3, k4, k5⟩

theorem src_new (w : World) (p m n : Nat) (hp : p < w.heap.size) (hm : m < w.heap.size) (cs : Array Value) (fz : Nat × Nat) (q : Nat → Int) (hc : ∀ j, j < n → cs[j]? = some (.int .u8 (q j)) ∧ 0 ≤ q j ∧ q j ≤ 255) : Src (w.alloc (.cells cs 5 fz)) p m (some ⟨w.heap.size, 0, none⟩) n q := by
  intro _
  refine ⟨_, _, rfl, by omega, by omega, fun j hj => ⟨?_, (hc j hj).2⟩⟩
  rw [cell_of_row _ _ _ _ _ _ (heap_alloc_new w _), Nat.zero_add]; exact (hc j hj).1

def KnownPost (w : World) (e : Ending) (w' : World) : Prop := e = .returned (.bool true) ∧ Below w.heap.size w w'

def hello (j : Nat) : Int := [104, 101, 108, 108, 111].getD j 0
theorem hello_str : strOf 5 (nth (mkm 5 hello)) = ⟨#[104, 101, 108, 108, 111]⟩ := by decide +kernel

theorem src_hello (w : World) (p m : Nat) (hp : p < w.heap.size) (hm : m < w.heap.size) : Src (w.alloc (.cells #[.int .u8 104, .int .u8 101, .int .u8 108, .int .u8 108, .int .u8 111] 5 (5, 6))) p m (some ⟨w.heap.size, 0, none⟩) 5 hello :=
  src_new w p m 5 hp hm _ _ hello (fun j hj => by
    match j, hj with
    | 0, _ => exact ⟨rfl, by decide, by decide⟩
    | 1, _ => exact ⟨rfl, by decide, by decide⟩
    | 2, _ => exact ⟨rfl, by decide, by decide⟩
    | 3, _ => exact ⟨rfl, by decide, by decide⟩
    | 4, _ => exact ⟨rfl, by decide, by decide⟩)
theorem src_byte (w : World) (p m : Nat) (x : Int) (h0 : 0 ≤ x) (h1 : x ≤ 255) (hp : p < w.heap.size) (hm : m < w.heap.size) : Src (w.alloc (.cells #[.int .u8 x] 5 (1, 2))) p m (some ⟨w.heap.size, 0, none⟩) 1 (fun _ => x) :=
  src_new w p m 1 hp hm _ _ _ (fun j hj => by obtain rfl : j = 0 := by omega
                                              exact ⟨rfl, h0, h1⟩)

set_option maxHeartbeats 1600000 in
set_option maxRecDepth 100000 in
theorem known_any (w : World) : Calls Try.prog 7 #[] w (KnownPost w) := by
  have HK := Lib.hid (fun (w : World) (C : Array Value) (n c : Nat) => Lib.run_convert_bytes_const (P := Try.prog) w 31 5 C n c Try.underlying31 Try.underlying5)
  go_enter Try.func7, Try.ntmps7
  go_wp2_with fail
  refine (gnew_ok 24 (by omega) (by omega) 24 rfl w).mono ?_
  rintro e w1 ⟨p, m, hp, hm, rfl, ha, hb⟩
  have kc := HK.out w1
  have HB := Lib.hid hb
  have HA := Lib.hid ha
  have lp := ha.ltp
  have lm := ha.ltm
  clear ha hb
  go_wp2_with fail
  refine (put_yes p m 24 5 5 0 [] hello _ _ (HA.out.alloc _) (src_hello w1 p m lp lm) (by omega) (by omega) (by omega) (by omega) (by omega) (by decide)).mono ?_
  rintro e w2 ⟨c2, h21, h22, rfl, ha2, ho2⟩
  clear kc
  have HA2 := Lib.hid ha2
  have lp2 := ha2.ltp
  have lm2 := ha2.ltm
  have HB2 := Lib.hid ((HB.out.alloc HB.out.size _).trans (ho2.below (Nat.le_trans HB.out.size (by simp)) hp hm))
  have kc := HK.out w2
  clear ha2 ho2 HA HB lp lm
  go_wp2_with fail
  refine (put_yes p m 24 1 1 c2 [mkm 5 hello] (fun _ => 120) _ _ (HA2.out.alloc _) (src_byte w2 p m 120 (by omega) (by omega) lp2 lm2) (by omega) (by omega) (by omega) (by omega) (by omega) (by decide +kernel)).mono ?_
  rintro e w3 ⟨c3, h31, h32, rfl, ha3, ho3⟩
  clear kc
  have HA3 := Lib.hid ha3
  have lp3 := ha3.ltp
  have lm3 := ha3.ltm
  have HB3 := Lib.hid ((HB2.out.alloc HB2.out.size _).trans (ho3.below (Nat.le_trans HB2.out.size (by simp)) hp hm))
  have kc := HK.out w3
  clear ha3 ho3 HA2 HB2 lp2 lm2
  go_wp2_with fail
  refine (put_no p m 24 1 1 c3 _ (fun _ => 121) _ _ (HA3.out.alloc _) (src_byte w3 p m 121 (by omega) (by omega) lp3 lm3) (by omega) (by omega) (by omega) (by omega) (.inr (by decide +kernel))).mono ?_
  rintro e w4 ⟨c4, h41, h42, rfl, ha4, ho4⟩
  clear kc
  have HA4 := Lib.hid ha4
  have HB4 := Lib.hid ((HB3.out.alloc HB3.out.size _).trans (ho4.below (Nat.le_trans HB3.out.size (by simp)) hp hm))
  clear ha4 ho4 HA3 HB3 lp3 lm3
  go_wp2_with fail
  refine (get_some p m 24 c4 (mkm 5 hello) [mkm 1 (fun _ => 120)] w4 HA4.out (by omega) (by omega) (by omega)).mono ?_
  rintro e w5 ⟨g, k, c5, h51, h52, hg, hk, hk2, rfl, ha5, hr5, ho5⟩
  have hs := run_str (cap := k) hr5.src
  rw [mkm_len, hello_str] at hs
  have HA5 := Lib.hid ha5
  have HB5 := Lib.hid (HB4.out.trans (ho5.below HB4.out.size hp hm))
  rw [mkm_len] at hk
  have e5 : (mkm 5 hello).length = 5 := mkm_len _ _
  rw [e5]
  clear ha5 ho5 HA4 HB4 hr5 e5
  go_wp2_with fail
  refine (glen_any HA5.out).mono ?_
  rintro e w6 ⟨rfl, rfl⟩
  have t0 : tot [mkm 1 (fun _ => (120 : Int))] = 8 := by decide +kernel
  go_wp2_with fail
  refine (gfree_any HA5.out (by omega)).mono ?_
  rintro e w6 ⟨rfl, d6, rfl⟩
  rw [t0]
  go_wp2_with fail
  refine (gfits_any (HA5.out.drewN d6) (by omega) 12).mono ?_
  rintro e w7 ⟨rfl, d7, rfl⟩
  rw [t0, show fits 24 8 12 = true by decide +kernel]
  go_wp2_with fail
  refine (gfits_any (HA5.out.drewN _) (by omega) 13).mono ?_
  rintro e w8 ⟨rfl, d8, rfl⟩
  rw [t0, show fits 24 8 13 = false by decide +kernel]
  go_wp2_with fail
  refine (gsize_any (HA5.out.drewN _)).mono ?_
  rintro e w9 ⟨rfl, rfl⟩
  go_wp2
  go_ret
  exact ⟨rfl, HB5.out.os, HB5.out.tape, HB5.out.output, HB5.out.size, HB5.out.block⟩
end Go.Proofs.Ytfmdkfjmfipkiaa
