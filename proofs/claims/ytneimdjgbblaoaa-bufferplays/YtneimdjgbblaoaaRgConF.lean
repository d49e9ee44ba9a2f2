/- Texts of bytes, Write of one part; occupied, Size, Free, Len, Fits, place of a ring. -/
import Derived.Test.YtneimdjgbblaoaaRgAbs
import Derived.Laws.IdiomStrings
import Derived.Deep.QuietTactic
import Derived.BigQuiet
namespace Go.Proofs.Ytneimdjgbblaoaa.R
open Go.RowKit
set_option maxRecDepth 100000
variable {X : TypeId × List Value}

/-- the text of n bytes -/
def strOf (n : Nat) (f : Nat → Int) : ByteArray := ⟨((List.range n).map fun i => UInt8.ofNat (f i).toNat).toArray⟩
theorem strOf_congr {n : Nat} {f g : Nat → Int} (h : ∀ i, i < n → f i = g i) : strOf n f = strOf n g := by
  unfold strOf
  congr 2
  apply List.map_congr_left
  intro i hi
  rw [h i (by simpa using hi)]

theorem run_str {A : Option Addr} {n cap p m : Nat} {f : Nat → Int} {W : World} (h : Src W p m A n f) : (convert 31 9 (.slice A n cap)).run Try.prog W = .ok (.string (strOf n f)) W := by
  rcases Nat.eq_zero_or_pos n with h0 | h0
  · subst h0
    rcases A with _ | a
    · rw [run_convert_bytes_string W 31 9 5 none 0 cap Try.underlying31 Try.underlying5 Try.underlying9]; rfl
    · exact run_convert_bytes_back (P := Try.prog) W 31 9 5 a cap [] Try.underlying31 Try.underlying5 Try.underlying9 (fun j hj => absurd hj (by simp))
  · obtain ⟨b, o, rfl, _, _, hc⟩ := h h0
    have hl : ((List.range n).map fun i => UInt8.ofNat (f i).toNat).length = n := by simp
    have := run_convert_bytes_back (P := Try.prog) W 31 9 5 ⟨b, o, none⟩ cap ((List.range n).map fun i => UInt8.ofNat (f i).toNat) Try.underlying31 Try.underlying5 Try.underlying9 (fun j hj => by
      have hj' : j < n := by simpa using hj
      obtain ⟨h1, h2, h3⟩ := hc j hj'
      rw [add_at, h1]
      simp only [List.getElem_map, List.getElem_range, UInt8.toNat_ofNat']
      congr 2
      omega)
    rw [hl] at this
    exact this

theorem Row.src {W : World} {g n : Nat} {f : Nat → Int} (h : Row W g n f) : Src W (g + 1) (g + 1) (some ⟨g, 0, none⟩) n f :=
  Src.of_row h (by omega) (by omega) 0 (by omega) (fun j _ => by simp)

theorem part_one (ys : List Int) : part [ys] 0 = ys := rfl
theorem whole_one (ys : List Int) : whole [ys] = ys := by simp [whole]
theorem bytes_one (n : Nat) (q : Nat → Int) (j : Nat) (hj : j < n) : bytesOf [(List.range n).map q] j = q j := by
  simp [bytesOf, whole_one, List.getD_eq_getElem?_getD, hj]

theorem Src.alloc {W : World} {p m n : Nat} {A : Option Addr} {q : Nat → Int} (h : Src W p m A n q) (o : Obj) : Src (W.alloc o) p m A n q :=
  h.only ((Only.refl p m W).alloc o) (.inl rfl) (.inr (.inl rfl))

theorem parts_one {W : World} {p m n k : Nat} {A : Option Addr} {q : Nat → Int} (h : Src W p m A n q) (hp : p < W.heap.size) (hm : m < W.heap.size) (hn : n ≤ 9223372036854775807) :
    Parts (W.alloc (.cells #[.slice A n k] 31)) p m (some ⟨W.heap.size, 0, none⟩) [(List.range n).map q] := by
  intro _
  refine ⟨_, _, rfl, by omega, by omega, fun i hi => ?_⟩
  obtain rfl : i = 0 := by simp at hi; omega
  rw [part_one]
  have hl : ((List.range n).map q).length = n := by simp
  rw [hl]
  refine ⟨A, k, by rw [cell_of_row _ _ _ _ _ _ (heap_alloc_new W _)]; rfl, ?_, hn⟩
  intro h0
  obtain ⟨b, o, hA, h1, h2, hc⟩ := (h.alloc (.cells #[.slice A n k] 31)) h0
  refine ⟨b, o, hA, h1, h2, fun j hj => ?_⟩
  have e : ((List.range n).map q).getD j 0 = q j := by simp [List.getD_eq_getElem?_getD, hj]
  simp only [e]; exact hc j hj

theorem write1_ok {p m n a k kk : Nat} {c : Int} {f q : Nat → Int} {A : Option Addr} {W : World} (h : Ar X W p m n c f) (hs : Src W p m A k q) (hk : a + k ≤ n) (hn : n ≤ 65536) (hc0 : 0 ≤ c) (hc1 : c ≤ 1000000000000) (z : Int) (hz : z = a) :
    Calls Try.prog 83 #[.pointer (some ⟨p, 0, none⟩), .int .i64 z, .slice (some ⟨W.heap.size, 0, none⟩) 1 1] (W.alloc (.cells #[.slice A k kk] 31)) (Wrote X p m n (c + k) (upd f a k q) (W.alloc (.cells #[.slice A k kk] 31))) := by
  subst hz
  have hl : (whole [(List.range k).map q]).length = k := by simp [whole_one]
  have := write_ok p m n a c f (some ⟨W.heap.size, 0, none⟩) 1 [(List.range k).map q] (W.alloc (.cells #[.slice A k kk] 31)) (h.alloc _) (parts_one hs h.ltp h.ltm (by omega)) (by simp) (by rw [hl]; exact hk) hn hc0 hc1
  rw [hl, upd_congr f a k _ q (fun i hi => bytes_one k q i hi)] at this
  exact this


theorem call_sym {f : FuncId} {args : Array Value} {w : World} {v : Value} (h : Calls Try.prog f args w fun e w' => e = .returned v ∧ w = w') : Calls Try.prog f args w fun e w' => e = .returned v ∧ w' = w := h.mono fun _ _ ⟨a, b⟩ => ⟨a, b.symm⟩
theorem ret_bool {a b : Bool} (h : a = b) : Ending.returned (.bool a) = .returned (.bool b) := by rw [h]

/-- the other fields of a ring -/
def fields (F U Q : Nat) : TypeId × List Value := (113, [.int .i64 (F : Int), .int .i64 (U : Int), .int .i64 (Q : Int)])

set_option maxHeartbeats 400000 in
theorem align_any (n : Nat) (hn : n ≤ 65536) (z : Int) (hz : z = n) (r : Int) (hr : (((n + 3) / 4 * 4 : Nat) : Int) = r) (w : World) : Calls Try.prog 84 #[.int .i64 z, .int .i64 4] w fun e w' => e = .returned (.int .i64 r) ∧ w = w' := by
  subst hz
  have K := Lib.hid (show ((n : Int) + 4 - 1) / 4 * 4 = r by omega)
  have h1 : (n : Int) ≤ 1073741824 := by omega
  clear hr
  go_enter Try.func84, Try.ntmps84
  go_wp2
  go_ret
  exact ⟨ret_int (by have := K.out; omega), rfl⟩

set_option maxHeartbeats 400000 in
theorem occupied_any (n : Nat) (hn : n ≤ 65536) (z : Int) (hz : z = n) (w : World) : Calls Try.prog 70 #[.int .i64 z] w fun e w' => e = .returned (.int .i64 (occ n : Nat)) ∧ w = w' := by
  subst hz
  obtain ⟨y, hy⟩ : ∃ y : Int, (((n + 3) / 4 * 4 : Nat) : Int) = y := ⟨_, rfl⟩
  have K := Lib.hid (show (4 : Int) + y = (occ n : Nat) by unfold occ; omega)
  have hl : y ≤ 70000 := by omega
  have hl0 : 0 ≤ y := by omega
  have HA := Lib.hid (align_any n hn _ rfl y hy w)
  clear hy
  go_enter Try.func70, Try.ntmps70
  go_wp2_with fail
  refine HA.out.mono ?_
  rintro e w' ⟨rfl, rfl⟩
  go_wp2
  go_ret
  exact ⟨ret_int K.out, rfl⟩

set_option maxHeartbeats 400000 in
theorem ralign_any (n : Nat) (hn : n ≤ 65536) (z : Int) (hz : z = n) (r : Int) (hr : (((n + 3) / 4 * 4 : Nat) : Int) = r) (w : World) : Calls Try.prog 81 #[.int .i64 z, .int .i64 4] w fun e w' => e = .returned (.int .i64 r) ∧ w = w' := by
  subst hz
  have h1 : (n : Int) ≤ 1073741824 := by omega
  by_cases c : n % 4 = 0
  · have K := Lib.hid (show (n : Int) = r by omega)
    have hm : ((n : Int) % 4 == 0) = true := by simp; omega
    clear c hr
    go_enter Try.func81, Try.ntmps81
    go_wp2
    go_ret
    exact ⟨ret_int K.out, rfl⟩
  · have K := Lib.hid (show (n : Int) + 4 - (n : Int) % 4 = r by omega)
    have hm : ((n : Int) % 4 == 0) = false := by simp; omega
    have k1 : (n : Int) % 4 < 4 := by omega
    have k2 : 0 ≤ (n : Int) % 4 := by omega
    clear c hr
    go_enter Try.func81, Try.ntmps81
    go_wp2
    go_ret
    exact ⟨ret_int K.out, rfl⟩
set_option maxHeartbeats 400000 in
theorem takes_any (n : Nat) (hn : n ≤ 65536) (z : Int) (hz : z = n) (w : World) : Calls Try.prog 60 #[.int .i64 z] w fun e w' => e = .returned (.int .i64 (occ n : Nat)) ∧ w = w' := by
  subst hz
  obtain ⟨y, hy⟩ : ∃ y : Int, (((n + 3) / 4 * 4 : Nat) : Int) = y := ⟨_, rfl⟩
  have K := Lib.hid (show (4 : Int) + y = (occ n : Nat) by unfold occ; omega)
  have hl : y ≤ 70000 := by omega
  have hl0 : 0 ≤ y := by omega
  have HA := Lib.hid (ralign_any n hn _ rfl y hy w)
  clear hy
  go_enter Try.func60, Try.ntmps60
  go_wp2_with fail
  refine HA.out.mono ?_
  rintro e w' ⟨rfl, rfl⟩
  go_wp2
  go_ret
  exact ⟨ret_int K.out, rfl⟩

set_option maxHeartbeats 400000 in
theorem rsize_any (p m n : Nat) (c : Int) (f : Nat → Int) (w : World) (h : Ar X w p m n c f) : Calls Try.prog 59 #[.pointer (some ⟨p, 0, none⟩)] w fun e w' => e = .returned (.int .i64 n) ∧ w = w' := by
  have HS := Lib.hid (size_any p m n c f w h)
  clear h
  go_enter Try.func59, Try.ntmps59
  go_wp2_with fail
  refine HS.out.mono ?_
  rintro e w' ⟨rfl, rfl⟩
  go_wp2
  go_ret
  exact ⟨rfl, rfl⟩

set_option maxHeartbeats 400000 in
theorem len_any (p m n F U Q : Nat) (c : Int) (f : Nat → Int) (w : World) (h : Ar (fields F U Q) w p m n c f) : Calls Try.prog 26 #[.pointer (some ⟨p, 0, none⟩)] w fun e w' => e = .returned (.int .i64 Q) ∧ w = w' := by
  obtain ⟨h2, _⟩ := h.field 2 _ rfl
  clear h
  go_enter Try.func26, Try.ntmps26
  go_wp2
  go_ret
  exact ⟨rfl, rfl⟩

set_option maxHeartbeats 400000 in
theorem free_any (p m n F U Q : Nat) (c : Int) (f : Nat → Int) (w : World) (h : Ar (fields F U Q) w p m n c f) (hU : U ≤ n) (hn : n ≤ 65536) : Calls Try.prog 27 #[.pointer (some ⟨p, 0, none⟩)] w fun e w' => e = .returned (.int .i64 ((n : Int) - (U : Int))) ∧ ∃ d, w' = w.drewN d := by
  obtain ⟨h1, _⟩ := h.field 1 _ rfl
  have HS := Lib.hid (fun d => rsize_any p m n c f (w.drewN d) (h.drewN d))
  clear h
  go_enter Try.func27, Try.ntmps27
  go_wp2
  go_quiet ((go_at_call 59; exact Calls.quiet_of_same (call_sym (HS.out _))))
  go_wp2
  go_ret
  exact ⟨rfl, nq, rfl⟩

/-- what Fits tells -/
def fits (N U : Nat) (z : Int) : Bool := decide (0 ≤ z ∧ z ≤ 1024 ∧ occ z.toNat + U ≤ N)

set_option maxHeartbeats 400000 in
theorem fits_any (p m n F U Q : Nat) (c : Int) (f : Nat → Int) (w : World) (h : Ar (fields F U Q) w p m n c f) (hU : U ≤ n) (hn : n ≤ 65536) (z : Int) (r : Bool) (hr : fits n U z = r) : Calls Try.prog 66 #[.pointer (some ⟨p, 0, none⟩), .int .i64 z] w fun e w' => e = .returned (.bool r) ∧ ∃ d, w' = w.drewN d := by
  subst hr
  by_cases c1 : 0 ≤ z
  · by_cases c2 : z ≤ 1024
    · have HO := Lib.hid (occupied_any z.toNat (by omega) z (by omega) w)
      have HF := Lib.hid (free_any p m n F U Q c f w h hU hn)
      have HE := Lib.hid (show decide (((occ z.toNat : Nat) : Int) ≤ (n : Int) - (U : Int)) = fits n U z by unfold fits; rw [Bool.eq_iff_iff]; simp [c1, c2]; omega)
      clear h hU
      generalize ((occ z.toNat : Nat) : Int) = y at *
      generalize (n : Int) - (U : Int) = x at *
      go_enter Try.func66, Try.ntmps66
      go_wp2_with fail
      refine HO.out.mono ?_
      rintro e w' ⟨rfl, rfl⟩
      go_wp2_with fail
      refine HF.out.mono ?_
      rintro e w' ⟨rfl, d, rfl⟩
      go_wp2
      go_ret
      exact ⟨ret_bool HE.out, d, rfl⟩
    · have HE := Lib.hid (show false = fits n U z by unfold fits; simp [c2])
      have t : decide (z ≤ 1024) = false := by simpa using c2
      clear h c2
      go_enter Try.func66, Try.ntmps66
      go_wp2
      go_ret
      exact ⟨ret_bool HE.out, 0, rfl⟩
  · have HE := Lib.hid (show false = fits n U z by unfold fits; simp [c1])
    have t : decide (0 ≤ z) = false := by simpa using c1
    clear h c1
    go_enter Try.func66, Try.ntmps66
    go_wp2
    go_ret
    exact ⟨ret_bool HE.out, 0, rfl⟩

set_option maxHeartbeats 400000 in
theorem place_any (p m n F U Q : Nat) (c : Int) (f : Nat → Int) (w : World) (h : Ar (fields F U Q) w p m n c f) (hF : F < n) (hn : n ≤ 65536) (k : Nat) (hk : k ≤ 200000) (z : Int) (hz : z = k) : Calls Try.prog 68 #[.pointer (some ⟨p, 0, none⟩), .int .i64 z] w fun e w' => e = .returned (.int .i64 (((F + k) % n : Nat) : Int)) ∧ ∃ d, w' = w.drewN d := by
  subst hz
  obtain ⟨h1, _⟩ := h.field 0 _ rfl
  have HS := Lib.hid (fun d => rsize_any p m n c f (w.drewN d) (h.drewN d))
  have K := Lib.hid (show ((F : Int) + (k : Int)) % (n : Int) = (((F + k) % n : Nat) : Int) by simp)
  have hn0 : ((n : Int) == 0) = false := by simp; omega
  have hn1 : (n : Int) ≠ 0 := by omega
  clear h
  go_enter Try.func68, Try.ntmps68
  go_wp2
  go_quiet ((go_at_call 59; exact Calls.quiet_of_same (call_sym (HS.out _))))
  go_wp2
  go_ret
  exact ⟨ret_int K.out, nq, rfl⟩
end Go.Proofs.Ytneimdjgbblaoaa.R
