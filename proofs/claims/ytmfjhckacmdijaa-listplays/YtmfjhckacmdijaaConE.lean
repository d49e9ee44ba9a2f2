/- Contracts of package list: Back, Front, Before. -/
import Derived.Test.YtmfjhckacmdijaaConD
namespace Go.Proofs.Ytmfjhckacmdijaa
open Go.RowKit

/-- an adding's, a removing's answer -/
def Did (p m N H : Nat) (R : Nat → List Nat) (c : Int) (w : World) (e : Ending) (w' : World) : Prop :=
  e = .returned (.int .i64 c) ∧ Lst w' p m N H R ∧ Only m m w w'

def BackRel (p m N H h : Nat) (R : Nat → List Nat) (ns : List Int) (w1 : World) (i : Value) (wr : World) : Prop :=
  ∃ t : Nat, t ≤ ns.length ∧ i = .int .i64 t ∧ Lst wr p m N H (setR R h (R h ++ (ns.take t).map Int.toNat)) ∧ Only m m w1 wr

theorem setR_setR (R : Nat → List Nat) (h : Nat) (a b : List Nat) : setR (setR R h a) h b = setR R h b := by
  funext k; by_cases e : k = h <;> simp [setR, e]

theorem back_out {N H h t : Nat} {R : Nat → List Nat} {ns : List Int} (ha : AddOk N H R h ns) (hlt : t < ns.length) : ¬ Inn H (setR R h (R h ++ (ns.take t).map Int.toNat)) (nth ns t).toNat := by
  have hm := getD_mem hlt
  have h0 := ha.out _ hm
  rintro ⟨k, hk, hx⟩
  by_cases e : k = h
  · subst e; rw [setR_same, List.mem_append] at hx
    rcases hx with hx | hx
    · exact h0 ⟨k, hk, hx⟩
    · obtain ⟨y, hy, e⟩ := List.mem_map.1 hx
      have h3 := ha.one
      rw [← List.take_append_drop (t + 1) ns, take_succ_getD hlt] at h3
      have hy0 := ha.nd y (List.mem_of_mem_take hy)
      have hx0 := ha.nd _ hm
      exact (List.nodup_append.1 (List.nodup_append.1 h3).1).2.2 y hy (nth ns t) (by simp) (by omega)
  · rw [setR_ne _ _ _ _ e] at hx; exact h0 ⟨k, hk, hx⟩

set_option maxHeartbeats 1600000 in
theorem back_ok (p m N H h : Nat) (A : Option Addr) (cap : Nat) (ns : List Int) (R : Nat → List Nat) (w : World) (hl : Lst w p m N H R) (hN : N ≤ 1024) (hH : H ≤ 64) (hs : Nd w m A ns) (hn : ns.length ≤ 1000000000000) (ha : AddOk N H R (h : Int) ns) :
    Calls Try.prog 12 #[.pointer (some ⟨p, 0, none⟩), .int .i64 (h : Int), .slice A ns.length cap] w (Did p m N H (setR R h (R h ++ ns.map Int.toNat)) 0 w) := by
  have HA := Lib.hid (add_any p m N H h A cap ns R w hl hN hH hs hn 0 (.inr (.inr (.inr ⟨ha, rfl⟩))))
  have HK := Lib.hid ha
  have hh : h < H := by have := ha.hd; omega
  clear ha
  go_enter Try.func12, Try.ntmps12
  go_wp2_with fail
  refine HA.out.mono ?_
  rintro e w1 ⟨rfl, hb⟩
  have hl1 := hl.below hb hl.ltp hl.ltm
  have hs1 := hs.below hb
  have ho1 : Only m m w w1 := Only.of_below hb
  clear hl hs hb HA
  go_wp2
  go_loopw [19] (fun i wr => BackRel p m N H h R ns w1 i wr) (fun i _ => ns.length - (intOf i).toNat)
  case atStart => exact ⟨0, Nat.zero_le _, rfl, hl1.congr fun k _ => by by_cases e : k = h <;> simp [setR, e], Only.refl _ _ _⟩
  case round =>
    obtain ⟨t, ht, rfl, hl2, ho2⟩ := hrel
    clear hl1
    by_cases hlt : t < ns.length
    · have hx0 := HK.out.nd _ (getD_mem hlt)
      have HI := Lib.hid (back_out HK.out hlt)
      obtain ⟨x, hx⟩ : ∃ x : Nat, nth ns t = x := ⟨(nth ns t).toNat, by omega⟩
      have hs2 := hs1.only ho2 (.inl rfl) (.inl rfl)
      obtain ⟨b, o, rfl, hbm, hcl⟩ := hs2 (by omega)
      have hct := hcl t hlt
      rw [hx] at hct HI hx0
      have HX := Lib.hid hx
      simp only [Int.toNat_natCast] at HI
      have HE : Hid (Calls Try.prog 27 #[.pointer (some ⟨p, 0, none⟩), .int .i64 (h : Int)] wr fun e w' => e = .returned (.int .i64 ((N + h : Nat) : Int)) ∧ wr = w') := by
        obtain ⟨f, hf, _⟩ := hl2; exact end_ok p m N H h f wr hf hN (by omega)
      have HI2 := Lib.hid (insert_row p m N H x h _ wr hl2 hh (R h ++ (ns.take t).map Int.toNat) [] (by rw [setR_same, List.append_nil]) (by omega) HI.out (N + h) rfl)
      clear hs2 hcl hx hl2
      go_wp2_with fail
      refine HE.out.mono ?_
      rintro e w3 ⟨rfl, rfl⟩
      go_wp2_with fail
      refine HI2.out.mono ?_
      rintro e w4 ⟨rfl, hl4, ho4⟩
      go_wp2
      go_roundw
      case rel =>
        refine ⟨t + 1, by omega, by go_num, ?_, ho2.trans ho4⟩
        rw [setR_setR] at hl4
        rw [take_succ_getD hlt, HX.out]
        simpa using hl4
      case measure => simp [intOf]; omega
    · obtain rfl : t = ns.length := by omega
      rw [List.take_length] at hl2
      go_wp2
      go_ret
      exact ⟨rfl, hl2, ho1.trans ho2⟩

set_option maxHeartbeats 800000 in
theorem back_bad (p m N H : Nat) (h : Int) (A : Option Addr) (cap : Nat) (ns : List Int) (R : Nat → List Nat) (w : World) (hl : Lst w p m N H R) (hN : N ≤ 1024) (hH : H ≤ 64) (hs : Nd w m A ns) (hn : ns.length ≤ 1000000000000) (c : Int) (hc : AddSpec N H R h ns c) (hc0 : (c != 0) = true) :
    Calls Try.prog 12 #[.pointer (some ⟨p, 0, none⟩), .int .i64 h, .slice A ns.length cap] w (Did p m N H R c w) := by
  have HA := Lib.hid (add_any p m N H h A cap ns R w hl hN hH hs hn c hc)
  have HC := Lib.hid hc
  clear hc
  go_enter Try.func12, Try.ntmps12
  go_wp2_with fail
  refine HA.out.mono ?_
  rintro e w1 ⟨rfl, hb⟩
  go_wp2
  go_ret
  exact ⟨rfl, hl.below hb hl.ltp hl.ltm, Only.of_below hb⟩

theorem nd_one (w : World) (m : Nat) (x : Int) (hm : m < w.heap.size) : Nd (w.alloc (.cells #[.int .i64 x] 3)) m (some ⟨w.heap.size, 0, none⟩) [x] := by
  intro _
  refine ⟨w.heap.size, 0, rfl, by omega, fun j hj => ?_⟩
  obtain rfl : j = 0 := by simp at hj; omega
  rw [cell_of_row _ w.heap.size _ _ 3 (0, 0) (heap_alloc_new w _)]; rfl

set_option maxHeartbeats 1600000 in
theorem front_ok (p m N H h x : Nat) (R : Nat → List Nat) (w : World) (hl : Lst w p m N H R) (hN : N ≤ 1024) (hH : H ≤ 64) (ha : AddOk N H R (h : Int) [(x : Int)]) :
    Calls Try.prog 14 #[.pointer (some ⟨p, 0, none⟩), .int .i64 (h : Int), .int .i64 (x : Int)] w (Did p m N H (setR R h (x :: R h)) 0 w) := by
  have hl1 := hl.alloc (.cells #[.int .i64 (x : Int)] 3)
  have HA := Lib.hid (add_any p m N H h (some ⟨w.heap.size, 0, none⟩) 1 [(x : Int)] R _ hl1 hN hH (nd_one w m x hl.ltm) (by simp) 0 (.inr (.inr (.inr ⟨ha, rfl⟩))))
  simp only [List.length_cons, List.length_nil, Nat.zero_add] at HA
  have hh : h < H := by have := ha.hd; omega
  have hx : x < N := by have := ha.nd (x : Int) (by simp); omega
  have hxi : ¬ Inn H R x := by have := ha.out (x : Int) (by simp); simpa using this
  clear ha
  have ho1 := (Only.refl m m w).alloc (.cells #[.int .i64 (x : Int)] 3)
  go_enter Try.func14, Try.ntmps14
  go_wp2_with fail
  refine HA.out.mono ?_
  rintro e w2 ⟨rfl, hb⟩
  have hl2 := hl1.below hb hl1.ltp hl1.ltm
  have ho2 : Only m m w w2 := ho1.trans (Only.of_below hb)
  clear hl hl1 hb ho1 HA
  obtain ⟨f, hf, r⟩ := hl2
  have HE := Lib.hid (end_ok p m N H h f w2.drew hf hN (by omega))
  have HI2 := Lib.hid (insert_row p m N H x h R w2.drew ⟨f, hf, r⟩ hh [] (R h) rfl hx hxi _ rfl)
  obtain ⟨k, h0, h1, hk1, hk2⟩ := hf.cells
  have hc := hf.at_ (i := (N + h) * 3) (by omega)
  have hnx := r.next hh (L1 := []) (L2 := R h) rfl
  simp only [lst] at hnx
  rw [hnx] at hc
  have ie : ((N + h : Nat) : Int) < (N : Int) + (H : Int) := by omega
  have iu : N + h < N + H := by omega
  generalize N + h = u at *
  generalize (R h).headD u = y at *
  go_wp2
  go_still_tail 12, (by kernel_rfl)
  still_call (HE.out.mono (fun e w'' h => ⟨h.1, h.2.symm⟩))
  repeat still_step
  refine wpStill_nil ?_
  change wpList _ _ _ _ _ w2.drew
  go_wp2_with fail
  refine HI2.out.mono ?_
  rintro e w4 ⟨rfl, hl4, ho4⟩
  go_wp2
  go_ret
  exact ⟨rfl, hl4, ho2.drew.trans ho4⟩

set_option maxHeartbeats 800000 in
theorem front_bad (p m N H : Nat) (h x : Int) (R : Nat → List Nat) (w : World) (hl : Lst w p m N H R) (hN : N ≤ 1024) (hH : H ≤ 64) (c : Int) (hc : AddSpec N H R h [x] c) (hc0 : (c != 0) = true) :
    Calls Try.prog 14 #[.pointer (some ⟨p, 0, none⟩), .int .i64 h, .int .i64 x] w (Did p m N H R c w) := by
  have hl1 := hl.alloc (.cells #[.int .i64 x] 3)
  have HA := Lib.hid (add_any p m N H h (some ⟨w.heap.size, 0, none⟩) 1 [x] R _ hl1 hN hH (nd_one w m x hl.ltm) (by simp) c hc)
  simp only [List.length_cons, List.length_nil, Nat.zero_add] at HA
  have ho1 := (Only.refl m m w).alloc (.cells #[.int .i64 x] 3)
  clear hc
  go_enter Try.func14, Try.ntmps14
  go_wp2_with fail
  refine HA.out.mono ?_
  rintro e w2 ⟨rfl, hb⟩
  go_wp2
  go_ret
  exact ⟨rfl, hl1.below hb hl1.ltp hl1.ltm, ho1.trans (Only.of_below hb)⟩

theorem isIn_row (p m N H x : Nat) (R : Nat → List Nat) (w : World) (hl : Lst w p m N H R) (hx : x < N) (r : Bool) (hr : Inn H R x ↔ r = true) :
    Calls Try.prog 35 #[.pointer (some ⟨p, 0, none⟩), .int .i64 (x : Int)] w fun e w' => e = .returned (.bool r) ∧ w = w' := by
  obtain ⟨f, hf, g⟩ := hl
  refine isIn_ok p m N H x f w hf (by omega) r ?_
  have h := g.inn hx
  cases r with
  | true => simpa using h.2 (hr.2 rfl)
  | false => have : ¬ Inn H R x := fun h => by have := hr.1 h; simp at this
             have h2 := mt h.1 this
             simpa using h2
theorem hasNode_row (p m N H : Nat) (x : Int) (R : Nat → List Nat) (w : World) (hl : Lst w p m N H R) (r : Bool) (hr : decide (0 ≤ x ∧ x < N) = r) :
    Calls Try.prog 34 #[.pointer (some ⟨p, 0, none⟩), .int .i64 x] w fun e w' => e = .returned (.bool r) ∧ w = w' := by
  obtain ⟨f, hf, g⟩ := hl
  exact hasNode_any p m N H x f w hf r hr

set_option maxHeartbeats 800000 in
theorem before_par (p m N H : Nat) (x a : Int) (R : Nat → List Nat) (w : World) (hl : Lst w p m N H R) (hx : ¬ ((0 ≤ x ∧ x < N) ∧ (0 ≤ a ∧ a < N))) :
    Calls Try.prog 16 #[.pointer (some ⟨p, 0, none⟩), .int .i64 x, .int .i64 a] w (Did p m N H R (-17) w) := by
  by_cases h1 : 0 ≤ x ∧ x < N
  · have HA := Lib.hid (hasNode_row p m N H x R w hl true (by simpa using h1))
    have h2 : ¬ (0 ≤ a ∧ a < N) := fun h => hx ⟨h1, h⟩
    have HB := Lib.hid (hasNode_row p m N H a R w hl false (by simpa using h2))
    clear hx h1 h2
    go_enter Try.func16, Try.ntmps16
    go_wp2_with fail
    refine HA.out.mono ?_
    rintro e w1 ⟨rfl, rfl⟩
    go_wp2_with fail
    refine HB.out.mono ?_
    rintro e w1 ⟨rfl, rfl⟩
    go_wp2
    go_ret
    exact ⟨rfl, hl, Only.refl _ _ _⟩
  · have HA := Lib.hid (hasNode_row p m N H x R w hl false (by simpa using h1))
    clear hx h1
    go_enter Try.func16, Try.ntmps16
    go_wp2_with fail
    refine HA.out.mono ?_
    rintro e w1 ⟨rfl, rfl⟩
    go_wp2
    go_ret
    exact ⟨rfl, hl, Only.refl _ _ _⟩

set_option maxHeartbeats 800000 in
theorem before_obj (p m N H x a : Nat) (R : Nat → List Nat) (w : World) (hl : Lst w p m N H R) (hx : x < N) (ha : a < N) (hi : ¬ (Inn H R a ∧ ¬ Inn H R x)) :
    Calls Try.prog 16 #[.pointer (some ⟨p, 0, none⟩), .int .i64 (x : Int), .int .i64 (a : Int)] w (Did p m N H R (-41) w) := by
  have HA := Lib.hid (hasNode_row p m N H x R w hl true (by simp; omega))
  have HB := Lib.hid (hasNode_row p m N H a R w hl true (by simp; omega))
  by_cases h1 : Inn H R a
  · have h2 : Inn H R x := Classical.byContradiction fun h => hi ⟨h1, h⟩
    have HC := Lib.hid (isIn_row p m N H a R w hl ha true (by simp [h1]))
    have HD := Lib.hid (isIn_row p m N H x R w hl hx true (by simp [h2]))
    clear hi h1 h2
    go_enter Try.func16, Try.ntmps16
    go_wp2_with fail
    refine HA.out.mono ?_
    rintro e w1 ⟨rfl, rfl⟩
    go_wp2_with fail
    refine HB.out.mono ?_
    rintro e w1 ⟨rfl, rfl⟩
    go_wp2_with fail
    refine HC.out.mono ?_
    rintro e w1 ⟨rfl, rfl⟩
    go_wp2_with fail
    refine HD.out.mono ?_
    rintro e w1 ⟨rfl, rfl⟩
    go_wp2
    go_ret
    exact ⟨rfl, hl, Only.refl _ _ _⟩
  · have HC := Lib.hid (isIn_row p m N H a R w hl ha false (by simp [h1]))
    clear hi h1
    go_enter Try.func16, Try.ntmps16
    go_wp2_with fail
    refine HA.out.mono ?_
    rintro e w1 ⟨rfl, rfl⟩
    go_wp2_with fail
    refine HB.out.mono ?_
    rintro e w1 ⟨rfl, rfl⟩
    go_wp2_with fail
    refine HC.out.mono ?_
    rintro e w1 ⟨rfl, rfl⟩
    go_wp2
    go_ret
    exact ⟨rfl, hl, Only.refl _ _ _⟩

set_option maxHeartbeats 800000 in
theorem before_ok (p m N H x a h : Nat) (R : Nat → List Nat) (w : World) (hl : Lst w p m N H R) (hx : x < N) (hh : h < H) (L1 L2 : List Nat) (hR : R h = L1 ++ a :: L2) (hi : ¬ Inn H R x) :
    Calls Try.prog 16 #[.pointer (some ⟨p, 0, none⟩), .int .i64 (x : Int), .int .i64 (a : Int)] w (Did p m N H (setR R h (L1 ++ x :: a :: L2)) 0 w) := by
  have ha : a < N := by obtain ⟨f, _, r⟩ := hl; exact (r.mem h hh a (by rw [hR]; simp)).1
  have hia : Inn H R a := ⟨h, hh, by rw [hR]; simp⟩
  have HA := Lib.hid (hasNode_row p m N H x R w hl true (by simp; omega))
  have HB := Lib.hid (hasNode_row p m N H a R w hl true (by simp; omega))
  have HC := Lib.hid (isIn_row p m N H a R w hl ha true (by simp [hia]))
  have HD := Lib.hid (isIn_row p m N H x R w hl hx false (by simp [hi]))
  have HI := Lib.hid (insert_row p m N H x h R w hl hh L1 (a :: L2) hR hx hi a rfl)
  clear hi hia hl hR
  go_enter Try.func16, Try.ntmps16
  go_wp2_with fail
  refine HA.out.mono ?_
  rintro e w1 ⟨rfl, rfl⟩
  go_wp2_with fail
  refine HB.out.mono ?_
  rintro e w1 ⟨rfl, rfl⟩
  go_wp2_with fail
  refine HC.out.mono ?_
  rintro e w1 ⟨rfl, rfl⟩
  go_wp2_with fail
  refine HD.out.mono ?_
  rintro e w1 ⟨rfl, rfl⟩
  go_wp2_with fail
  refine HI.out.mono ?_
  rintro e w1 ⟨rfl, hl1, ho1⟩
  go_wp2
  go_ret
  exact ⟨rfl, hl1, ho1⟩
end Go.Proofs.Ytmfjhckacmdijaa
