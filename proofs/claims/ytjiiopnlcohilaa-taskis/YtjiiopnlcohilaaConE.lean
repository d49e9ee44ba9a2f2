/- Contract of the law's own same: a region that draws its order and makes memory, by one walk of the text's order. -/
import Derived.Test.YtjiiopnlcohilaaConF
import Derived.Test.YtjiiopnlcohilaaMix
namespace Go.Proofs.Ytjiiopnlcohilaa
open Go.RowKit

theorem any_form {s : St} (hg : Good s) : decide (¬ (s.A = 0 ∧ s.W = 0 ∧ s.S = 0)) = decide (0 < s.A + s.W + s.S) := by
  have h1 := hg.1; have h2 := hg.2.1; have h3 := hg.2.2.1
  by_cases c : 0 < s.A + s.W + s.S
  · have : ¬ (s.A = 0 ∧ s.W = 0 ∧ s.S = 0) := by omega
    simp [c]; omega
  · simp [c]; omega

/-- the program's task and the document's are the same -/
def Pr (w : World) (p q : Nat) (s : St) : Prop := Tk w 47 p s ∧ Tk w 56 q s
theorem Pr.below {w w' : World} {p q : Nat} {s : St} (h : Pr w p q s) (k : Below w.heap.size w w') : Pr w' p q s := ⟨h.1.below k, h.2.below k⟩
theorem Pr.ten {w : World} {p q : Nat} {s : St} (h : Pr w p q s) :
    w.cell? ⟨p, 0, none⟩ = some (.int .i64 s.A) ∧ w.cell? ⟨p, 1, none⟩ = some (.int .i64 s.W) ∧ w.cell? ⟨p, 2, none⟩ = some (.int .i64 s.S) ∧ w.cell? ⟨p, 3, none⟩ = some (.int .i64 s.X) ∧ w.cell? ⟨p, 4, none⟩ = some (.bool s.z) ∧
    w.cell? ⟨q, 0, none⟩ = some (.int .i64 s.A) ∧ w.cell? ⟨q, 1, none⟩ = some (.int .i64 s.W) ∧ w.cell? ⟨q, 2, none⟩ = some (.int .i64 s.S) ∧ w.cell? ⟨q, 3, none⟩ = some (.int .i64 s.X) ∧ w.cell? ⟨q, 4, none⟩ = some (.bool s.z) := by
  obtain ⟨c0, c1, c2, c3, c4⟩ := h.1.at_
  obtain ⟨d0, d1, d2, d3, d4⟩ := h.2.at_
  exact ⟨c0, c1, c2, c3, c4, d0, d1, d2, d3, d4⟩
/-- the worlds of the walk -/
def Cl (w : World) (p q : Nat) (s : St) (Z : World) : Prop := Pr Z p q s ∧ Below w.heap.size w Z
theorem Cl.on {w Z Z' : World} {p q : Nat} {s : St} (h : Cl w p q s Z) (k : Below Z.heap.size Z Z') : Cl w p q s Z' := ⟨h.1.below k, h.2.trans (k.mono h.2.size)⟩

/-- the region's tables: what each operation waits for, where it puts its value, what it looks at -/
def same_tabs : List Row := [
  ([], 6, [0]), ([0], 7, [5]), ([1], 8, [6]), ([2], 9, [7]), ([], 10, [1]), ([4], 11, [9]), ([5], 12, [10]), ([6], 13, [11]), ([3, 7], 14, [8, 12]), ([8], 15, [13]),
  ([9], 16, [0, 14]), ([10, 9], 17, [15, 14]), ([11, 9], 18, [16, 14]), ([12, 9], 19, [17, 14]), ([9], 20, [1, 14]), ([14, 9], 21, [19, 14]), ([15, 9], 22, [20, 14]),
  ([16, 9], 23, [21, 14]), ([13, 17, 9], 24, [18, 22, 14]), ([9, 18], 25, [14, 23]), ([19, 9], 26, [24]), ([20], 27, [0, 25]), ([21, 20], 28, [26, 25]),
  ([22, 20], 29, [27, 25]), ([23, 20], 30, [28, 25]), ([24, 20], 31, [29, 25]), ([20], 32, [1, 25]), ([26, 20], 33, [31, 25]), ([27, 20], 34, [32, 25]),
  ([28, 20], 35, [33, 25]), ([25, 29, 20], 36, [30, 34, 25]), ([20, 30], 37, [25, 35]), ([31, 20], 38, [36]), ([32], 39, [0, 37]), ([33, 32], 40, [38, 37]),
  ([34, 32], 41, [39, 37]), ([35, 32], 42, [40, 37]), ([36, 32], 43, [41, 37]), ([32], 44, [1, 37]), ([38, 32], 45, [43, 37]), ([39, 32], 46, [44, 37]),
  ([40, 32], 47, [45, 37]), ([37, 41, 32], 48, [42, 46, 37]), ([32, 42], 49, [37, 47]), ([43, 32], 50, [48]), ([44], 51, [0, 49]), ([45, 44], 52, [50, 49]),
  ([46, 44], 53, [51, 49]), ([47, 44], 54, [52, 49]), ([48, 44], 55, [53, 49]), ([44], 56, [1, 49]), ([50, 44], 57, [55, 49]), ([51, 44], 58, [56, 49]),
  ([52, 44], 59, [57, 49]), ([49, 53, 44], 60, [54, 58, 49]), ([44, 54], 61, [49, 59]), ([55, 44], 62, [60]), ([56], 63, [0, 61]), ([56], 64, [1, 61]),
  ([58, 56], 65, [63, 61]), ([59, 56], 66, [64, 61]), ([60, 56], 67, [65, 61]), ([61, 56], 68, [66, 61]), ([57, 62, 56, 56], 69, [62, 67, 61]), ([56, 63], 70, [61, 68]),
  ([64, 63], 71, [69]), ([65], 72, [0, 70]), ([66, 65, 65], 73, [71, 70]), ([67, 65], 74, [72, 70]), ([65, 68], 75, [70, 73]), ([69, 67], 76, [74]), ([70], 77, [0, 75]),
  ([71, 70], 78, [76, 75]), ([72, 70], 79, [77, 75]), ([73, 70], 80, [78, 75]), ([74, 70, 70], 81, [79, 75]), ([70], 82, [1, 75]), ([76, 70], 83, [81, 75]),
  ([77, 70], 84, [82, 75]), ([78, 70], 85, [83, 75]), ([70], 86, [1, 75]), ([80, 70], 87, [85, 75]), ([81, 70], 88, [86, 75]), ([82, 70], 89, [87, 75]),
  ([79, 83, 70], 90, [84, 88, 75]), ([70], 91, [1, 75]), ([85, 70], 92, [90, 75]), ([86, 70], 93, [91, 75]), ([87, 70], 94, [92, 75]), ([84, 88, 70], 95, [89, 93, 75]),
  ([89, 70], 96, [94, 75]), ([75, 90, 70], 97, [80, 95, 75]), ([70, 91], 98, [75, 96]), ([92, 75], 99, [97]), ([93], 100, [0, 98]), ([94, 93], 101, [99, 98]),
  ([95, 93], 102, [100, 98]), ([96, 93], 103, [101, 98]), ([97, 93, 93], 104, [102, 98]), ([93], 105, [0, 98]), ([99, 93], 106, [104, 98]), ([100, 93], 107, [105, 98]),
  ([101, 93], 108, [106, 98]), ([102, 98, 93], 109, [107, 98]), ([98, 103, 93], 110, [103, 108, 98]), ([93, 104], 111, [98, 109]),
  ([105, 103, 0, 1, 2, 3, 4, 5, 6, 7, 8, 9, 10, 11, 12, 13, 14, 15, 16, 17, 18, 19, 20, 21, 22, 23, 24, 25, 26, 27, 28, 29, 30, 31, 32, 33, 34, 35, 36, 37, 38, 39, 40, 41, 42, 43, 44, 45, 46, 47, 48, 49, 50, 51, 52, 53, 54, 55, 56, 57, 58, 59, 60, 61, 62, 63, 64, 65, 66, 67, 68, 69, 70, 71, 72, 73, 74, 75, 76, 77, 78, 79, 80, 81, 82, 83, 84, 85, 86, 87, 88, 89, 90, 91, 92, 93, 94, 95, 96, 97, 98, 99, 100, 101, 102, 103, 104, 105], 5, [110])]
def same_flags : List Bool := [false, false, false, false, false, false, false, false, false, false, false, false, false, false, false, false, false, false, false, false, false, false, false, false, false, false, false, false, false, false, false, false, false, false, false, false, false, false, false, false, false, false, false, false, false, false, false, false, false, false, false, false, false, false, false, false, false, false, false, false, false, false, true, true]

set_option maxHeartbeats 3200000 in
theorem same_r (w : World) (p q : Nat) (s : St) (h : Pr w p q s) (T U : Int) (r : Bool) (hT : s.A + s.W = T) (hU : T + s.S = U) (hr : decide (0 < U) = r) (b1 : 0 ≤ s.A ∧ s.A ≤ 7) (b2 : 0 ≤ s.W ∧ s.W ≤ 7) (b3 : 0 ≤ s.S ∧ s.S ≤ 7) (ha : decide (¬ (s.A = 0 ∧ s.W = 0 ∧ s.S = 0)) = r) :
    Calls Try.prog 15 #[.pointer (some ⟨p, 0, none⟩), .pointer (some ⟨q, 0, none⟩)] w fun e w' => e = .returned (.bool true) ∧ Below w.heap.size w w' := by
  have HA := Lib.hid ha
  have HC : Hid (Cl w p q s w.drew) := Lib.hid ⟨⟨h.1.drew, h.2.drew⟩, (Below.refl _ _).drew⟩
  have e1 : IntKind.i64.wrap (s.A + s.W) = T := by rw [← hT]; exact IntWalk.i64_in _ (by omega)
  have e2 : IntKind.i64.wrap (T + s.S) = U := by rw [← hU]; exact IntWalk.i64_in _ (by omega)
  have e3 : wrap64 (s.A + s.W) = T := by unfold wrap64; omega
  have e4 : wrap64 (T + s.S) = U := by unfold wrap64; omega
  clear h ha hT hU b1 b2 b3
  go_enter Try.func15, Try.ntmps15
  go_wp2
  dsimp only [List.append]
  refine wp_region_mix (C := Cl w p q s) same_tabs same_flags (by kernel_rfl) (by kernel_rfl) (by kernel_rfl) (by kernel_rfl) (by kernel_rfl) HC.out ?_
  unfold same_flags
  refine mix_free ?v0 (by kernel_rfl) (fun Z hZ => ?y0) ?r0
  case y0 =>
    obtain ⟨c0, c1, c2, c3, c4, d0, d1, d2, d3, d4⟩ := hZ.1.ten
    clear hZ
    go_simp
    try with_reducible rfl
  simp only [Act.put, List.setIfInBounds_toArray, List.set_cons_zero, List.set_cons_succ]
  refine mix_free ?v1 (by kernel_rfl) (fun Z hZ => ?y1) ?r1
  case y1 =>
    obtain ⟨c0, c1, c2, c3, c4, d0, d1, d2, d3, d4⟩ := hZ.1.ten
    clear hZ
    go_simp
    try with_reducible rfl
  simp only [Act.put, List.setIfInBounds_toArray, List.set_cons_zero, List.set_cons_succ]
  refine mix_free ?v2 (by kernel_rfl) (fun Z hZ => ?y2) ?r2
  case y2 =>
    obtain ⟨c0, c1, c2, c3, c4, d0, d1, d2, d3, d4⟩ := hZ.1.ten
    clear hZ
    go_simp
    try with_reducible rfl
  simp only [Act.put, List.setIfInBounds_toArray, List.set_cons_zero, List.set_cons_succ]
  refine mix_free ?v3 (by kernel_rfl) (fun Z hZ => ?y3) ?r3
  case y3 =>
    obtain ⟨c0, c1, c2, c3, c4, d0, d1, d2, d3, d4⟩ := hZ.1.ten
    clear hZ
    go_simp
    try with_reducible rfl
  simp only [Act.put, List.setIfInBounds_toArray, List.set_cons_zero, List.set_cons_succ]
  refine mix_free ?v4 (by kernel_rfl) (fun Z hZ => ?y4) ?r4
  case y4 =>
    obtain ⟨c0, c1, c2, c3, c4, d0, d1, d2, d3, d4⟩ := hZ.1.ten
    clear hZ
    go_simp
    try with_reducible rfl
  simp only [Act.put, List.setIfInBounds_toArray, List.set_cons_zero, List.set_cons_succ]
  refine mix_free ?v5 (by kernel_rfl) (fun Z hZ => ?y5) ?r5
  case y5 =>
    obtain ⟨c0, c1, c2, c3, c4, d0, d1, d2, d3, d4⟩ := hZ.1.ten
    clear hZ
    go_simp
    try with_reducible rfl
  simp only [Act.put, List.setIfInBounds_toArray, List.set_cons_zero, List.set_cons_succ]
  refine mix_free ?v6 (by kernel_rfl) (fun Z hZ => ?y6) ?r6
  case y6 =>
    obtain ⟨c0, c1, c2, c3, c4, d0, d1, d2, d3, d4⟩ := hZ.1.ten
    clear hZ
    go_simp
    try with_reducible rfl
  simp only [Act.put, List.setIfInBounds_toArray, List.set_cons_zero, List.set_cons_succ]
  refine mix_free ?v7 (by kernel_rfl) (fun Z hZ => ?y7) ?r7
  case y7 =>
    obtain ⟨c0, c1, c2, c3, c4, d0, d1, d2, d3, d4⟩ := hZ.1.ten
    clear hZ
    go_simp
    try with_reducible rfl
  simp only [Act.put, List.setIfInBounds_toArray, List.set_cons_zero, List.set_cons_succ]
  refine mix_free ?v8 (by kernel_rfl) (fun Z hZ => ?y8) ?r8
  case y8 =>
    obtain ⟨c0, c1, c2, c3, c4, d0, d1, d2, d3, d4⟩ := hZ.1.ten
    clear hZ
    go_simp
    try with_reducible rfl
  simp only [Act.put, List.setIfInBounds_toArray, List.set_cons_zero, List.set_cons_succ]
  refine mix_free ?v9 (by kernel_rfl) (fun Z hZ => ?y9) ?r9
  case y9 =>
    obtain ⟨c0, c1, c2, c3, c4, d0, d1, d2, d3, d4⟩ := hZ.1.ten
    clear hZ
    go_simp
    try with_reducible rfl
  simp only [Act.put, List.setIfInBounds_toArray, List.set_cons_zero, List.set_cons_succ]
  refine mix_free ?v10 (by kernel_rfl) (fun Z hZ => ?y10) ?r10
  case y10 =>
    obtain ⟨c0, c1, c2, c3, c4, d0, d1, d2, d3, d4⟩ := hZ.1.ten
    clear hZ
    go_simp
    try with_reducible rfl
  simp only [Act.put, List.setIfInBounds_toArray, List.set_cons_zero, List.set_cons_succ]
  refine mix_free ?v11 (by kernel_rfl) (fun Z hZ => ?y11) ?r11
  case y11 =>
    obtain ⟨c0, c1, c2, c3, c4, d0, d1, d2, d3, d4⟩ := hZ.1.ten
    clear hZ
    go_simp
    try with_reducible rfl
  simp only [Act.put, List.setIfInBounds_toArray, List.set_cons_zero, List.set_cons_succ]
  refine mix_free ?v12 (by kernel_rfl) (fun Z hZ => ?y12) ?r12
  case y12 =>
    obtain ⟨c0, c1, c2, c3, c4, d0, d1, d2, d3, d4⟩ := hZ.1.ten
    clear hZ
    go_simp
    try with_reducible rfl
  simp only [Act.put, List.setIfInBounds_toArray, List.set_cons_zero, List.set_cons_succ]
  refine mix_free ?v13 (by kernel_rfl) (fun Z hZ => ?y13) ?r13
  case y13 =>
    obtain ⟨c0, c1, c2, c3, c4, d0, d1, d2, d3, d4⟩ := hZ.1.ten
    clear hZ
    go_simp
    try with_reducible rfl
  simp only [Act.put, List.setIfInBounds_toArray, List.set_cons_zero, List.set_cons_succ]
  refine mix_free ?v14 (by kernel_rfl) (fun Z hZ => ?y14) ?r14
  case y14 =>
    obtain ⟨c0, c1, c2, c3, c4, d0, d1, d2, d3, d4⟩ := hZ.1.ten
    clear hZ
    go_simp
    try with_reducible rfl
  simp only [Act.put, List.setIfInBounds_toArray, List.set_cons_zero, List.set_cons_succ]
  refine mix_free ?v15 (by kernel_rfl) (fun Z hZ => ?y15) ?r15
  case y15 =>
    obtain ⟨c0, c1, c2, c3, c4, d0, d1, d2, d3, d4⟩ := hZ.1.ten
    clear hZ
    go_simp
    try with_reducible rfl
  simp only [Act.put, List.setIfInBounds_toArray, List.set_cons_zero, List.set_cons_succ]
  refine mix_free ?v16 (by kernel_rfl) (fun Z hZ => ?y16) ?r16
  case y16 =>
    obtain ⟨c0, c1, c2, c3, c4, d0, d1, d2, d3, d4⟩ := hZ.1.ten
    clear hZ
    go_simp
    try with_reducible rfl
  simp only [Act.put, List.setIfInBounds_toArray, List.set_cons_zero, List.set_cons_succ]
  refine mix_free ?v17 (by kernel_rfl) (fun Z hZ => ?y17) ?r17
  case y17 =>
    obtain ⟨c0, c1, c2, c3, c4, d0, d1, d2, d3, d4⟩ := hZ.1.ten
    clear hZ
    go_simp
    try with_reducible rfl
  simp only [Act.put, List.setIfInBounds_toArray, List.set_cons_zero, List.set_cons_succ]
  refine mix_free ?v18 (by kernel_rfl) (fun Z hZ => ?y18) ?r18
  case y18 =>
    obtain ⟨c0, c1, c2, c3, c4, d0, d1, d2, d3, d4⟩ := hZ.1.ten
    clear hZ
    go_simp
    try with_reducible rfl
  simp only [Act.put, List.setIfInBounds_toArray, List.set_cons_zero, List.set_cons_succ]
  refine mix_free ?v19 (by kernel_rfl) (fun Z hZ => ?y19) ?r19
  case y19 =>
    obtain ⟨c0, c1, c2, c3, c4, d0, d1, d2, d3, d4⟩ := hZ.1.ten
    clear hZ
    go_simp
    try with_reducible rfl
  simp only [Act.put, List.setIfInBounds_toArray, List.set_cons_zero, List.set_cons_succ]
  refine mix_free ?v20 (by kernel_rfl) (fun Z hZ => ?y20) ?r20
  case y20 =>
    obtain ⟨c0, c1, c2, c3, c4, d0, d1, d2, d3, d4⟩ := hZ.1.ten
    clear hZ
    go_simp
    try with_reducible rfl
  simp only [Act.put, List.setIfInBounds_toArray, List.set_cons_zero, List.set_cons_succ]
  refine mix_free ?v21 (by kernel_rfl) (fun Z hZ => ?y21) ?r21
  case y21 =>
    obtain ⟨c0, c1, c2, c3, c4, d0, d1, d2, d3, d4⟩ := hZ.1.ten
    clear hZ
    go_simp
    try with_reducible rfl
  simp only [Act.put, List.setIfInBounds_toArray, List.set_cons_zero, List.set_cons_succ]
  refine mix_free ?v22 (by kernel_rfl) (fun Z hZ => ?y22) ?r22
  case y22 =>
    obtain ⟨c0, c1, c2, c3, c4, d0, d1, d2, d3, d4⟩ := hZ.1.ten
    clear hZ
    go_simp
    try with_reducible rfl
  simp only [Act.put, List.setIfInBounds_toArray, List.set_cons_zero, List.set_cons_succ]
  refine mix_free ?v23 (by kernel_rfl) (fun Z hZ => ?y23) ?r23
  case y23 =>
    obtain ⟨c0, c1, c2, c3, c4, d0, d1, d2, d3, d4⟩ := hZ.1.ten
    clear hZ
    go_simp
    try with_reducible rfl
  simp only [Act.put, List.setIfInBounds_toArray, List.set_cons_zero, List.set_cons_succ]
  refine mix_free ?v24 (by kernel_rfl) (fun Z hZ => ?y24) ?r24
  case y24 =>
    obtain ⟨c0, c1, c2, c3, c4, d0, d1, d2, d3, d4⟩ := hZ.1.ten
    clear hZ
    go_simp
    try with_reducible rfl
  simp only [Act.put, List.setIfInBounds_toArray, List.set_cons_zero, List.set_cons_succ]
  refine mix_free ?v25 (by kernel_rfl) (fun Z hZ => ?y25) ?r25
  case y25 =>
    obtain ⟨c0, c1, c2, c3, c4, d0, d1, d2, d3, d4⟩ := hZ.1.ten
    clear hZ
    go_simp
    try with_reducible rfl
  simp only [Act.put, List.setIfInBounds_toArray, List.set_cons_zero, List.set_cons_succ]
  refine mix_free ?v26 (by kernel_rfl) (fun Z hZ => ?y26) ?r26
  case y26 =>
    obtain ⟨c0, c1, c2, c3, c4, d0, d1, d2, d3, d4⟩ := hZ.1.ten
    clear hZ
    go_simp
    try with_reducible rfl
  simp only [Act.put, List.setIfInBounds_toArray, List.set_cons_zero, List.set_cons_succ]
  refine mix_free ?v27 (by kernel_rfl) (fun Z hZ => ?y27) ?r27
  case y27 =>
    obtain ⟨c0, c1, c2, c3, c4, d0, d1, d2, d3, d4⟩ := hZ.1.ten
    clear hZ
    go_simp
    try with_reducible rfl
  simp only [Act.put, List.setIfInBounds_toArray, List.set_cons_zero, List.set_cons_succ]
  refine mix_free ?v28 (by kernel_rfl) (fun Z hZ => ?y28) ?r28
  case y28 =>
    obtain ⟨c0, c1, c2, c3, c4, d0, d1, d2, d3, d4⟩ := hZ.1.ten
    clear hZ
    go_simp
    try with_reducible rfl
  simp only [Act.put, List.setIfInBounds_toArray, List.set_cons_zero, List.set_cons_succ]
  refine mix_free ?v29 (by kernel_rfl) (fun Z hZ => ?y29) ?r29
  case y29 =>
    obtain ⟨c0, c1, c2, c3, c4, d0, d1, d2, d3, d4⟩ := hZ.1.ten
    clear hZ
    go_simp
    try with_reducible rfl
  simp only [Act.put, List.setIfInBounds_toArray, List.set_cons_zero, List.set_cons_succ]
  refine mix_free ?v30 (by kernel_rfl) (fun Z hZ => ?y30) ?r30
  case y30 =>
    obtain ⟨c0, c1, c2, c3, c4, d0, d1, d2, d3, d4⟩ := hZ.1.ten
    clear hZ
    go_simp
    try with_reducible rfl
  simp only [Act.put, List.setIfInBounds_toArray, List.set_cons_zero, List.set_cons_succ]
  refine mix_free ?v31 (by kernel_rfl) (fun Z hZ => ?y31) ?r31
  case y31 =>
    obtain ⟨c0, c1, c2, c3, c4, d0, d1, d2, d3, d4⟩ := hZ.1.ten
    clear hZ
    go_simp
    try with_reducible rfl
  simp only [Act.put, List.setIfInBounds_toArray, List.set_cons_zero, List.set_cons_succ]
  refine mix_free ?v32 (by kernel_rfl) (fun Z hZ => ?y32) ?r32
  case y32 =>
    obtain ⟨c0, c1, c2, c3, c4, d0, d1, d2, d3, d4⟩ := hZ.1.ten
    clear hZ
    go_simp
    try with_reducible rfl
  simp only [Act.put, List.setIfInBounds_toArray, List.set_cons_zero, List.set_cons_succ]
  refine mix_free ?v33 (by kernel_rfl) (fun Z hZ => ?y33) ?r33
  case y33 =>
    obtain ⟨c0, c1, c2, c3, c4, d0, d1, d2, d3, d4⟩ := hZ.1.ten
    clear hZ
    go_simp
    try with_reducible rfl
  simp only [Act.put, List.setIfInBounds_toArray, List.set_cons_zero, List.set_cons_succ]
  refine mix_free ?v34 (by kernel_rfl) (fun Z hZ => ?y34) ?r34
  case y34 =>
    obtain ⟨c0, c1, c2, c3, c4, d0, d1, d2, d3, d4⟩ := hZ.1.ten
    clear hZ
    go_simp
    try with_reducible rfl
  simp only [Act.put, List.setIfInBounds_toArray, List.set_cons_zero, List.set_cons_succ]
  refine mix_free ?v35 (by kernel_rfl) (fun Z hZ => ?y35) ?r35
  case y35 =>
    obtain ⟨c0, c1, c2, c3, c4, d0, d1, d2, d3, d4⟩ := hZ.1.ten
    clear hZ
    go_simp
    try with_reducible rfl
  simp only [Act.put, List.setIfInBounds_toArray, List.set_cons_zero, List.set_cons_succ]
  refine mix_free ?v36 (by kernel_rfl) (fun Z hZ => ?y36) ?r36
  case y36 =>
    obtain ⟨c0, c1, c2, c3, c4, d0, d1, d2, d3, d4⟩ := hZ.1.ten
    clear hZ
    go_simp
    try with_reducible rfl
  simp only [Act.put, List.setIfInBounds_toArray, List.set_cons_zero, List.set_cons_succ]
  refine mix_free ?v37 (by kernel_rfl) (fun Z hZ => ?y37) ?r37
  case y37 =>
    obtain ⟨c0, c1, c2, c3, c4, d0, d1, d2, d3, d4⟩ := hZ.1.ten
    clear hZ
    go_simp
    try with_reducible rfl
  simp only [Act.put, List.setIfInBounds_toArray, List.set_cons_zero, List.set_cons_succ]
  refine mix_free ?v38 (by kernel_rfl) (fun Z hZ => ?y38) ?r38
  case y38 =>
    obtain ⟨c0, c1, c2, c3, c4, d0, d1, d2, d3, d4⟩ := hZ.1.ten
    clear hZ
    go_simp
    try with_reducible rfl
  simp only [Act.put, List.setIfInBounds_toArray, List.set_cons_zero, List.set_cons_succ]
  refine mix_free ?v39 (by kernel_rfl) (fun Z hZ => ?y39) ?r39
  case y39 =>
    obtain ⟨c0, c1, c2, c3, c4, d0, d1, d2, d3, d4⟩ := hZ.1.ten
    clear hZ
    go_simp
    try with_reducible rfl
  simp only [Act.put, List.setIfInBounds_toArray, List.set_cons_zero, List.set_cons_succ]
  refine mix_free ?v40 (by kernel_rfl) (fun Z hZ => ?y40) ?r40
  case y40 =>
    obtain ⟨c0, c1, c2, c3, c4, d0, d1, d2, d3, d4⟩ := hZ.1.ten
    clear hZ
    go_simp
    try with_reducible rfl
  simp only [Act.put, List.setIfInBounds_toArray, List.set_cons_zero, List.set_cons_succ]
  refine mix_free ?v41 (by kernel_rfl) (fun Z hZ => ?y41) ?r41
  case y41 =>
    obtain ⟨c0, c1, c2, c3, c4, d0, d1, d2, d3, d4⟩ := hZ.1.ten
    clear hZ
    go_simp
    try with_reducible rfl
  simp only [Act.put, List.setIfInBounds_toArray, List.set_cons_zero, List.set_cons_succ]
  refine mix_free ?v42 (by kernel_rfl) (fun Z hZ => ?y42) ?r42
  case y42 =>
    obtain ⟨c0, c1, c2, c3, c4, d0, d1, d2, d3, d4⟩ := hZ.1.ten
    clear hZ
    go_simp
    try with_reducible rfl
  simp only [Act.put, List.setIfInBounds_toArray, List.set_cons_zero, List.set_cons_succ]
  refine mix_free ?v43 (by kernel_rfl) (fun Z hZ => ?y43) ?r43
  case y43 =>
    obtain ⟨c0, c1, c2, c3, c4, d0, d1, d2, d3, d4⟩ := hZ.1.ten
    clear hZ
    go_simp
    try with_reducible rfl
  simp only [Act.put, List.setIfInBounds_toArray, List.set_cons_zero, List.set_cons_succ]
  refine mix_free ?v44 (by kernel_rfl) (fun Z hZ => ?y44) ?r44
  case y44 =>
    obtain ⟨c0, c1, c2, c3, c4, d0, d1, d2, d3, d4⟩ := hZ.1.ten
    clear hZ
    go_simp
    try with_reducible rfl
  simp only [Act.put, List.setIfInBounds_toArray, List.set_cons_zero, List.set_cons_succ]
  refine mix_free ?v45 (by kernel_rfl) (fun Z hZ => ?y45) ?r45
  case y45 =>
    obtain ⟨c0, c1, c2, c3, c4, d0, d1, d2, d3, d4⟩ := hZ.1.ten
    clear hZ
    go_simp
    try with_reducible rfl
  simp only [Act.put, List.setIfInBounds_toArray, List.set_cons_zero, List.set_cons_succ]
  refine mix_free ?v46 (by kernel_rfl) (fun Z hZ => ?y46) ?r46
  case y46 =>
    obtain ⟨c0, c1, c2, c3, c4, d0, d1, d2, d3, d4⟩ := hZ.1.ten
    clear hZ
    go_simp
    try with_reducible rfl
  simp only [Act.put, List.setIfInBounds_toArray, List.set_cons_zero, List.set_cons_succ]
  refine mix_free ?v47 (by kernel_rfl) (fun Z hZ => ?y47) ?r47
  case y47 =>
    obtain ⟨c0, c1, c2, c3, c4, d0, d1, d2, d3, d4⟩ := hZ.1.ten
    clear hZ
    go_simp
    try with_reducible rfl
  simp only [Act.put, List.setIfInBounds_toArray, List.set_cons_zero, List.set_cons_succ]
  refine mix_free ?v48 (by kernel_rfl) (fun Z hZ => ?y48) ?r48
  case y48 =>
    obtain ⟨c0, c1, c2, c3, c4, d0, d1, d2, d3, d4⟩ := hZ.1.ten
    clear hZ
    go_simp
    try with_reducible rfl
  simp only [Act.put, List.setIfInBounds_toArray, List.set_cons_zero, List.set_cons_succ]
  refine mix_free ?v49 (by kernel_rfl) (fun Z hZ => ?y49) ?r49
  case y49 =>
    obtain ⟨c0, c1, c2, c3, c4, d0, d1, d2, d3, d4⟩ := hZ.1.ten
    clear hZ
    go_simp
    try with_reducible rfl
  simp only [Act.put, List.setIfInBounds_toArray, List.set_cons_zero, List.set_cons_succ]
  refine mix_free ?v50 (by kernel_rfl) (fun Z hZ => ?y50) ?r50
  case y50 =>
    obtain ⟨c0, c1, c2, c3, c4, d0, d1, d2, d3, d4⟩ := hZ.1.ten
    clear hZ
    go_simp
    try with_reducible rfl
  simp only [Act.put, List.setIfInBounds_toArray, List.set_cons_zero, List.set_cons_succ]
  refine mix_free ?v51 (by kernel_rfl) (fun Z hZ => ?y51) ?r51
  case y51 =>
    obtain ⟨c0, c1, c2, c3, c4, d0, d1, d2, d3, d4⟩ := hZ.1.ten
    clear hZ
    go_simp
    try with_reducible rfl
  simp only [Act.put, List.setIfInBounds_toArray, List.set_cons_zero, List.set_cons_succ]
  refine mix_free ?v52 (by kernel_rfl) (fun Z hZ => ?y52) ?r52
  case y52 =>
    obtain ⟨c0, c1, c2, c3, c4, d0, d1, d2, d3, d4⟩ := hZ.1.ten
    clear hZ
    go_simp
    try with_reducible rfl
  simp only [Act.put, List.setIfInBounds_toArray, List.set_cons_zero, List.set_cons_succ]
  refine mix_free ?v53 (by kernel_rfl) (fun Z hZ => ?y53) ?r53
  case y53 =>
    obtain ⟨c0, c1, c2, c3, c4, d0, d1, d2, d3, d4⟩ := hZ.1.ten
    clear hZ
    go_simp
    try with_reducible rfl
  simp only [Act.put, List.setIfInBounds_toArray, List.set_cons_zero, List.set_cons_succ]
  refine mix_free ?v54 (by kernel_rfl) (fun Z hZ => ?y54) ?r54
  case y54 =>
    obtain ⟨c0, c1, c2, c3, c4, d0, d1, d2, d3, d4⟩ := hZ.1.ten
    clear hZ
    go_simp
    try with_reducible rfl
  simp only [Act.put, List.setIfInBounds_toArray, List.set_cons_zero, List.set_cons_succ]
  refine mix_free ?v55 (by kernel_rfl) (fun Z hZ => ?y55) ?r55
  case y55 =>
    obtain ⟨c0, c1, c2, c3, c4, d0, d1, d2, d3, d4⟩ := hZ.1.ten
    clear hZ
    go_simp
    try with_reducible rfl
  simp only [Act.put, List.setIfInBounds_toArray, List.set_cons_zero, List.set_cons_succ]
  refine mix_free ?v56 (by kernel_rfl) (fun Z hZ => ?y56) ?r56
  case y56 =>
    obtain ⟨c0, c1, c2, c3, c4, d0, d1, d2, d3, d4⟩ := hZ.1.ten
    clear hZ
    go_simp
    try with_reducible rfl
  simp only [Act.put, List.setIfInBounds_toArray, List.set_cons_zero, List.set_cons_succ]
  refine mix_free ?v57 (by kernel_rfl) (fun Z hZ => ?y57) ?r57
  case y57 =>
    obtain ⟨c0, c1, c2, c3, c4, d0, d1, d2, d3, d4⟩ := hZ.1.ten
    clear hZ
    go_simp
    try with_reducible rfl
  simp only [Act.put, List.setIfInBounds_toArray, List.set_cons_zero, List.set_cons_succ]
  refine mix_free ?v58 (by kernel_rfl) (fun Z hZ => ?y58) ?r58
  case y58 =>
    obtain ⟨c0, c1, c2, c3, c4, d0, d1, d2, d3, d4⟩ := hZ.1.ten
    clear hZ
    go_simp
    try with_reducible rfl
  simp only [Act.put, List.setIfInBounds_toArray, List.set_cons_zero, List.set_cons_succ]
  refine mix_free ?v59 (by kernel_rfl) (fun Z hZ => ?y59) ?r59
  case y59 =>
    obtain ⟨c0, c1, c2, c3, c4, d0, d1, d2, d3, d4⟩ := hZ.1.ten
    clear hZ
    go_simp
    try with_reducible rfl
  simp only [Act.put, List.setIfInBounds_toArray, List.set_cons_zero, List.set_cons_succ]
  refine mix_free ?v60 (by kernel_rfl) (fun Z hZ => ?y60) ?r60
  case y60 =>
    obtain ⟨c0, c1, c2, c3, c4, d0, d1, d2, d3, d4⟩ := hZ.1.ten
    clear hZ
    go_simp
    try with_reducible rfl
  simp only [Act.put, List.setIfInBounds_toArray, List.set_cons_zero, List.set_cons_succ]
  refine mix_free ?v61 (by kernel_rfl) (fun Z hZ => ?y61) ?r61
  case y61 =>
    obtain ⟨c0, c1, c2, c3, c4, d0, d1, d2, d3, d4⟩ := hZ.1.ten
    clear hZ
    go_simp
    try with_reducible rfl
  simp only [Act.put, List.setIfInBounds_toArray, List.set_cons_zero, List.set_cons_succ]
  refine mix_alone (by kernel_rfl) ?_
  go_simp
  refine ⟨HC.out.on ((Below.refl _ _).alloc (Nat.le_refl _) _), ?_⟩
  try simp only [Act.put, List.setIfInBounds_toArray, List.set_cons_zero, List.set_cons_succ]
  refine mix_alone (by kernel_rfl) ?_
  go_simp
  go_at_call 24
  refine (is_one w.drew p s HC.out.1.1 s.X true (by simp)).mono ?_
  rintro e w1 ⟨rfl, k1, bb1⟩
  have HC1 : Hid (Cl w p q s w1) := Lib.hid ⟨⟨k1, HC.out.1.2.below bb1⟩, HC.out.2.trans (bb1.mono HC.out.2.size)⟩
  clear k1 bb1 HC
  refine ⟨HC1.out, ?_⟩
  clear HC1
  unfold wpMix
  try simp only [Act.put, List.setIfInBounds_toArray, List.set_cons_zero, List.set_cons_succ]
  refine quiet_free ?v64 (by kernel_rfl) (fun Z hZ => ?y64) ?r64
  case y64 =>
    obtain ⟨c0, c1, c2, c3, c4, d0, d1, d2, d3, d4⟩ := hZ.1.ten
    clear hZ
    go_simp
    try with_reducible rfl
  simp only [Act.put, List.setIfInBounds_toArray, List.set_cons_zero, List.set_cons_succ]
  refine quiet_free ?v65 (by kernel_rfl) (fun Z hZ => ?y65) ?r65
  case y65 =>
    obtain ⟨c0, c1, c2, c3, c4, d0, d1, d2, d3, d4⟩ := hZ.1.ten
    clear hZ
    go_simp
    try with_reducible rfl
  simp only [Act.put, List.setIfInBounds_toArray, List.set_cons_zero, List.set_cons_succ]
  refine quiet_free ?v66 (by kernel_rfl) (fun Z hZ => ?y66) ?r66
  case y66 =>
    obtain ⟨c0, c1, c2, c3, c4, d0, d1, d2, d3, d4⟩ := hZ.1.ten
    clear hZ
    go_simp
    try with_reducible rfl
  simp only [Act.put, List.setIfInBounds_toArray, List.set_cons_zero, List.set_cons_succ]
  refine quiet_call (.bool false) 24 ?g67 (by kernel_rfl) (fun Z hZ => ?y67) (fun Z hZ => ?c67) ?r67
  case y67 =>
    clear hZ
    go_simp
    try with_reducible rfl
  case c67 =>
    refine (is_none Z p s hZ.1.1).mono ?_
    rintro e Z1 ⟨rfl, rfl⟩
    exact ⟨rfl, hZ⟩
  simp only [Act.put, List.setIfInBounds_toArray, List.set_cons_zero, List.set_cons_succ]
  refine quiet_free ?v68 (by kernel_rfl) (fun Z hZ => ?y68) ?r68
  case y68 =>
    obtain ⟨c0, c1, c2, c3, c4, d0, d1, d2, d3, d4⟩ := hZ.1.ten
    clear hZ
    go_simp
    try with_reducible rfl
  simp only [Act.put, List.setIfInBounds_toArray, List.set_cons_zero, List.set_cons_succ]
  refine quiet_free ?v69 (by kernel_rfl) (fun Z hZ => ?y69) ?r69
  case y69 =>
    obtain ⟨c0, c1, c2, c3, c4, d0, d1, d2, d3, d4⟩ := hZ.1.ten
    clear hZ
    go_simp
    try with_reducible rfl
  simp only [Act.put, List.setIfInBounds_toArray, List.set_cons_zero, List.set_cons_succ]
  refine quiet_free ?v70 (by kernel_rfl) (fun Z hZ => ?y70) ?r70
  case y70 =>
    obtain ⟨c0, c1, c2, c3, c4, d0, d1, d2, d3, d4⟩ := hZ.1.ten
    clear hZ
    go_simp
    try with_reducible rfl
  simp only [Act.put, List.setIfInBounds_toArray, List.set_cons_zero, List.set_cons_succ]
  refine quiet_free ?v71 (by kernel_rfl) (fun Z hZ => ?y71) ?r71
  case y71 =>
    obtain ⟨c0, c1, c2, c3, c4, d0, d1, d2, d3, d4⟩ := hZ.1.ten
    clear hZ
    go_simp
    try with_reducible rfl
  simp only [Act.put, List.setIfInBounds_toArray, List.set_cons_zero, List.set_cons_succ]
  refine quiet_free ?v72 (by kernel_rfl) (fun Z hZ => ?y72) ?r72
  case y72 =>
    obtain ⟨c0, c1, c2, c3, c4, d0, d1, d2, d3, d4⟩ := hZ.1.ten
    clear hZ
    go_simp
    try with_reducible rfl
  simp only [Act.put, List.setIfInBounds_toArray, List.set_cons_zero, List.set_cons_succ]
  refine quiet_free ?v73 (by kernel_rfl) (fun Z hZ => ?y73) ?r73
  case y73 =>
    obtain ⟨c0, c1, c2, c3, c4, d0, d1, d2, d3, d4⟩ := hZ.1.ten
    clear hZ
    go_simp
    try with_reducible rfl
  simp only [Act.put, List.setIfInBounds_toArray, List.set_cons_zero, List.set_cons_succ]
  refine quiet_free ?v74 (by kernel_rfl) (fun Z hZ => ?y74) ?r74
  case y74 =>
    obtain ⟨c0, c1, c2, c3, c4, d0, d1, d2, d3, d4⟩ := hZ.1.ten
    clear hZ
    go_simp
    try with_reducible rfl
  simp only [Act.put, List.setIfInBounds_toArray, List.set_cons_zero, List.set_cons_succ]
  refine quiet_call (.bool r) 26 ?g75 (by kernel_rfl) (fun Z hZ => ?y75) (fun Z hZ => ?c75) ?r75
  case y75 =>
    clear hZ
    go_simp
    try with_reducible rfl
  case c75 =>
    refine (any_any Z s.A s.W s.S r HA.out).mono ?_
    rintro e Z1 ⟨rfl, bz⟩
    exact ⟨rfl, hZ.on bz⟩
  simp only [Act.put, List.setIfInBounds_toArray, List.set_cons_zero, List.set_cons_succ]
  refine quiet_free ?v76 (by kernel_rfl) (fun Z hZ => ?y76) ?r76
  case y76 =>
    obtain ⟨c0, c1, c2, c3, c4, d0, d1, d2, d3, d4⟩ := hZ.1.ten
    clear hZ
    go_simp
    try with_reducible rfl
  simp only [Act.put, List.setIfInBounds_toArray, List.set_cons_zero, List.set_cons_succ]
  refine quiet_free ?v77 (by kernel_rfl) (fun Z hZ => ?y77) ?r77
  case y77 =>
    obtain ⟨c0, c1, c2, c3, c4, d0, d1, d2, d3, d4⟩ := hZ.1.ten
    clear hZ
    go_simp
    try with_reducible rfl
  simp only [Act.put, List.setIfInBounds_toArray, List.set_cons_zero, List.set_cons_succ]
  refine quiet_free ?v78 (by kernel_rfl) (fun Z hZ => ?y78) ?r78
  case y78 =>
    obtain ⟨c0, c1, c2, c3, c4, d0, d1, d2, d3, d4⟩ := hZ.1.ten
    clear hZ
    go_simp
    try with_reducible rfl
  simp only [Act.put, List.setIfInBounds_toArray, List.set_cons_zero, List.set_cons_succ]
  refine quiet_free ?v79 (by kernel_rfl) (fun Z hZ => ?y79) ?r79
  case y79 =>
    obtain ⟨c0, c1, c2, c3, c4, d0, d1, d2, d3, d4⟩ := hZ.1.ten
    clear hZ
    go_simp
    try with_reducible rfl
  simp only [Act.put, List.setIfInBounds_toArray, List.set_cons_zero, List.set_cons_succ]
  refine quiet_free ?v80 (by kernel_rfl) (fun Z hZ => ?y80) ?r80
  case y80 =>
    obtain ⟨c0, c1, c2, c3, c4, d0, d1, d2, d3, d4⟩ := hZ.1.ten
    clear hZ
    go_simp
    try with_reducible rfl
  simp only [Act.put, List.setIfInBounds_toArray, List.set_cons_zero, List.set_cons_succ]
  refine quiet_free ?v81 (by kernel_rfl) (fun Z hZ => ?y81) ?r81
  case y81 =>
    obtain ⟨c0, c1, c2, c3, c4, d0, d1, d2, d3, d4⟩ := hZ.1.ten
    clear hZ
    go_simp
    try with_reducible rfl
  simp only [Act.put, List.setIfInBounds_toArray, List.set_cons_zero, List.set_cons_succ]
  refine quiet_free ?v82 (by kernel_rfl) (fun Z hZ => ?y82) ?r82
  case y82 =>
    obtain ⟨c0, c1, c2, c3, c4, d0, d1, d2, d3, d4⟩ := hZ.1.ten
    clear hZ
    go_simp
    try with_reducible rfl
  simp only [Act.put, List.setIfInBounds_toArray, List.set_cons_zero, List.set_cons_succ]
  refine quiet_free ?v83 (by kernel_rfl) (fun Z hZ => ?y83) ?r83
  case y83 =>
    obtain ⟨c0, c1, c2, c3, c4, d0, d1, d2, d3, d4⟩ := hZ.1.ten
    clear hZ
    go_simp
    try with_reducible rfl
  simp only [Act.put, List.setIfInBounds_toArray, List.set_cons_zero, List.set_cons_succ]
  refine quiet_free ?v84 (by kernel_rfl) (fun Z hZ => ?y84) ?r84
  case y84 =>
    obtain ⟨c0, c1, c2, c3, c4, d0, d1, d2, d3, d4⟩ := hZ.1.ten
    clear hZ
    go_simp
    try with_reducible rfl
  simp only [Act.put, List.setIfInBounds_toArray, List.set_cons_zero, List.set_cons_succ]
  refine quiet_free ?v85 (by kernel_rfl) (fun Z hZ => ?y85) ?r85
  case y85 =>
    obtain ⟨c0, c1, c2, c3, c4, d0, d1, d2, d3, d4⟩ := hZ.1.ten
    clear hZ
    go_simp
    try with_reducible rfl
  simp only [Act.put, List.setIfInBounds_toArray, List.set_cons_zero, List.set_cons_succ]
  refine quiet_free ?v86 (by kernel_rfl) (fun Z hZ => ?y86) ?r86
  case y86 =>
    obtain ⟨c0, c1, c2, c3, c4, d0, d1, d2, d3, d4⟩ := hZ.1.ten
    clear hZ
    go_simp
    try with_reducible rfl
  simp only [Act.put, List.setIfInBounds_toArray, List.set_cons_zero, List.set_cons_succ]
  refine quiet_free ?v87 (by kernel_rfl) (fun Z hZ => ?y87) ?r87
  case y87 =>
    obtain ⟨c0, c1, c2, c3, c4, d0, d1, d2, d3, d4⟩ := hZ.1.ten
    clear hZ
    go_simp
    try with_reducible rfl
  simp only [Act.put, List.setIfInBounds_toArray, List.set_cons_zero, List.set_cons_succ]
  refine quiet_free ?v88 (by kernel_rfl) (fun Z hZ => ?y88) ?r88
  case y88 =>
    obtain ⟨c0, c1, c2, c3, c4, d0, d1, d2, d3, d4⟩ := hZ.1.ten
    clear hZ
    go_simp
    try with_reducible rfl
  simp only [Act.put, List.setIfInBounds_toArray, List.set_cons_zero, List.set_cons_succ]
  refine quiet_free ?v89 (by kernel_rfl) (fun Z hZ => ?y89) ?r89
  case y89 =>
    obtain ⟨c0, c1, c2, c3, c4, d0, d1, d2, d3, d4⟩ := hZ.1.ten
    clear hZ
    go_simp
    try with_reducible rfl
  simp only [Act.put, List.setIfInBounds_toArray, List.set_cons_zero, List.set_cons_succ]
  refine quiet_free ?v90 (by kernel_rfl) (fun Z hZ => ?y90) ?r90
  case y90 =>
    obtain ⟨c0, c1, c2, c3, c4, d0, d1, d2, d3, d4⟩ := hZ.1.ten
    clear hZ
    go_simp
    try with_reducible rfl
  simp only [Act.put, List.setIfInBounds_toArray, List.set_cons_zero, List.set_cons_succ]
  refine quiet_free ?v91 (by kernel_rfl) (fun Z hZ => ?y91) ?r91
  case y91 =>
    obtain ⟨c0, c1, c2, c3, c4, d0, d1, d2, d3, d4⟩ := hZ.1.ten
    clear hZ
    go_simp
    try with_reducible rfl
  simp only [Act.put, List.setIfInBounds_toArray, List.set_cons_zero, List.set_cons_succ]
  refine quiet_free ?v92 (by kernel_rfl) (fun Z hZ => ?y92) ?r92
  case y92 =>
    obtain ⟨c0, c1, c2, c3, c4, d0, d1, d2, d3, d4⟩ := hZ.1.ten
    clear hZ
    go_simp
    try with_reducible rfl
  simp only [Act.put, List.setIfInBounds_toArray, List.set_cons_zero, List.set_cons_succ]
  refine quiet_free ?v93 (by kernel_rfl) (fun Z hZ => ?y93) ?r93
  case y93 =>
    obtain ⟨c0, c1, c2, c3, c4, d0, d1, d2, d3, d4⟩ := hZ.1.ten
    clear hZ
    go_simp
    try with_reducible rfl
  simp only [Act.put, List.setIfInBounds_toArray, List.set_cons_zero, List.set_cons_succ]
  refine quiet_free ?v94 (by kernel_rfl) (fun Z hZ => ?y94) ?r94
  case y94 =>
    obtain ⟨c0, c1, c2, c3, c4, d0, d1, d2, d3, d4⟩ := hZ.1.ten
    clear hZ
    go_simp
    try with_reducible rfl
  simp only [Act.put, List.setIfInBounds_toArray, List.set_cons_zero, List.set_cons_succ]
  refine quiet_free ?v95 (by kernel_rfl) (fun Z hZ => ?y95) ?r95
  case y95 =>
    obtain ⟨c0, c1, c2, c3, c4, d0, d1, d2, d3, d4⟩ := hZ.1.ten
    clear hZ
    go_simp
    try with_reducible rfl
  simp only [Act.put, List.setIfInBounds_toArray, List.set_cons_zero, List.set_cons_succ]
  refine quiet_free ?v96 (by kernel_rfl) (fun Z hZ => ?y96) ?r96
  case y96 =>
    obtain ⟨c0, c1, c2, c3, c4, d0, d1, d2, d3, d4⟩ := hZ.1.ten
    clear hZ
    go_simp
    try with_reducible rfl
  simp only [Act.put, List.setIfInBounds_toArray, List.set_cons_zero, List.set_cons_succ]
  refine quiet_free ?v97 (by kernel_rfl) (fun Z hZ => ?y97) ?r97
  case y97 =>
    obtain ⟨c0, c1, c2, c3, c4, d0, d1, d2, d3, d4⟩ := hZ.1.ten
    clear hZ
    go_simp
    try with_reducible rfl
  simp only [Act.put, List.setIfInBounds_toArray, List.set_cons_zero, List.set_cons_succ]
  refine quiet_call (.bool r) 26 ?g98 (by kernel_rfl) (fun Z hZ => ?y98) (fun Z hZ => ?c98) ?r98
  case y98 =>
    clear hZ
    go_simp
    try with_reducible rfl
  case c98 =>
    refine (any_any Z s.A s.W s.S r HA.out).mono ?_
    rintro e Z1 ⟨rfl, bz⟩
    exact ⟨rfl, hZ.on bz⟩
  simp only [Act.put, List.setIfInBounds_toArray, List.set_cons_zero, List.set_cons_succ]
  refine quiet_free ?v99 (by kernel_rfl) (fun Z hZ => ?y99) ?r99
  case y99 =>
    obtain ⟨c0, c1, c2, c3, c4, d0, d1, d2, d3, d4⟩ := hZ.1.ten
    clear hZ
    go_simp
    try with_reducible rfl
  simp only [Act.put, List.setIfInBounds_toArray, List.set_cons_zero, List.set_cons_succ]
  refine quiet_free ?v100 (by kernel_rfl) (fun Z hZ => ?y100) ?r100
  case y100 =>
    obtain ⟨c0, c1, c2, c3, c4, d0, d1, d2, d3, d4⟩ := hZ.1.ten
    clear hZ
    go_simp
    try with_reducible rfl
  simp only [Act.put, List.setIfInBounds_toArray, List.set_cons_zero, List.set_cons_succ]
  refine quiet_free ?v101 (by kernel_rfl) (fun Z hZ => ?y101) ?r101
  case y101 =>
    obtain ⟨c0, c1, c2, c3, c4, d0, d1, d2, d3, d4⟩ := hZ.1.ten
    clear hZ
    go_simp
    try with_reducible rfl
  simp only [Act.put, List.setIfInBounds_toArray, List.set_cons_zero, List.set_cons_succ]
  refine quiet_free ?v102 (by kernel_rfl) (fun Z hZ => ?y102) ?r102
  case y102 =>
    obtain ⟨c0, c1, c2, c3, c4, d0, d1, d2, d3, d4⟩ := hZ.1.ten
    clear hZ
    go_simp
    try with_reducible rfl
  simp only [Act.put, List.setIfInBounds_toArray, List.set_cons_zero, List.set_cons_succ]
  refine quiet_call (.bool r) 26 ?g103 (by kernel_rfl) (fun Z hZ => ?y103) (fun Z hZ => ?c103) ?r103
  case y103 =>
    clear hZ
    go_simp
    try with_reducible rfl
  case c103 =>
    refine (any_any Z s.A s.W s.S r HA.out).mono ?_
    rintro e Z1 ⟨rfl, bz⟩
    exact ⟨rfl, hZ.on bz⟩
  simp only [Act.put, List.setIfInBounds_toArray, List.set_cons_zero, List.set_cons_succ]
  refine quiet_free ?v104 (by kernel_rfl) (fun Z hZ => ?y104) ?r104
  case y104 =>
    obtain ⟨c0, c1, c2, c3, c4, d0, d1, d2, d3, d4⟩ := hZ.1.ten
    clear hZ
    go_simp
    try with_reducible rfl
  simp only [Act.put, List.setIfInBounds_toArray, List.set_cons_zero, List.set_cons_succ]
  refine quiet_free ?v105 (by kernel_rfl) (fun Z hZ => ?y105) ?r105
  case y105 =>
    obtain ⟨c0, c1, c2, c3, c4, d0, d1, d2, d3, d4⟩ := hZ.1.ten
    clear hZ
    go_simp
    try with_reducible rfl
  simp only [Act.put, List.setIfInBounds_toArray, List.set_cons_zero, List.set_cons_succ]
  refine quiet_free ?v106 (by kernel_rfl) (fun Z hZ => ?y106) ?r106
  case y106 =>
    obtain ⟨c0, c1, c2, c3, c4, d0, d1, d2, d3, d4⟩ := hZ.1.ten
    clear hZ
    go_simp
    try with_reducible rfl
  simp only [Act.put, List.setIfInBounds_toArray, List.set_cons_zero, List.set_cons_succ]
  refine wpQuiet_nil fun Z hZ => ?_
  go_wp2
  go_ret
  exact ⟨by first | rfl | simp, hZ.2⟩
theorem same_any (w : World) (p q : Nat) (s : St) (h : Pr w p q s) (hg : Good s) :
    Calls Try.prog 15 #[.pointer (some ⟨p, 0, none⟩), .pointer (some ⟨q, 0, none⟩)] w fun e w' => e = .returned (.bool true) ∧ Below w.heap.size w w' :=
  same_r w p q s h _ _ _ rfl rfl rfl hg.1 hg.2.1 hg.2.2.1 (any_form hg)
end Go.Proofs.Ytjiiopnlcohilaa
