/-
  detentlaw7.TimerPlays: the walk.
-/
import Derived.Test.YtbaljeehbcjdoaaPlO
import Derived.Deep.RegionHeld3
namespace Go.Proofs.Ytbaljeehbcjdoaa.timerPlays
open Go.RowKit
set_option linter.unusedVariables false

def Post (w : World) (e : Ending) (w' : World) : Prop := e = .returned (.bool true) ∧ Below w.heap.size w w'

/-- both timers hold the same entries S; l handles were given -/
structure Bo (w : World) (q : Nat) (wr : World) (p g t l : Nat) (S : List En) : Prop where
  tm : Tm wr w.heap.size p g S (l : Int)
  rf : Rf wr q S (l : Int)
  bel : Below w.heap.size w wr
  len : S.length ≤ t
  last : l ≤ t
theorem Bo.below {w wr w' : World} {q p g t l : Nat} {S : List En} (h : Bo w q wr p g t l S) (k : Below wr.heap.size wr w') : Bo w q w' p g t l S :=
  ⟨h.tm.below k, h.rf.below k, h.bel.trans (k.mono h.bel.size), h.len, h.last⟩
theorem Bo.more {w wr : World} {q p g t u l : Nat} {S : List En} (h : Bo w q wr p g t l S) (hu : t ≤ u) : Bo w q wr p g u l S := ⟨h.tm, h.rf, h.bel, by have := h.len; omega, by have := h.last; omega⟩

/-- the call's struct, as the law holds it -/
def Cl (w : World) (s : Nat) (x0 x1 x2 : Int) : Prop := w.heap[s]? = some (.cells #[.int .i64 x0, .int .i64 x1, .int .u64 x2] 32 (0, 0))
theorem Cl.lt {w : World} {s : Nat} {x0 x1 x2 : Int} (h : Cl w s x0 x1 x2) : s < w.heap.size := lt_of_heap h
theorem Cl.cells {w : World} {s : Nat} {x0 x1 x2 : Int} (h : Cl w s x0 x1 x2) :
    w.cell? ⟨s, 0, none⟩ = some (.int .i64 x0) ∧ w.cell? ⟨s, 1, none⟩ = some (.int .i64 x1) ∧ w.cell? ⟨s, 2, none⟩ = some (.int .u64 x2) := by
  refine ⟨?_, ?_, ?_⟩ <;> rw [cell_of_row _ _ _ _ _ _ h] <;> rfl
theorem Cl.type {w : World} {s : Nat} {x0 x1 x2 : Int} (h : Cl w s x0 x1 x2) {e : TypeId} (he : e ≠ 32) : ∀ cs fr, w.heap[s]? ≠ some (.cells cs e fr) := by
  intro cs2 fr h2
  rw [h] at h2; injection h2 with h2; injection h2 with _ h3; exact he h3.symm
theorem Cl.fr {w w' : World} {B s : Nat} {x0 x1 x2 : Int} (h : Cl w s x0 x1 x2) (k : Fr B w w') : Cl w' s x0 x1 x2 :=
  (k.block s h.lt (.inr fun cs fr => ⟨h.type (by decide) cs fr, h.type (by decide) cs fr⟩)).trans h
theorem Cl.ronly {w w' : World} {q s : Nat} {x0 x1 x2 : Int} {S : List En} {l : Int} (h : Cl w s x0 x1 x2) (hr : Rf w q S l) (k : Only q q w w') : Cl w' s x0 x1 x2 := by
  have hne : s ≠ q := by
    rintro rfl
    exact hr.type (e := 32) (by decide) _ _ h
  exact (k.block s h.lt hne hne).trans h

/-- one call on both -/
theorem insert_fr (w : World) (B p g : Nat) (S : List En) (last : Int) (h : Tm w B p g S last) (hl : S.length < 256) (hla : last < 4611686018427387904) (a q l1 : Int) (hl1 : last + 1 = l1) :
    Calls Try.prog 11 #[.pointer (some ⟨p, 0, none⟩), .int .u64 a, .int .i64 q] w fun e w' => e = .returned (.tuple #[.int .i64 l1, .int .i64 0]) ∧ (∃ g', Tm w' B p g' (ins (a, l1, q) S) l1) ∧ Fr B w w' := by
  subst hl1
  exact insert_ok w B p g S last h hl hla a q
theorem del_le (S : List En) (h : Int) : (del S h).length ≤ S.length := List.length_filter_le _ _
theorem rst_le (S : List En) (v : Int) : (rst S v).length ≤ S.length := (List.dropWhile_sublist _).length_le

set_option maxHeartbeats 800000 in
theorem walkOut (now : Int) (A : Option Addr) (n cap : Nat) (w : World) (hn : n ≤ 9223372036854775807) (h : ¬ n ≤ 100) : Calls Try.prog 3 #[.slice A n cap, .int .u64 now] w (Post w) := by
  have t1 : decide ((100 : Int) < (n : Int)) = true := by simp; omega
  have t2 : decide (100 < n) = true := by simp; omega
  go_enter Try.func3, Try.ntmps3
  go_wp2_with fail
  refine (known_any _).mono ?_
  rintro e w0 ⟨rfl, hb0⟩
  go_wp2
  go_ret
  exact ⟨rfl, hb0⟩

set_option maxHeartbeats 6400000 in
set_option maxRecDepth 100000 in
theorem walkIn (now : Int) (n cap b o : Nat) (A : Option Addr) (op id pri : Nat → Int) (w : World)
    (hA : 0 < n → A = some ⟨b, o, none⟩ ∧ Acts w b o n op id pri) (hn : n ≤ 100) :
    Calls Try.prog 3 #[.slice A n cap, .int .u64 now] w (Post w) := by
  have t1 : decide ((100 : Int) < (n : Int)) = false := by simp; omega
  have t2 : decide (100 < n) = false := by simp; omega
  have HA := Lib.hid hA
  clear hA
  go_enter Try.func3, Try.ntmps3
  go_wp2_with fail
  refine (known_any w).mono ?_
  rintro e w0 ⟨rfl, hb0⟩
  go_wp2_with fail
  refine (new_then w w0 hb0).mono ?_
  rintro e w1 ⟨p, rfl, ht1, hb1⟩
  have hba : Below w1.heap.size w1 (w1.alloc (.cells #[.slice none 0 0, .int .i64 0] 30)) := (Below.refl _ _).alloc (Nat.le_refl _) _
  have hrf : Rf (w1.alloc (.cells #[.slice none 0 0, .int .i64 0] 30)) w1.heap.size [] 0 := ⟨⟨[], _, List.Perm.refl _, List.Pairwise.nil, heap_alloc_new w1 _, World.ownsRow_nil _ _ _ _⟩, good_nil⟩
  have HBO : Hid (Bo w w1.heap.size (w1.alloc (.cells #[.slice none 0 0, .int .i64 0] 30)) p p 0 0 []) := ⟨ht1.below hba, hrf, hb1.trans (hba.mono hb1.size), Nat.le_refl _, Nat.le_refl _⟩
  have hqw : w.heap.size ≤ w1.heap.size := hb1.size
  clear hb0 t1 t2 hba hrf ht1 hb1
  go_wp2
  generalize w1.alloc (.cells #[.slice none 0 0, .int .i64 0] 30) = w2 at *
  generalize w1.heap.size = q at *
  go_loopw [5, 7] (fun tv i wr => ∃ (p g t l : Nat) (S : List En), t ≤ n ∧ tv = .pointer (some ⟨p, 0, none⟩) ∧ i = .int .i64 (t : Int) ∧ Hid (Bo w q wr p g t l S)) (fun _ i _ => n - (intOf i).toNat)
  case atStart => exact ⟨p, p, 0, 0, [], Nat.zero_le _, rfl, rfl, HBO.out⟩
  case round =>
    clear HBO
    obtain ⟨p, g, t, l, S, ht, rfl, rfl, hB⟩ := hrel
    by_cases hlt : t < n
    · obtain ⟨rfl, hac⟩ := HA.out (by omega)
      have i1 : (t : Int) < (n : Int) := by omega
      have hlb := hac.hlt t hlt
      have k0 := (hB.out.bel.cell (p := ⟨b, o + t * 3, none⟩) hlb).trans (hac.c0 t hlt)
      have k1 := (hB.out.bel.cell (p := ⟨b, o + t * 3 + 1, none⟩) hlb).trans (hac.c1 t hlt)
      have k2 := (hB.out.bel.cell (p := ⟨b, o + t * 3 + 2, none⟩) hlb).trans (hac.c2 t hlt)
      clear hac hlb
      generalize op t = x0 at *
      generalize id t = x1 at *
      generalize pri t = x2 at *
      have hba : Below wr.heap.size wr (wr.alloc (.cells #[.int .i64 x0, .int .i64 x1, .int .u64 x2] 32)) := (Below.refl _ _).alloc (Nat.le_refl _) _
      have HB4 := Lib.hid (hB.out.below hba)
      have CL4 : Hid (Cl (wr.alloc (.cells #[.int .i64 x0, .int .i64 x1, .int .u64 x2] 32)) wr.heap.size x0 x1 x2) := heap_alloc_new _ _
      clear hB hba
      by_cases hop1 : x0 = 1
      · have hop := hop1
        clear hop1
        subst hop
        obtain ⟨l1, hl1⟩ : ∃ l1 : Nat, l + 1 = l1 := ⟨_, rfl⟩
        generalize hW4 : wr.alloc (.cells #[.int .i64 1, .int .i64 x1, .int .u64 x2] 32) = w4 at *
        obtain ⟨s, hs⟩ : ∃ s, wr.heap.size = s := ⟨_, rfl⟩
        rw [hs] at CL4
        obtain ⟨j0, j1, j2⟩ := CL4.out.cells
        have HI := Lib.hid (insert_fr w4 w.heap.size p g S (l : Int) HB4.out.tm (by have := HB4.out.len; omega) (by have := HB4.out.last; omega) x2 x1 (l1 : Int) (by omega))
        go_wp2_with fail
        refine HI.out.mono ?_
        rintro e w5 ⟨rfl, ⟨g5, ht5⟩, hf5⟩
        have HT5 := Lib.hid ht5
        have HR5 := Lib.hid (HB4.out.rf.fr hf5)
        have CL5 := Lib.hid (CL4.out.fr hf5)
        have HW5 := Lib.hid (HB4.out.bel.trans (hf5.below HB4.out.bel.size))
        obtain ⟨m0, m1, m2⟩ := CL5.out.cells
        have HI2 := Lib.hid (rinsert_ok w5 q S (l : Int) HR5.out (by have := HB4.out.len; omega) (by have := HB4.out.last; omega) x2 x1 (l1 : Int) (by omega))
        clear HI ht5 hf5 j0 j1 j2 k0 k1 k2
        go_wp2_with fail
        refine HI2.out.mono ?_
        rintro e w6 ⟨rfl, hr6, ho6⟩
        have HB6 : Hid (Bo w q w6 p g5 (t + 1) l1 (ins (x2, (l1 : Int), x1) S)) := ⟨HT5.out.ronly HR5.out ho6, hr6, HW5.out.trans (ho6.below HW5.out.size hqw hqw), by rw [ins_len]; have := HB4.out.len; omega, by have := HB4.out.last; omega⟩
        clear HI2 hr6 ho6 m0 m1 m2 HT5 HR5 CL5 HW5 HB4 CL4
        go_wp2_with fail
        refine (same_any w6 w.heap.size p g5 q _ _ HB6.out.tm HB6.out.rf (by have := HB6.out.last; omega) now).mono ?_
        rintro e w9 ⟨rfl, hb9⟩
        have HB9 := Lib.hid (HB6.out.below hb9)
        clear hb9 HB6
        go_wp2
        go_roundw
        case rel => exact ⟨p, g5, t + 1, _, _, by omega, rfl, by go_num, HB9.out⟩
        case measure => simp [intOf]; omega
      by_cases hop2 : x0 = 2
      · have hop := hop2
        clear hop1 hop2
        subst hop
        go_wp2
        generalize wr.alloc (.cells #[.int .i64 2, .int .i64 x1, .int .u64 x2] 32) = w4 at *
        generalize wr.heap.size = s at *
        obtain ⟨_, j1, _⟩ := CL4.out.cells
        obtain ⟨ok, hok⟩ : ∃ ok, (fnd S x1).isSome = ok := ⟨_, rfl⟩
        have HOK := Lib.hid hok
        have HTD : Hid (Tm w4.drew w.heap.size p g S (l : Int)) := HB4.out.tm.drew
        have HRD : Hid (Rf w4.drew q S (l : Int)) := HB4.out.rf.below ⟨rfl, rfl, rfl, Nat.le_refl _, fun _ _ => rfl⟩
        have CLD : Hid (Cl w4.drew s 2 x1 x2) := CL4.out
        clear k0 k1 k2 hok
        go_region_held3 (fun W => W.cell? ⟨s, 1, none⟩ = some (.int .i64 x1) ∧ True)
          (first | exact ⟨j1, trivial⟩ | exact ⟨CL6.out.cells.2.1, trivial⟩ | exact ⟨CL5.out.cells.2.1, trivial⟩ | assumption)
          (first
            | (go_at_call 13; refine (cancel_any w4.drew w.heap.size p g S (l : Int) HTD.out x1 ok HOK.out).mono ?_; rintro e w5 ⟨rfl, ht5, ho5⟩; have HF5 := Lib.hid (HTD.out.frd ho5); have CL5 := Lib.hid (CLD.out.fr HF5.out); have HR5 := Lib.hid (HRD.out.fr HF5.out))
            | (go_at_call 14; refine (rcancel_any w5 q S (l : Int) HR5.out x1 ok HOK.out).mono ?_; rintro e w6 ⟨rfl, hr6, ho6⟩; have CL6 := Lib.hid (CL5.out.ronly HR5.out ho6)))
        have HW5 : Hid (Below w.heap.size w w5) := HB4.out.bel.drew.trans (HF5.out.below HTD.out.le)
        have HB6 : Hid (Bo w q w6 p g (t + 1) l (del S x1)) := ⟨ht5.ronly HR5.out ho6, hr6, HW5.out.trans (ho6.below HW5.out.size hqw hqw), by have := del_le S x1; have := HB4.out.len; omega, by have := HB4.out.last; omega⟩
        clear hr6 ho6 ht5 ho5 HF5 CL5 CL6 HR5 HW5 HTD HRD CLD HB4 CL4 j1
        cases ok
        all_goals
          go_wp2_with fail
          refine (same_any w6 w.heap.size p g q _ _ HB6.out.tm HB6.out.rf (by have := HB6.out.last; omega) now).mono ?_
          rintro e w9 ⟨rfl, hb9⟩
          have HB9 := Lib.hid (HB6.out.below hb9)
          clear hb9 HB6
          go_wp2
          go_roundw
          case rel => exact ⟨p, g, t + 1, _, _, by omega, rfl, by go_num, HB9.out⟩
          case measure => simp [intOf]; omega
      by_cases hop3 : x0 = 3
      · have hop := hop3
        clear hop1 hop2 hop3
        subst hop
        go_wp2
        generalize wr.alloc (.cells #[.int .i64 3, .int .i64 x1, .int .u64 x2] 32) = w4 at *
        generalize wr.heap.size = s at *
        obtain ⟨_, _, j2⟩ := CL4.out.cells
        obtain ⟨d, hd⟩ : ∃ d, (due S x2).length = d := ⟨_, rfl⟩
        have HD := Lib.hid hd
        have hdl : d ≤ 256 := by have := due_len S x2; have := HB4.out.len; omega
        have HTD : Hid (Tm w4.drew w.heap.size p g S (l : Int)) := HB4.out.tm.drew
        have HRD : Hid (Rf w4.drew q S (l : Int)) := HB4.out.rf.below ⟨rfl, rfl, rfl, Nat.le_refl _, fun _ _ => rfl⟩
        have CLD : Hid (Cl w4.drew s 3 x1 x2) := CL4.out
        clear k0 k1 k2 hd
        go_region_held3 (fun W => W.cell? ⟨s, 2, none⟩ = some (.int .u64 x2) ∧ True)
          (first | exact ⟨j2, trivial⟩ | exact ⟨CL7.out.cells.2.2, trivial⟩ | exact ⟨CL6.out.cells.2.2, trivial⟩ | exact ⟨CL5.out.cells.2.2, trivial⟩ | assumption)
          (first
            | (go_at_call 16; refine (due_any w4.drew w.heap.size p g S (l : Int) HTD.out x2 d HD.out).mono ?_; rintro e w5 ⟨X5, k5, rfl, hown5, ht5, ho5⟩; have HF5 := Lib.hid (HTD.out.frd ho5); have CL5 := Lib.hid (CLD.out.fr HF5.out); have HR5 := Lib.hid (HRD.out.fr HF5.out))
            | (go_at_call 17; refine (rdue_any w5 q S (l : Int) HR5.out x2 d HD.out).mono ?_; rintro e w6 ⟨X6, k6, rfl, hown6, hr6, ho6⟩; have CL6 := Lib.hid (CL5.out.ronly HR5.out ho6); have own56 := own_keep hown5 (w' := w6) (fun b cs hb _ => ho6.block b (lt_of_heap hb) (by rintro rfl; exact HR5.out.type (e := 3) (by decide) _ _ hb) (by rintro rfl; exact HR5.out.type (e := 3) (by decide) _ _ hb)))
            | (go_at_call 15; refine (lsame_any w6 _ _ X5 X6 d k5 k6 _ own56 hown6 (by rw [args_len]; exact HD.out) hdl).mono ?_; rintro e w7 ⟨rfl, d7, hw7⟩; have hb7 : Below w6.heap.size w6 w7 := (by rw [hw7]; exact below_drewN w6 d7); have CL7 : Hid (Cl w7 s 3 x1 x2) := (by rw [hw7]; exact CL6.out); clear hw7))
        have HW5 : Hid (Below w.heap.size w w5) := HB4.out.bel.drew.trans (HF5.out.below HTD.out.le)
        have HB6 : Hid (Bo w q w6 p g (t + 1) l (rst S x2)) := ⟨ht5.ronly HR5.out ho6, hr6, HW5.out.trans (ho6.below HW5.out.size hqw hqw), by have := rst_le S x2; have := HB4.out.len; omega, by have := HB4.out.last; omega⟩
        have HB7 := Lib.hid (HB6.out.below hb7)
        clear hr6 ho6 ht5 ho5 HF5 CL5 CL6 CL7 HR5 HW5 HTD HRD CLD HB4 CL4 j2 own56 hown5 hown6 hb7 HB6
        go_wp2_with fail
        refine (same_any w7 w.heap.size p g q _ _ HB7.out.tm HB7.out.rf (by have := HB7.out.last; omega) now).mono ?_
        rintro e w9 ⟨rfl, hb9⟩
        have HB9 := Lib.hid (HB7.out.below hb9)
        clear hb9 HB7
        go_wp2
        go_roundw
        case rel => exact ⟨p, g, t + 1, _, _, by omega, rfl, by go_num, HB9.out⟩
        case measure => simp [intOf]; omega
      by_cases hop4 : x0 = 4
      · have hop := hop4
        clear hop1 hop2 hop3 hop4
        subst hop
        generalize hW4 : wr.alloc (.cells #[.int .i64 4, .int .i64 x1, .int .u64 x2] 32) = w4 at *
        obtain ⟨s, hs⟩ : ∃ s, wr.heap.size = s := ⟨_, rfl⟩
        rw [hs] at CL4
        obtain ⟨j0, j1, j2⟩ := CL4.out.cells
        have HI := Lib.hid (twin_any w4 w.heap.size p g S (l : Int) HB4.out.tm)
        go_wp2_with fail
        refine HI.out.mono ?_
        rintro e w5 ⟨p5, g5, rfl, hx5, hb5⟩
        have HX5 := Lib.hid hx5
        have HT5 := Lib.hid (HB4.out.tm.below hb5)
        have HR5 := Lib.hid (HB4.out.rf.below hb5)
        have HW5 := Lib.hid (HB4.out.bel.trans (hb5.mono HB4.out.bel.size))
        have HI2 := Lib.hid (due_any w5 w.heap.size p g S (l : Int) HT5.out 18446744073709551615 _ rfl)
        have hne : p < w4.heap.size ∧ g < w4.heap.size := ⟨HB4.out.tm.ltp, HB4.out.tm.ltg⟩
        clear HI hx5 hb5 j0 j1 j2 k0 k1 k2
        go_wp2_with fail
        refine HI2.out.mono ?_
        rintro e w6 ⟨X6, k6, rfl, _, _, ho6⟩
        have h5p := HX5.out.hp
        have h5g := HX5.out.hg
        have HB6 : Hid (Bo w q w6 p5 g5 (t + 1) l S) := ⟨(HX5.out.only ho6 (by omega) (by omega) (by omega) (by omega)).base HB4.out.bel.size, HR5.out.fr (HT5.out.frd ho6), HW5.out.trans (HT5.out.bel ho6), by have := HB4.out.len; omega, by have := HB4.out.last; omega⟩
        clear HI2 ho6 HX5 HT5 HR5 HW5 HB4 CL4 h5p h5g hne
        go_wp2_with fail
        refine (same_any w6 w.heap.size p5 g5 q _ _ HB6.out.tm HB6.out.rf (by have := HB6.out.last; omega) now).mono ?_
        rintro e w9 ⟨rfl, hb9⟩
        have HB9 := Lib.hid (HB6.out.below hb9)
        clear hb9 HB6
        go_wp2
        go_roundw
        case rel => exact ⟨p5, g5, t + 1, _, _, by omega, rfl, by go_num, HB9.out⟩
        case measure => simp [intOf]; omega
      · generalize hW4 : wr.alloc (.cells #[.int .i64 x0, .int .i64 x1, .int .u64 x2] 32) = w4 at *
        obtain ⟨s, hs⟩ : ∃ s, wr.heap.size = s := ⟨_, rfl⟩
        rw [hs] at CL4
        obtain ⟨j0, j1, j2⟩ := CL4.out.cells
        have e1 : (x0 == 1) = false := by simpa using hop1
        have e2 : (x0 == 2) = false := by simpa using hop2
        have e3 : (x0 == 3) = false := by simpa using hop3
        have e4 : (x0 == 4) = false := by simpa using hop4
        have HB6 := Lib.hid (HB4.out.more (u := t + 1) (by omega))
        clear hop1 hop2 hop3 hop4 HB4 CL4
        go_wp2_with fail
        refine (same_any w4 w.heap.size p g q _ _ HB6.out.tm HB6.out.rf (by have := HB6.out.last; omega) now).mono ?_
        rintro e w9 ⟨rfl, hb9⟩
        have HB9 := Lib.hid (HB6.out.below hb9)
        clear hb9 HB6
        go_wp2
        go_roundw
        case rel => exact ⟨p, g, t + 1, _, _, by omega, rfl, by go_num, HB9.out⟩
        case measure => simp [intOf]; omega
    · have i1 : decide ((t : Int) < (n : Int)) = false := by simp; omega
      have HB6 := Lib.hid hB.out.bel
      clear hB
      go_wp2
      go_ret
      exact ⟨rfl, HB6.out⟩
end Go.Proofs.Ytbaljeehbcjdoaa.timerPlays
