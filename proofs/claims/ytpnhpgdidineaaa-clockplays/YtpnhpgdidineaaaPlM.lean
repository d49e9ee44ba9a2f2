/-
  detentlaw8.ClockPlays: the walk.
-/
import Derived.Test.YtpnhpgdidineaaaPlO
import Derived.Deep.RegionHeld3
namespace Go.Proofs.Ytpnhpgdidineaaa.clockPlays
open Go.RowKit
set_option linter.unusedVariables false

def Post (w : World) (e : Ending) (w' : World) : Prop := e = .returned (.bool true) ∧ Below w.heap.size w w'

/-- both clocks tell the same: entries S, l handles given, the same up; the program's now is the document's -/
structure Bo (w wr : World) (r q c p g t l : Nat) (tic up now base : Int) (S : List En) : Prop where
  ck : Ck wr w.heap.size c p g tic up now S (l : Int)
  rk : Rk wr r q tic up base S (l : Int)
  bel : Below w.heap.size w wr
  nb : (base + up) % 281474976710656 = now
  len : S.length ≤ t
  last : l ≤ t
  bu : up ≤ 1000 * (t : Int)
section
variable {w wr w' : World} {r q c p g t l u : Nat} {tic up now base : Int} {S : List En}
theorem Bo.below (h : Bo w wr r q c p g t l tic up now base S) (k : Below wr.heap.size wr w') : Bo w w' r q c p g t l tic up now base S :=
  ⟨h.ck.below k, h.rk.below k, h.bel.trans (k.mono h.bel.size), h.nb, h.len, h.last, h.bu⟩
theorem Bo.drew (h : Bo w wr r q c p g t l tic up now base S) : Bo w wr.drew r q c p g t l tic up now base S := h.below (Below.refl _ _).drew
theorem Bo.quiet (h : Bo w wr r q c p g t l tic up now base S) (k : ∃ d, w' = wr.drew.drewN d) : Bo w w' r q c p g t l tic up now base S := by
  obtain ⟨d, rfl⟩ := k
  exact h.drew.below (below_drewN _ d)
theorem Bo.more (h : Bo w wr r q c p g t l tic up now base S) (hu : t ≤ u) : Bo w wr r q c p g u l tic up now base S :=
  ⟨h.ck, h.rk, h.bel, h.nb, by have := h.len; omega, by have := h.last; omega, by have := h.bu; omega⟩
theorem Bo.k3 (h : Bo w wr r q c p g t l tic up now base S) : wr.cell? ⟨c, 0, none⟩ = some (.pointer (some ⟨p, 0, none⟩)) ∧ wr.cell? ⟨r, 0, none⟩ = some (.pointer (some ⟨q, 0, none⟩)) ∧ wr.cell? ⟨r, 2, none⟩ = some (.int .u64 up) :=
  ⟨h.ck.cells.1, h.rk.cells.1, h.rk.cells.2.2.1⟩
theorem Rk.bel (hr : w.heap.size ≤ r) (hq : w.heap.size ≤ q) (hs : w.heap.size ≤ wr.heap.size) (o : Only r q wr w') : Below w.heap.size wr w' := o.below hs hr hq
theorem Rk.ints {B' z n : Nat} {v : Value} {xs : List Value} {last : Int} (h : Rk w r q tic up base S last) (ho : Only r q w w') (hr : w.ownsRow B' 3 z v n xs) : w'.ownsRow B' 3 z v n xs :=
  own_keep hr fun b cs hb _ => h.at ho hb (by decide) (by decide)
end

/-- the call's struct, as the law holds it -/
def Cl (w : World) (s : Nat) (x0 x1 x2 x3 : Int) : Prop := w.heap[s]? = some (.cells #[.int .i64 x0, .int .i64 x1, .int .u64 x2, .int .i64 x3] 33 (0, 0))
section
variable {w w' : World} {s r q : Nat} {x0 x1 x2 x3 : Int}
theorem Cl.lt (h : Cl w s x0 x1 x2 x3) : s < w.heap.size := lt_of_heap h
theorem Cl.cells (h : Cl w s x0 x1 x2 x3) :
    w.cell? ⟨s, 0, none⟩ = some (.int .i64 x0) ∧ w.cell? ⟨s, 1, none⟩ = some (.int .i64 x1) ∧ w.cell? ⟨s, 2, none⟩ = some (.int .u64 x2) ∧ w.cell? ⟨s, 3, none⟩ = some (.int .i64 x3) := by
  refine ⟨?_, ?_, ?_, ?_⟩ <;> rw [cell_of_row _ _ _ _ _ _ h] <;> rfl
theorem Cl.on3 {B c p g : Nat} {tic up now : Int} {S : List En} {l : Int} (h : Cl w s x0 x1 x2 x3) (hc : Ck w B c p g tic up now S l) (o : On3 c p g w w') : Cl w' s x0 x1 x2 x3 := (hc.at o h (by decide) (by decide) (by decide)).trans h
theorem Cl.ronly {tic up base : Int} {S : List En} {l : Int} (h : Cl w s x0 x1 x2 x3) (hr : Rk w r q tic up base S l) (o : Only r q w w') : Cl w' s x0 x1 x2 x3 := (hr.at o h (by decide) (by decide)).trans h
theorem Cl.below (h : Cl w s x0 x1 x2 x3) (k : Below w.heap.size w w') : Cl w' s x0 x1 x2 x3 := (k.block s h.lt).trans h
end
theorem del_le (S : List En) (h : Int) : (del S h).length ≤ S.length := List.length_filter_le _ _
theorem rst_le (S : List En) (v : Int) : (rst S v).length ≤ S.length := (List.dropWhile_sublist _).length_le

theorem ck_tm {w w' : World} {B c p g : Nat} {tic up now : Int} {S S2 : List En} {l : Int} (h : Ck w B c p g tic up now S l) (ho : Only p g w w') (ht : Tm w' B p g S2 l) : Ck w' B c p g tic up now S2 l := by
  obtain ⟨n1, n2⟩ := h.tm.nc h.cell
  exact ⟨h.hc, (ho.block c h.lt (Ne.symm n1) (Ne.symm n2)).trans h.cell, ht, h.bt, h.bu, h.bn⟩
/-- a copy lies apart from the elder clock -/
theorem ck_far {w w' : World} {N c p g d u v : Nat} {tic up now : Int} {S : List En} {l : Int} (h : Ck w N d u v tic up now S l) (hl : c < N ∧ p < N ∧ g < N) (o : On3 c p g w w') : Ck w' N d u v tic up now S l := by
  have h1 := h.hc
  have h2 := h.tm.hp
  have h3 := h.tm.hg
  exact h.keep (o.block d h.lt (by omega) (by omega) (by omega)) (o.block u h.tm.ltp (by omega) (by omega) (by omega)) (o.block v h.tm.ltg (by omega) (by omega) (by omega))
theorem k5_of {w : World} {B s r q c p g : Nat} {x0 x1 x2 x3 tic up now tic2 up2 base : Int} {S S2 : List En} {l l2 : Int} (h : Cl w s x0 x1 x2 x3) (hc : Ck w B c p g tic up now S l) (hr : Rk w r q tic2 up2 base S2 l2) :
    w.cell? ⟨s, 1, none⟩ = some (.int .i64 x1) ∧ w.cell? ⟨c, 0, none⟩ = some (.pointer (some ⟨p, 0, none⟩)) ∧ w.cell? ⟨r, 0, none⟩ = some (.pointer (some ⟨q, 0, none⟩)) := ⟨h.cells.2.1, hc.cells.1, hr.cells.1⟩

set_option maxHeartbeats 800000 in
theorem walkOut (tic : Int) (A : Option Addr) (n cap : Nat) (w : World) (hn : n ≤ 9223372036854775807) (h : ¬ n ≤ 80) : Calls Try.prog 3 #[.int .i64 tic, .slice A n cap] w (Post w) := by
  have t1 : decide ((80 : Int) < (n : Int)) = true := by simp; omega
  have t2 : decide (80 < n) = true := by simp; omega
  go_enter Try.func3, Try.ntmps3
  go_wp2_with fail
  refine (known_any _).mono ?_
  rintro e w0 ⟨rfl, hb0⟩
  go_wp2
  go_ret
  exact ⟨rfl, hb0⟩

set_option maxHeartbeats 1600000 in
theorem walkBad (tic : Int) (A : Option Addr) (n cap : Nat) (w : World) (hn : n ≤ 80) (h : tic < 1 ∨ 1000 < tic) : Calls Try.prog 3 #[.int .i64 tic, .slice A n cap] w (Post w) := by
  have t1 : decide ((80 : Int) < (n : Int)) = false := by simp; omega
  have t2 : decide (80 < n) = false := by simp; omega
  have H1 := Lib.hid h
  clear h
  go_enter Try.func3, Try.ntmps3
  go_wp2_with fail
  refine (known_any _).mono ?_
  rintro e w0 ⟨rfl, hb0⟩
  go_wp2_with fail
  refine (newclock_no w0 tic H1.out).mono ?_
  rintro e w1 ⟨rfl, rfl⟩
  go_wp2_with fail
  refine (rnew_no w0 tic H1.out).mono ?_
  rintro e w1 ⟨rfl, rfl⟩
  go_wp2
  go_ret
  exact ⟨rfl, hb0⟩

set_option maxHeartbeats 12800000 in
set_option maxRecDepth 100000 in
theorem walkIn (tic : Int) (n cap b o : Nat) (A : Option Addr) (op id tm du : Nat → Int) (w : World)
    (hA : 0 < n → A = some ⟨b, o, none⟩ ∧ Acts w b o n op id tm du) (hn : n ≤ 80) (h1 : 1 ≤ tic) (h2 : tic ≤ 1000) :
    Calls Try.prog 3 #[.int .i64 tic, .slice A n cap] w (Post w) := by
  have t1 : decide ((80 : Int) < (n : Int)) = false := by simp; omega
  have t2 : decide (80 < n) = false := by simp; omega
  have HA := Lib.hid hA
  clear hA
  go_enter Try.func3, Try.ntmps3
  go_wp2_with fail
  refine (known_any w).mono ?_
  rintro e w0 ⟨rfl, hb0⟩
  have HB0 := Lib.hid hb0
  clear hb0
  go_wp2_with fail
  refine (new_at w w0 HB0.out tic h1 h2).mono ?_
  rintro e w1 ⟨c, p, rfl, hk, hb1⟩
  have HK := Lib.hid hk
  have HB1 := Lib.hid hb1
  clear hk hb1 HB0
  go_wp2_with fail
  refine (rnew_ok w1 tic h1 h2).mono ?_
  rintro e w2 ⟨r, q, rfl, hrk, hb2, hr2, hq2⟩
  have hqw : w.heap.size ≤ q := Nat.le_trans HB1.out.size hq2
  have hrw : w.heap.size ≤ r := Nat.le_trans HB1.out.size hr2
  have HBO : Hid (Bo w w2 r q c p p 0 0 tic 0 0 0 []) := ⟨HK.out.below hb2, hrk, HB1.out.trans (hb2.mono HB1.out.size), by decide, Nat.le_refl _, Nat.le_refl _, by decide⟩
  clear t1 t2 hrk hb2 hr2 hq2 HK HB1
  go_wp2
  go_loopw [5, 9] (fun tv i wr => ∃ (c p g t l : Nat) (up now base : Int) (S : List En), t ≤ n ∧ tv = .pointer (some ⟨c, 0, none⟩) ∧ i = .int .i64 (t : Int) ∧ Hid (Bo w wr r q c p g t l tic up now base S)) (fun _ i _ => n - (intOf i).toNat)
  case atStart => exact ⟨c, p, p, 0, 0, 0, 0, 0, [], Nat.zero_le _, rfl, rfl, HBO.out⟩
  case round =>
    clear HBO
    obtain ⟨c, p, g, t, l, up, now, base, S, ht, rfl, rfl, hB⟩ := hrel
    by_cases hlt : t < n
    · obtain ⟨rfl, hac⟩ := HA.out (by omega)
      have i1 : (t : Int) < (n : Int) := by omega
      have hlb := hac.hlt t hlt
      have hx2 := hac.pos t hlt
      have k0 := (hB.out.bel.cell (p := ⟨b, o + t * 4, none⟩) hlb).trans (hac.c0 t hlt)
      have k1 := (hB.out.bel.cell (p := ⟨b, o + t * 4 + 1, none⟩) hlb).trans (hac.c1 t hlt)
      have k2 := (hB.out.bel.cell (p := ⟨b, o + t * 4 + 2, none⟩) hlb).trans (hac.c2 t hlt)
      have k3 := (hB.out.bel.cell (p := ⟨b, o + t * 4 + 3, none⟩) hlb).trans (hac.c3 t hlt)
      clear hac hlb
      generalize op t = x0 at *
      generalize id t = x1 at *
      generalize tm t = x2 at *
      generalize du t = x3 at *
      have HX2 := Lib.hid hx2
      have hba : Below wr.heap.size wr (wr.alloc (.cells #[.int .i64 x0, .int .i64 x1, .int .u64 x2, .int .i64 x3] 33)) := (Below.refl _ _).alloc (Nat.le_refl _) _
      have HB4 := Lib.hid (hB.out.below hba)
      have CL4 : Hid (Cl (wr.alloc (.cells #[.int .i64 x0, .int .i64 x1, .int .u64 x2, .int .i64 x3] 33)) wr.heap.size x0 x1 x2 x3) := heap_alloc_new _ _
      have hupb : up ≤ 4611686018427387904 := by have := hB.out.bu; omega
      clear hB hba hx2
      by_cases hop1 : x0 = 1
      · have hop := hop1
        clear hop1
        subst hop
        generalize hW4 : wr.alloc (.cells #[.int .i64 1, .int .i64 x1, .int .u64 x2, .int .i64 x3] 33) = w4 at *
        obtain ⟨s, hs⟩ : ∃ s, wr.heap.size = s := ⟨_, rfl⟩
        rw [hs] at CL4
        obtain ⟨j0, j1, j2, j3⟩ := CL4.out.cells
        have HI := Lib.hid (set_any w4 w.heap.size c p g tic up now S (l : Int) HB4.out.ck x2 _ HX2.out rfl)
        obtain ⟨b1, hb1⟩ : ∃ b1, (x2 + (281474976710656 - up % 281474976710656)) % 281474976710656 = b1 := ⟨_, rfl⟩
        obtain ⟨n1, hn1⟩ : ∃ n1, x2 % 281474976710656 = n1 := ⟨_, rfl⟩
        have HB1 := Lib.hid hb1
        have HN1 := Lib.hid hn1
        rw [hn1] at HI
        clear hb1 hn1
        go_wp2_with fail
        refine HI.out.mono ?_
        rintro e w5 ⟨rfl, hk5, ho5⟩
        have HK5 := Lib.hid hk5
        have HR5 := Lib.hid (HB4.out.rk.on3 HB4.out.ck ho5)
        have CL5 := Lib.hid (CL4.out.on3 HB4.out.ck ho5)
        have HW5 := Lib.hid (HB4.out.bel.trans (HB4.out.ck.bel ho5))
        obtain ⟨m0, m1, m2, m3⟩ := CL5.out.cells
        have HI2 := Lib.hid (rset_any w5 r q tic up base S (l : Int) HR5.out x2 b1 HX2.out HB1.out)
        clear HI hk5 ho5 j0 j1 j2 j3 k0 k1 k2 k3
        go_wp2_with fail
        refine HI2.out.mono ?_
        rintro e w6 ⟨rfl, hr6, ho6⟩
        have HB6 : Hid (Bo w w6 r q c p g (t + 1) l tic up n1 b1 S) := ⟨HK5.out.ronly HR5.out ho6, hr6, HW5.out.trans (ho6.below HW5.out.size hrw hqw), by have e1 := HB1.out; have e2 := HN1.out; omega, by have := HB4.out.len; omega, by have := HB4.out.last; omega, by have := HB4.out.bu; omega⟩
        clear HI2 hr6 ho6 m0 m1 m2 m3 HK5 HR5 CL5 HW5 HB4 CL4 HB1 HN1
        obtain ⟨n0, m0, m2⟩ := HB6.out.k3
        go_wp2_with fail
        go_region_held3 (fun Z => Z.cell? ⟨c, 0, none⟩ = some (.pointer (some ⟨p, 0, none⟩)) ∧ Z.cell? ⟨r, 0, none⟩ = some (.pointer (some ⟨q, 0, none⟩)) ∧ Z.cell? ⟨r, 2, none⟩ = some (.int .u64 up))
          (first | exact ⟨n0, m0, m2⟩ | exact HB9.out.k3 | exact HB8.out.k3 | assumption)
          (first
            | (go_at_call 21; refine (now_any w6.drew w.heap.size c p g tic up n1 S _ HB6.out.drew.ck).mono ?_; rintro e w7 ⟨rfl, rfl⟩)
            | (go_at_call 22; refine (rnow_any w6.drew r q tic up b1 S _ HB6.out.drew.rk n1 HB6.out.nb).mono ?_; rintro e w8 ⟨rfl, hw8⟩; have HB8 := Lib.hid (HB6.out.quiet hw8); clear hw8)
            | (go_at_call 23; refine (up_any w8 w.heap.size c p g tic up n1 S _ HB8.out.ck).mono ?_; rintro e w7 ⟨rfl, rfl⟩)
            | (go_at_call 24; refine (same_any w8 w.heap.size p g q S _ HB8.out.ck.tm HB8.out.rk.rf (by have := HB8.out.last; omega) up).mono ?_; rintro e w9 ⟨rfl, hb9⟩; have HB9 := Lib.hid (HB8.out.below hb9); clear hb9))
        clear n0 m0 m2 HB6 HB8
        go_wp2
        go_roundw
        case rel => exact ⟨c, p, g, t + 1, l, up, n1, b1, S, by omega, rfl, by go_num, HB9.out⟩
        case measure => simp [intOf]; omega
      by_cases hop2 : x0 = 2
      · have hop := hop2
        clear hop1 hop2
        subst hop
        obtain ⟨l1, hl1⟩ : ∃ l1 : Nat, l + 1 = l1 := ⟨_, rfl⟩
        obtain ⟨a, ha⟩ : ∃ a, up + x3 + tic = a := ⟨_, rfl⟩
        generalize hW4 : wr.alloc (.cells #[.int .i64 2, .int .i64 x1, .int .u64 x2, .int .i64 x3] 33) = w4 at *
        obtain ⟨s, hs⟩ : ∃ s, wr.heap.size = s := ⟨_, rfl⟩
        rw [hs] at CL4
        obtain ⟨j0, j1, j2, j3⟩ := CL4.out.cells
        by_cases hrg : x3 < 0 ∨ 2147483647 < x3
        · have HRG := Lib.hid hrg
          clear hrg ha
          have HB6 := Lib.hid (HB4.out.more (u := t + 1) (by omega))
          go_wp2_with fail
          refine (after_no w4 c x3 x1 HRG.out).mono ?_
          rintro e w5 ⟨rfl, rfl⟩
          go_wp2_with fail
          refine (rafter_no w4 r x3 x1 HRG.out).mono ?_
          rintro e w5 ⟨rfl, rfl⟩
          clear k0 k1 k2 k3 j0 j1 j2 j3 HB4 CL4 HRG
          obtain ⟨n0, m0, m2⟩ := HB6.out.k3
          go_wp2_with fail
          go_region_held3 (fun Z => Z.cell? ⟨c, 0, none⟩ = some (.pointer (some ⟨p, 0, none⟩)) ∧ Z.cell? ⟨r, 0, none⟩ = some (.pointer (some ⟨q, 0, none⟩)) ∧ Z.cell? ⟨r, 2, none⟩ = some (.int .u64 up))
            (first | exact ⟨n0, m0, m2⟩ | exact HB9.out.k3 | exact HB8.out.k3 | assumption)
            (first
              | (go_at_call 21; refine (now_any w4.drew w.heap.size c p g tic up now S _ HB6.out.drew.ck).mono ?_; rintro e w7 ⟨rfl, rfl⟩)
              | (go_at_call 22; refine (rnow_any w4.drew r q tic up base S _ HB6.out.drew.rk now HB6.out.nb).mono ?_; rintro e w8 ⟨rfl, hw8⟩; have HB8 := Lib.hid (HB6.out.quiet hw8); clear hw8)
              | (go_at_call 23; refine (up_any w8 w.heap.size c p g tic up now S _ HB8.out.ck).mono ?_; rintro e w7 ⟨rfl, rfl⟩)
              | (go_at_call 24; refine (same_any w8 w.heap.size p g q S _ HB8.out.ck.tm HB8.out.rk.rf (by have := HB8.out.last; omega) up).mono ?_; rintro e w9 ⟨rfl, hb9⟩; have HB9 := Lib.hid (HB8.out.below hb9); clear hb9))
          clear n0 m0 m2 HB6 HB8
          go_wp2
          go_roundw
          case rel => exact ⟨c, p, g, t + 1, l, up, now, base, S, by omega, rfl, by go_num, HB9.out⟩
          case measure => simp [intOf]; omega
        · have HI := Lib.hid (after_ok w4 w.heap.size c p g tic up now S (l : Int) HB4.out.ck x3 x1 (by omega) (by omega) hupb (by have := HB4.out.len; omega) (by have := HB4.out.last; omega) a (l1 : Int) ha (by omega))
          have HRG : Hid (0 ≤ x3 ∧ x3 ≤ 2147483647) := ⟨by omega, by omega⟩
          have HA1 := Lib.hid ha
          clear hrg ha
          go_wp2_with fail
          refine HI.out.mono ?_
          rintro e w5 ⟨rfl, ⟨g5, hk5, _⟩, ho5⟩
          have HK5 := Lib.hid hk5
          have HR5 := Lib.hid (HB4.out.rk.on3 HB4.out.ck ho5)
          have CL5 := Lib.hid (CL4.out.on3 HB4.out.ck ho5)
          have HW5 := Lib.hid (HB4.out.bel.trans (HB4.out.ck.bel ho5))
          obtain ⟨m0, m1, m2, m3⟩ := CL5.out.cells
          have HI2 := Lib.hid (rafter_ok w5 r q tic up base S (l : Int) HR5.out x3 x1 HRG.out.1 HRG.out.2 hupb (by have := HB4.out.len; omega) (by have := HB4.out.last; omega) a (l1 : Int) HA1.out (by omega))
          clear HI hk5 ho5 j0 j1 j2 j3 k0 k1 k2 k3
          go_wp2_with fail
          refine HI2.out.mono ?_
          rintro e w6 ⟨rfl, hr6, ho6⟩
          obtain ⟨S6, hS6⟩ : ∃ S6, ins (a, (l1 : Int), x1) S = S6 := ⟨_, rfl⟩
          have hlen6 : S6.length ≤ t + 1 := by rw [← hS6, ins_len]; have := HB4.out.len; omega
          rw [hS6] at HK5 hr6
          have HB6 : Hid (Bo w w6 r q c p g5 (t + 1) l1 tic up now base S6) := ⟨HK5.out.ronly HR5.out ho6, hr6, HW5.out.trans (ho6.below HW5.out.size hrw hqw), HB4.out.nb, hlen6, by have := HB4.out.last; omega, by have := HB4.out.bu; omega⟩
          clear HI2 hr6 ho6 m0 m1 m2 m3 HK5 HR5 CL5 HW5 HB4 CL4 HRG HA1 hS6 hlen6
          obtain ⟨n0, m0, m2⟩ := HB6.out.k3
          go_wp2_with fail
          go_region_held3 (fun Z => Z.cell? ⟨c, 0, none⟩ = some (.pointer (some ⟨p, 0, none⟩)) ∧ Z.cell? ⟨r, 0, none⟩ = some (.pointer (some ⟨q, 0, none⟩)) ∧ Z.cell? ⟨r, 2, none⟩ = some (.int .u64 up))
            (first | exact ⟨n0, m0, m2⟩ | exact HB9.out.k3 | exact HB8.out.k3 | assumption)
            (first
              | (go_at_call 21; refine (now_any w6.drew w.heap.size c p g5 tic up now S6 _ HB6.out.drew.ck).mono ?_; rintro e w7 ⟨rfl, rfl⟩)
              | (go_at_call 22; refine (rnow_any w6.drew r q tic up base S6 _ HB6.out.drew.rk now HB6.out.nb).mono ?_; rintro e w8 ⟨rfl, hw8⟩; have HB8 := Lib.hid (HB6.out.quiet hw8); clear hw8)
              | (go_at_call 23; refine (up_any w8 w.heap.size c p g5 tic up now S6 _ HB8.out.ck).mono ?_; rintro e w7 ⟨rfl, rfl⟩)
              | (go_at_call 24; refine (same_any w8 w.heap.size p g5 q S6 _ HB8.out.ck.tm HB8.out.rk.rf (by have := HB8.out.last; omega) up).mono ?_; rintro e w9 ⟨rfl, hb9⟩; have HB9 := Lib.hid (HB8.out.below hb9); clear hb9))
          clear n0 m0 m2 HB6 HB8
          go_wp2
          go_roundw
          case rel => exact ⟨c, p, g5, t + 1, l1, up, now, base, S6, by omega, rfl, by go_num, HB9.out⟩
          case measure => simp [intOf]; omega
      by_cases hop3 : x0 = 3
      · have hop := hop3
        clear hop1 hop2 hop3
        subst hop
        generalize hW4 : wr.alloc (.cells #[.int .i64 3, .int .i64 x1, .int .u64 x2, .int .i64 x3] 33) = w4 at *
        obtain ⟨s, hs⟩ : ∃ s, wr.heap.size = s := ⟨_, rfl⟩
        rw [hs] at CL4
        obtain ⟨j0, j1, j2, j3⟩ := CL4.out.cells
        obtain ⟨u1, hu1⟩ : ∃ u1, up + tic = u1 := ⟨_, rfl⟩
        obtain ⟨n1, hn1⟩ : ∃ n1, (now + tic) % 281474976710656 = n1 := ⟨_, rfl⟩
        obtain ⟨D, hD⟩ : ∃ D, due S u1 = D := ⟨_, rfl⟩
        obtain ⟨S1, hS1⟩ : ∃ S1, rst S u1 = S1 := ⟨_, rfl⟩
        obtain ⟨d, hd⟩ : ∃ d, D.length = d := ⟨_, rfl⟩
        have hdl : d ≤ 256 := by have h3 := due_len S u1; have := HB4.out.len; rw [hD, hd] at h3; omega
        have hl1 : S1.length ≤ S.length := by rw [← hS1]; exact rst_le S u1
        have hnb1 : (base + u1) % 281474976710656 = n1 := by have := HB4.out.nb; omega
        have hub1 : u1 ≤ 1000 * ((t + 1 : Nat) : Int) := by have := HB4.out.bu; omega
        have HD := Lib.hid hD
        have HS1 := Lib.hid hS1
        have HDL := Lib.hid hd
        have HU1 := Lib.hid hu1
        have HNB1 := Lib.hid hnb1
        have HUB1 := Lib.hid hub1
        have HL1 := Lib.hid hl1
        have HI := Lib.hid (tick_any w4 w.heap.size c p g tic up now S (l : Int) HB4.out.ck hupb u1 n1 hu1 hn1 d D S1 hD hd hS1)
        clear hD hS1 hd hu1 hnb1 hub1 hl1 hn1
        go_wp2_with fail
        refine HI.out.mono ?_
        rintro e w5 ⟨X5, k5, rfl, hown5, hk5, ho5⟩
        have HK5 := Lib.hid hk5
        have HR5 := Lib.hid (HB4.out.rk.on3 HB4.out.ck ho5)
        have HW5 := Lib.hid (HB4.out.bel.trans (HB4.out.ck.bel ho5))
        have HX5 := Lib.hid hown5
        clear HI hk5 ho5 hown5 j0 j1 j2 j3 k0 k1 k2 k3
        go_wp2_with fail
        refine (rtick_any w5 r q tic up base S (l : Int) HR5.out hupb u1 HU1.out d D S1 HD.out HDL.out HS1.out).mono ?_
        rintro e w6 ⟨X6, k6, rfl, hown6, hr6, ho6⟩
        have own56 := Rk.ints HR5.out ho6 HX5.out
        have HB5 : Hid (Bo w w6 r q c p g (t + 1) l tic u1 n1 base S1) := ⟨HK5.out.ronly HR5.out ho6, hr6, HW5.out.trans (ho6.below HW5.out.size hrw hqw), HNB1.out, by have := HL1.out; have := HB4.out.len; omega, by have := HB4.out.last; omega, HUB1.out⟩
        have HLS := Lib.hid (lsame_any w6 _ _ X5 X6 d k5 k6 _ own56 hown6 (by rw [args_len]; exact HDL.out) hdl)
        clear own56 hown6 hr6 ho6 HK5 HR5 HW5 HX5 HB4 CL4
        go_wp2_with fail
        refine HLS.out.mono ?_
        rintro e w7 ⟨rfl, d7, hw7⟩
        have HB6 : Hid (Bo w w7 r q c p g (t + 1) l tic u1 n1 base S1) := by rw [hw7]; exact HB5.out.below (below_drewN w6 d7)
        clear hw7 HB5 HLS HD HS1 HDL HU1 HNB1 HUB1 HL1
        obtain ⟨n0, m0, m2⟩ := HB6.out.k3
        go_wp2_with fail
        go_region_held3 (fun Z => Z.cell? ⟨c, 0, none⟩ = some (.pointer (some ⟨p, 0, none⟩)) ∧ Z.cell? ⟨r, 0, none⟩ = some (.pointer (some ⟨q, 0, none⟩)) ∧ Z.cell? ⟨r, 2, none⟩ = some (.int .u64 u1))
          (first | exact ⟨n0, m0, m2⟩ | exact HB9.out.k3 | exact HB8.out.k3 | assumption)
          (first
            | (go_at_call 21; refine (now_any w7.drew w.heap.size c p g tic u1 n1 S1 _ HB6.out.drew.ck).mono ?_; rintro e w7 ⟨rfl, rfl⟩)
            | (go_at_call 22; refine (rnow_any w7.drew r q tic u1 base S1 _ HB6.out.drew.rk n1 HB6.out.nb).mono ?_; rintro e w8 ⟨rfl, hw8⟩; have HB8 := Lib.hid (HB6.out.quiet hw8); clear hw8)
            | (go_at_call 23; refine (up_any w8 w.heap.size c p g tic u1 n1 S1 _ HB8.out.ck).mono ?_; rintro e w7 ⟨rfl, rfl⟩)
            | (go_at_call 24; refine (same_any w8 w.heap.size p g q S1 _ HB8.out.ck.tm HB8.out.rk.rf (by have := HB8.out.last; omega) u1).mono ?_; rintro e w9 ⟨rfl, hb9⟩; have HB9 := Lib.hid (HB8.out.below hb9); clear hb9))
        clear n0 m0 m2 HB6 HB8
        go_wp2
        go_roundw
        case rel => exact ⟨c, p, g, t + 1, l, u1, n1, base, S1, by omega, rfl, by go_num, HB9.out⟩
        case measure => simp [intOf]; omega
      by_cases hop4 : x0 = 4
      · have hop := hop4
        clear hop1 hop2 hop3 hop4
        subst hop
        go_wp2
        generalize wr.alloc (.cells #[.int .i64 4, .int .i64 x1, .int .u64 x2, .int .i64 x3] 33) = w4 at *
        generalize wr.heap.size = s at *
        obtain ⟨_, j1, _, _⟩ := CL4.out.cells
        obtain ⟨n0, m0, _⟩ := HB4.out.k3
        obtain ⟨ok, hok⟩ : ∃ ok, (fnd S x1).isSome = ok := ⟨_, rfl⟩
        obtain ⟨S1, hS1⟩ : ∃ S1, del S x1 = S1 := ⟨_, rfl⟩
        have HL1 : Hid (S1.length ≤ S.length) := by rw [← hS1]; exact del_le S x1
        have HOK := Lib.hid hok
        have HBD := Lib.hid HB4.out.drew
        have CLD : Hid (Cl w4.drew s 4 x1 x2 x3) := CL4.out
        clear k0 k1 k2 k3 hok
        go_region_held3 (fun Z => Z.cell? ⟨s, 1, none⟩ = some (.int .i64 x1) ∧ Z.cell? ⟨c, 0, none⟩ = some (.pointer (some ⟨p, 0, none⟩)) ∧ Z.cell? ⟨r, 0, none⟩ = some (.pointer (some ⟨q, 0, none⟩)))
          (first | exact ⟨j1, n0, m0⟩ | exact K6.out | exact K5.out | assumption)
          (first
            | (go_at_call 18; refine (cancel_any w4.drew w.heap.size p g S (l : Int) HBD.out.ck.tm x1 ok HOK.out).mono ?_; rintro e w5 ⟨rfl, ht5, ho5⟩; have HK5 := Lib.hid (ck_tm HBD.out.ck ho5 ht5); have HR5 := Lib.hid (HBD.out.rk.on3 HBD.out.ck (On3.of_only ho5)); have CL5 := Lib.hid (CLD.out.on3 HBD.out.ck (On3.of_only ho5)); have K5 := Lib.hid (k5_of CL5.out HK5.out HR5.out))
            | (go_at_call 19; refine (rcancel_any w5 q S (l : Int) HR5.out.rf x1 ok HOK.out).mono ?_; rintro e w6 ⟨rfl, hr6, ho6⟩; have CL6 := Lib.hid (CL5.out.ronly HR5.out ho6.r_of); have HK6 := Lib.hid (HK5.out.ronly HR5.out ho6.r_of); have HR6 := Lib.hid (HR5.out.rf_to ho6 hr6); have K6 := Lib.hid (k5_of CL6.out HK6.out HR6.out)))
        have HB6 : Hid (Bo w w6 r q c p g (t + 1) l tic up now base S1) := by
          have hw5 : Below w.heap.size w w5 := HBD.out.bel.trans (HBD.out.ck.bel (On3.of_only ho5))
          have a1 := HK6.out
          have a2 := HR6.out
          rw [hS1] at a1 a2
          exact ⟨a1, a2, hw5.trans (ho6.below hw5.size hqw hqw), HB4.out.nb, by have := HL1.out; have := HB4.out.len; omega, by have := HB4.out.last; omega, by have := HB4.out.bu; omega⟩
        clear hr6 ho6 ht5 ho5 HK5 HK6 HR5 HR6 CL5 CL6 K5 K6 HBD CLD HB4 CL4 j1 n0 m0 hS1 HL1
        cases ok
        all_goals
          obtain ⟨n0, m0, m2⟩ := HB6.out.k3
          go_wp2_with fail
          go_region_held3 (fun Z => Z.cell? ⟨c, 0, none⟩ = some (.pointer (some ⟨p, 0, none⟩)) ∧ Z.cell? ⟨r, 0, none⟩ = some (.pointer (some ⟨q, 0, none⟩)) ∧ Z.cell? ⟨r, 2, none⟩ = some (.int .u64 up))
            (first | exact ⟨n0, m0, m2⟩ | exact HB9.out.k3 | exact HB8.out.k3 | assumption)
            (first
              | (go_at_call 21; refine (now_any w6.drew w.heap.size c p g tic up now S1 _ HB6.out.drew.ck).mono ?_; rintro e w7 ⟨rfl, rfl⟩)
              | (go_at_call 22; refine (rnow_any w6.drew r q tic up base S1 _ HB6.out.drew.rk now HB6.out.nb).mono ?_; rintro e w8 ⟨rfl, hw8⟩; have HB8 := Lib.hid (HB6.out.quiet hw8); clear hw8)
              | (go_at_call 23; refine (up_any w8 w.heap.size c p g tic up now S1 _ HB8.out.ck).mono ?_; rintro e w7 ⟨rfl, rfl⟩)
              | (go_at_call 24; refine (same_any w8 w.heap.size p g q S1 _ HB8.out.ck.tm HB8.out.rk.rf (by have := HB8.out.last; omega) up).mono ?_; rintro e w9 ⟨rfl, hb9⟩; have HB9 := Lib.hid (HB8.out.below hb9); clear hb9))
          clear n0 m0 m2 HB6 HB8
          go_wp2
          go_roundw
          case rel => exact ⟨c, p, g, t + 1, l, up, now, base, S1, by omega, rfl, by go_num, HB9.out⟩
          case measure => simp [intOf]; omega
      by_cases hop5 : x0 = 5
      · have hop := hop5
        clear hop1 hop2 hop3 hop4 hop5
        subst hop
        generalize hW4 : wr.alloc (.cells #[.int .i64 5, .int .i64 x1, .int .u64 x2, .int .i64 x3] 33) = w4 at *
        obtain ⟨s, hs⟩ : ∃ s, wr.heap.size = s := ⟨_, rfl⟩
        rw [hs] at CL4
        obtain ⟨j0, j1, j2, j3⟩ := CL4.out.cells
        have HI := Lib.hid (apart_any w4 w.heap.size c p g tic up now S (l : Int) HB4.out.ck)
        have hlts : Hid (c < w4.heap.size ∧ p < w4.heap.size ∧ g < w4.heap.size) := ⟨HB4.out.ck.lt, HB4.out.ck.tm.ltp, HB4.out.ck.tm.ltg⟩
        go_wp2_with fail
        refine HI.out.mono ?_
        rintro e w5 ⟨c5, p5, g5, rfl, hk5, hb5⟩
        have HX5 := Lib.hid hk5
        have HK5 := Lib.hid (HB4.out.ck.below hb5)
        have HR5 := Lib.hid (HB4.out.rk.below hb5)
        have HW5 := Lib.hid (HB4.out.bel.trans (hb5.mono HB4.out.bel.size))
        have HI2 := Lib.hid (tick_any w5 w.heap.size c p g tic up now S (l : Int) HK5.out hupb _ _ rfl rfl _ _ _ rfl rfl rfl)
        clear HI hk5 hb5 j0 j1 j2 j3 k0 k1 k2 k3
        go_wp2_with fail
        refine HI2.out.mono ?_
        rintro e w6 ⟨X6, k6, rfl, _, hk6, ho6⟩
        have HK6 := Lib.hid hk6
        have HX6 := Lib.hid (ck_far HX5.out hlts.out ho6)
        have HR6 := Lib.hid (HR5.out.on3 HK5.out ho6)
        have HW6 := Lib.hid (HW5.out.trans (HK5.out.bel ho6))
        clear HI2 hk6 ho6 HK5 HR5 HW5 HX5
        go_wp2_with fail
        refine (set_any w6 w.heap.size c p g tic _ _ _ (l : Int) HK6.out 1 1 (by decide) (by decide)).mono ?_
        rintro e w7 ⟨rfl, hk7, ho7⟩
        have HB6 : Hid (Bo w w7 r q c5 p5 g5 (t + 1) l tic up now base S) := ⟨(ck_far HX6.out hlts.out ho7).base HB4.out.bel.size, HR6.out.on3 HK6.out ho7, HW6.out.trans (HK6.out.bel ho7), HB4.out.nb, by have := HB4.out.len; omega, by have := HB4.out.last; omega, by have := HB4.out.bu; omega⟩
        clear hk7 ho7 HK6 HX6 HR6 HW6 HB4 CL4 hlts
        obtain ⟨n0, m0, m2⟩ := HB6.out.k3
        go_wp2_with fail
        go_region_held3 (fun Z => Z.cell? ⟨c5, 0, none⟩ = some (.pointer (some ⟨p5, 0, none⟩)) ∧ Z.cell? ⟨r, 0, none⟩ = some (.pointer (some ⟨q, 0, none⟩)) ∧ Z.cell? ⟨r, 2, none⟩ = some (.int .u64 up))
          (first | exact ⟨n0, m0, m2⟩ | exact HB9.out.k3 | exact HB8.out.k3 | assumption)
          (first
            | (go_at_call 21; refine (now_any w7.drew w.heap.size c5 p5 g5 tic up now S _ HB6.out.drew.ck).mono ?_; rintro e w7 ⟨rfl, rfl⟩)
            | (go_at_call 22; refine (rnow_any w7.drew r q tic up base S _ HB6.out.drew.rk now HB6.out.nb).mono ?_; rintro e w8 ⟨rfl, hw8⟩; have HB8 := Lib.hid (HB6.out.quiet hw8); clear hw8)
            | (go_at_call 23; refine (up_any w8 w.heap.size c5 p5 g5 tic up now S _ HB8.out.ck).mono ?_; rintro e w7 ⟨rfl, rfl⟩)
            | (go_at_call 24; refine (same_any w8 w.heap.size p5 g5 q S _ HB8.out.ck.tm HB8.out.rk.rf (by have := HB8.out.last; omega) up).mono ?_; rintro e w9 ⟨rfl, hb9⟩; have HB9 := Lib.hid (HB8.out.below hb9); clear hb9))
        clear n0 m0 m2 HB6 HB8
        go_wp2
        go_roundw
        case rel => exact ⟨c5, p5, g5, t + 1, l, up, now, base, S, by omega, rfl, by go_num, HB9.out⟩
        case measure => simp [intOf]; omega
      · generalize hW4 : wr.alloc (.cells #[.int .i64 x0, .int .i64 x1, .int .u64 x2, .int .i64 x3] 33) = w4 at *
        obtain ⟨s, hs⟩ : ∃ s, wr.heap.size = s := ⟨_, rfl⟩
        rw [hs] at CL4
        obtain ⟨j0, j1, j2, j3⟩ := CL4.out.cells
        have e1 : (x0 == 1) = false := by simpa using hop1
        have e2 : (x0 == 2) = false := by simpa using hop2
        have e3 : (x0 == 3) = false := by simpa using hop3
        have e4 : (x0 == 4) = false := by simpa using hop4
        have e5 : (x0 == 5) = false := by simpa using hop5
        have HB6 := Lib.hid (HB4.out.more (u := t + 1) (by omega))
        clear hop1 hop2 hop3 hop4 hop5 HB4 CL4
        obtain ⟨n0, m0, m2⟩ := HB6.out.k3
        go_wp2_with fail
        go_region_held3 (fun Z => Z.cell? ⟨c, 0, none⟩ = some (.pointer (some ⟨p, 0, none⟩)) ∧ Z.cell? ⟨r, 0, none⟩ = some (.pointer (some ⟨q, 0, none⟩)) ∧ Z.cell? ⟨r, 2, none⟩ = some (.int .u64 up))
          (first | exact ⟨n0, m0, m2⟩ | exact HB9.out.k3 | exact HB8.out.k3 | assumption)
          (first
            | (go_at_call 21; refine (now_any w4.drew w.heap.size c p g tic up now S _ HB6.out.drew.ck).mono ?_; rintro e w7 ⟨rfl, rfl⟩)
            | (go_at_call 22; refine (rnow_any w4.drew r q tic up base S _ HB6.out.drew.rk now HB6.out.nb).mono ?_; rintro e w8 ⟨rfl, hw8⟩; have HB8 := Lib.hid (HB6.out.quiet hw8); clear hw8)
            | (go_at_call 23; refine (up_any w8 w.heap.size c p g tic up now S _ HB8.out.ck).mono ?_; rintro e w7 ⟨rfl, rfl⟩)
            | (go_at_call 24; refine (same_any w8 w.heap.size p g q S _ HB8.out.ck.tm HB8.out.rk.rf (by have := HB8.out.last; omega) up).mono ?_; rintro e w9 ⟨rfl, hb9⟩; have HB9 := Lib.hid (HB8.out.below hb9); clear hb9))
        clear n0 m0 m2 HB6 HB8
        go_wp2
        go_roundw
        case rel => exact ⟨c, p, g, t + 1, l, up, now, base, S, by omega, rfl, by go_num, HB9.out⟩
        case measure => simp [intOf]; omega
    · have i1 : decide ((t : Int) < (n : Int)) = false := by simp; omega
      have HB6 := Lib.hid hB.out.bel
      clear hB
      go_wp2
      go_ret
      exact ⟨rfl, HB6.out⟩
end Go.Proofs.Ytpnhpgdidineaaa.clockPlays
