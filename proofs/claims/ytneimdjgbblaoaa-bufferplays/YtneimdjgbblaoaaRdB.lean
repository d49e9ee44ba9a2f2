/- The document's message buffer (detentref16): TrySend, fill. -/
import Derived.Test.YtneimdjgbblaoaaBfP
import Derived.Test.YtneimdjgbblaoaaMix
namespace Go.Proofs.Ytneimdjgbblaoaa
open Go.RowKit
set_option maxRecDepth 100000

/-- n bytes q 0, q 1, .. that are read, not in the document's blocks -/
def Sd (w : World) (m g p r : Nat) (A : Option Addr) (n : Nat) (q : Nat → Int) : Prop :=
  0 < n → ∃ b o : Nat, A = some ⟨b, o, none⟩ ∧ b ≠ m ∧ b ≠ g ∧ b ≠ p ∧ b ≠ r ∧ ∀ j, j < n → w.cell? ⟨b, o + j, none⟩ = some (.int .u8 (q j)) ∧ 0 ≤ q j ∧ q j ≤ 255
theorem Sd.src {w : World} {m g p r n : Nat} {A : Option Addr} {q : Nat → Int} (h : Sd w m g p r A n q) : R.Src w g g A n q := fun hn => by
  obtain ⟨b, o, h1, _, h3, _, _, h5⟩ := h hn; exact ⟨b, o, h1, h3, h3, h5⟩
theorem Sd.et {w w' : World} {m g p r n : Nat} {A : Option Addr} {q : Nat → Int} (h : Sd w m g p r A n q) (k : Et m g p r w w') : Sd w' m g p r A n q := fun hn => by
  obtain ⟨b, o, h1, h2, h3, h4, h4', h5⟩ := h hn
  have hb : b < w.heap.size := block_lt_of_cell (h5 0 hn).1
  exact ⟨b, o, h1, h2, h3, h4, h4', fun j hj => ⟨(k.cell (q := ⟨b, o + j, none⟩) hb h2 h3 h4 h4').trans (h5 j hj).1, (h5 j hj).2⟩⟩
theorem Sd.by_ {w : World} {m g p r n : Nat} {A : Option Addr} {q : Nat → Int} (h : Sd w m g p r A n q) : By (R.mkm n q) := fun j hj => by
  rw [R.mkm_len] at hj
  obtain ⟨b, o, h1, _, _, _, _, h5⟩ := h (by omega)
  rw [R.nth_mkm _ _ _ hj]; exact (h5 j hj).2

section
variable {w : World} {B m g p r : Nat} {t : St}
theorem rput_rf {A : Option Addr} {n cap : Nat} {q : Nat → Int} (h : Rf w B m g p r t) (hf : Fine t) (hs : R.Src w g g A n q) (ok : Bool) (hok : R.fits t.N (R.tot t.G) (n : Int) = ok) :
    Calls Try.prog 43 #[.pointer (some ⟨g, 0, none⟩), .slice A n cap] w fun e w' => e = .returned (.bool ok) ∧ Rf w' B m g p r { t with G := if ok = true then t.G ++ [R.mkm n q] else t.G } ∧ Et m g p r w w' ∧ R.Only g g w w' := by
  refine (R.rput_any g t.N n cap t.G q A w h.o hs hf.g hf.n hf.gm).mono ?_
  rintro e w' ⟨rfl, k1, k2⟩
  unfold R.putL at k1
  rw [R.mkm_len, hok] at k1
  rw [hok]
  exact ⟨rfl, h.lay k2 k1, .of_ring k2, k2⟩

set_option maxHeartbeats 1600000 in
theorem rtrySend_any (t' : St) (A : Option Addr) (n cap : Nat) (q : Nat → Int) (k : Bool) (x c : Int) (h : Rf w B m g p r t) (hf : Fine t) (hsb : Sd w m g p r A n q) (hs : trySend t (R.mkm n q) = (t', k, x, c)) :
    Calls Try.prog 14 #[.pointer (some ⟨m, 0, none⟩), .slice A n cap] w fun e w' => e = .returned (.tuple #[.bool k, .int .i64 x, .int .i64 c]) ∧ Rf w' B m g p r t' ∧ Et m g p r w w' := by
  have H := Lib.hid h
  have c1 := h.d.most
  obtain ⟨mm, hm⟩ : ∃ mm, t.m = mm := ⟨_, rfl⟩
  rw [hm] at c1
  rcases trySend_ways t (R.mkm n q) with ⟨hb, e1⟩ | ⟨hb, ⟨y, R0, hr, e1⟩ | ⟨hr, hS, hfit, e1⟩ | ⟨hr, hno, e1⟩⟩
  · rw [e1] at hs
    injection hs with h1 h2
    injection h2 with h2 h3
    injection h3 with h3 h4
    subst h1 h2 h3 h4
    rw [R.mkm_len, hm] at hb
    by_cases c0 : n = 0
    · subst c0
      clear h hb e1 hf hsb
      go_enter Try.func14, Try.ntmps14
      go_wp2
      go_ret3
      exact ⟨rfl, H.out, Et.refl _ _ _ _ _⟩
    · have t1 : ((n : Int) == 0) = false := by simp; omega
      have t2 : decide ((mm : Int) < (n : Int)) = true := by simp; omega
      have t3 : decide (mm < n) = true := by simp; omega
      clear h hb e1 hf hsb
      go_enter Try.func14, Try.ntmps14
      go_wp2
      go_ret3
      exact ⟨rfl, H.out, Et.refl _ _ _ _ _⟩
  all_goals
    rw [R.mkm_len, hm] at hb
    have t1 : ((n : Int) == 0) = false := by simp; omega
    have t2 : decide ((mm : Int) < (n : Int)) = false := by simp; omega
    have t3 : decide (mm < n) = false := by simp; omega
    rw [e1] at hs
    injection hs with h1 h2
    injection h2 with h2 h3
    injection h3 with h3 h4
    subst h2 h3 h4
    have H1 := Lib.hid h1
    have cR := h.d.c2
    have hqr := h.q
    rw [hr] at hqr
  · have hlen := hf.r.len
    rw [hr] at hlen
    have HT := Lib.hid (rtake_some r false y R0 w hqr hlen)
    obtain ⟨y1, y2⟩ := y
    simp only at HT ⊢
    clear h hlen hr hf h1 hb e1 hsb hqr
    go_enter Try.func14, Try.ntmps14
    go_wp2_with fail
    refine HT.out.mono ?_
    rintro e w1 ⟨rfl, hl1, ho⟩
    have HQ := Lib.hid (H.out.rq ho hl1)
    have HO := Lib.hid ho
    have bx := box_new w1 100 (.int .i64 y1) (.int .i64 y2)
    have HB := Lib.hid (show Below w1.heap.size w1 (w1.alloc (.cells #[.int .i64 y1, .int .i64 y2] 100)) from (Below.refl _ _).alloc (Nat.le_refl _) _)
    have q0 := bx.c0
    clear hl1 ho bx HT H
    go_wp2
    go_quiet (fail)
    go_wp2
    go_ret3
    rw [← H1.out]
    exact ⟨rfl, (HQ.out.below HB.out).drewN _, ((Et.of_only HO.out (.inr (.inr rfl))).trans (.of_below HB.out)).drewN _⟩
  · have HT := Lib.hid (rtake_none r false w hqr)
    have HF := Lib.hid hf
    have HSB := Lib.hid hsb
    rw [R.mkm_len] at hfit
    clear h hr hf h1 hb e1 hsb hqr
    go_enter Try.func14, Try.ntmps14
    go_wp2_with fail
    refine HT.out.mono ?_
    rintro e w1 ⟨rfl, hb1⟩
    have HB := Lib.hid (below_trans hb1 (show Below w1.heap.size w1 (w1.alloc (.cells #[.int .i64 0, .int .i64 0] 100)) from (Below.refl _ _).alloc (Nat.le_refl _) _))
    have hq := H.out.below HB.out
    have HQ := Lib.hid hq
    have c0 := hq.d.c0
    have cS := hq.d.c1
    obtain ⟨XS, kS, _, cL, _, _, _, _⟩ := hq.s.open
    rw [hS] at cL
    have hsb1 := HSB.out.et (.of_below HB.out)
    have HP := Lib.hid (rput_rf (cap := cap) hq HF.out hsb1.src true hfit)
    clear hb1 hq HT hsb1
    go_wp2_with fail
    refine HP.out.mono ?_
    rintro e w2 ⟨rfl, hq2, hk2, _⟩
    have HQ2 := Lib.hid hq2
    have HK2 := Lib.hid hk2
    clear hq2 hk2 HP c0 c1 cS cL cR
    go_wp2
    go_ret3
    rw [← H1.out]
    exact ⟨rfl, HQ2.out.congr (by simp), (Et.of_below HB.out).trans HK2.out⟩
  · have HT := Lib.hid (rtake_none r false w hqr)
    have HF := Lib.hid hf
    have HSB := Lib.hid hsb
    obtain ⟨nS, hnS⟩ : ∃ nS, t.S.length = nS := ⟨_, rfl⟩
    rw [R.mkm_len] at hno
    have HNO := Lib.hid hno
    clear h hr hf h1 hb e1 hsb hno hqr
    go_enter Try.func14, Try.ntmps14
    go_wp2_with fail
    refine HT.out.mono ?_
    rintro e w1 ⟨rfl, hb1⟩
    have HB := Lib.hid (below_trans hb1 (show Below w1.heap.size w1 (w1.alloc (.cells #[.int .i64 0, .int .i64 0] 100)) from (Below.refl _ _).alloc (Nat.le_refl _) _))
    have hq := H.out.below HB.out
    have HQ := Lib.hid hq
    have c0 := hq.d.c0
    have cS := hq.d.c1
    obtain ⟨XS, kS, _, cL, _, _, _, _⟩ := hq.s.open
    rw [hnS] at cL
    have HNS := Lib.hid hnS
    by_cases cS0 : nS = 0
    · subst cS0
      have hS : t.S = [] := List.length_eq_zero_iff.1 HNS.out
      have hfit : R.fits t.N (R.tot t.G) (n : Int) = false := by have := HNO.out; rw [hS] at this; simpa using this
      have hsb1 := HSB.out.et (.of_below HB.out)
      have HP := Lib.hid (rput_rf (cap := cap) hq HF.out hsb1.src false hfit)
      clear hb1 hq HT hsb1 hnS hS
      go_wp2_with fail
      refine HP.out.mono ?_
      rintro e w2 ⟨rfl, hq2, hk2, _⟩
      have HQ2 := Lib.hid hq2
      have HK2 := Lib.hid hk2
      clear hq2 hk2 HP c0 c1 cS cL cR
      go_wp2
      go_ret3
      rw [← H1.out]
      exact ⟨rfl, HQ2.out.congr (by simp), (Et.of_below HB.out).trans HK2.out⟩
    · have t4 : ((nS : Int) == 0) = false := by simp; omega
      clear hb1 hq HT hnS
      go_wp2
      go_ret3
      rw [← H1.out]
      exact ⟨rfl, HQ.out, Et.of_below HB.out⟩

theorem own_et {w' : World} {B' n : Nat} {u : Value} {xs : List Value} (h : w.ownsRow B' 3 1 u n xs) (q : Rf w B m g p r t) (k : Et m g p r w w') : w'.ownsRow B' 3 1 u n xs :=
  K.own_keep h fun i cs hg _ => k.block i (lt_of_heap hg) (by rintro rfl; exact q.d.type (e := 3) (by decide) _ _ hg) (by rintro rfl; exact q.o.type (e := 3) (by decide) _ _ hg) (by rintro rfl; exact q.s.type (e := 3) (by decide) _ _ hg) (by rintro rfl; exact q.q.type (e := 3) (by decide) _ _ hg)
theorem Et.grown {a w' : World} {row : Option Nat} (h : Et m g p r a w) (k : w.grownBy w' row) (hr : ∀ i, row = some i → a.heap.size ≤ i) : Et m g p r a w' :=
  ⟨k.os.trans h.os, k.tape.trans h.tape, k.output.trans h.output, Nat.le_trans h.size k.size, fun i hi h1 h2 h3 h4 => (k.block i (Nat.lt_of_lt_of_le hi h.size) (fun e => by have := hr i e.symm; omega)).trans (h.block i hi h1 h2 h3 h4)⟩
theorem Et.un {a w' : World} {n : Nat} (h : Et m g p r (a.drewN n) w') : Et m g p r a w' := ⟨h.os, h.tape, h.output, h.size, h.block⟩
theorem Rf.keepT {w' : World} (h : Rf w B m g p r t) (T : ∀ (i : Nat) (ds : Array Value) (e : TypeId) (fr : Nat × Nat), w.heap[i]? = some (.cells ds e fr) → e = 77 ∨ e = 73 ∨ e = 93 ∨ e = 9 ∨ e = 100 → w'.heap[i]? = w.heap[i]?) : Rf w' B m g p r t := by
  refine ⟨?_, h.s.keepT ?_, h.q.keepT ?_, rfk h.o ?_, h.n, h.bm, h.bg, h.bp, h.br⟩
  · obtain ⟨cs, hh, hz⟩ := h.d
    exact ⟨cs, (T m cs 77 _ hh (.inl rfl)).trans hh, hz⟩
  · rintro i cs e hi (⟨rfl, _⟩ | rfl)
    · exact T i cs _ _ hi (.inr (.inr (.inl rfl)))
    · exact T i cs _ _ hi (.inr (.inr (.inr (.inr rfl))))
  · rintro i cs e hi (⟨rfl, _⟩ | rfl)
    · exact T i cs _ _ hi (.inr (.inr (.inl rfl)))
    · exact T i cs _ _ hi (.inr (.inr (.inr (.inr rfl))))
  · rintro i cs e hi (⟨rfl, _⟩ | rfl)
    · exact T i cs _ _ hi (.inr (.inl rfl))
    · exact T i cs _ _ hi (.inr (.inr (.inr (.inl rfl))))
theorem Rf.grown {w' : World} {B' n : Nat} {v : Value} {xs : List Value} (h : Rf w B m g p r t) (ho : w.ownsRow B' 3 1 v n xs) (k : w.grownBy w' v.ownBlock) : Rf w' B m g p r t :=
  h.keepT fun i ds e fr hi he => k.block i (lt_of_heap hi) (fun e2 => by
    obtain ⟨_, cur, _, _, _, hh, _⟩ := own_blk ho e2.symm
    rw [hi] at hh; injection hh with hh; injection hh with _ hh
    rcases he with h | h | h | h | h <;> subst h <;> cases hh)
theorem Rf.box {w' : World} {i : Nat} {T : TypeId} {a b c : Value} (h : Rf w B m g p r t) (bx : Box3 w i T a b c) (hT : T = 46) (k : Only i w w') : Rf w' B m g p r t :=
  h.keepT fun j ds e fr hj he => k.block j (lt_of_heap hj) (by
    rintro rfl; subst hT; unfold Box3 at bx; rw [hj] at bx; injection bx with bx; injection bx with _ bx
    rcases he with h | h | h | h | h <;> subst h <;> cases bx)

theorem sl_ty {w : World} {e : TypeId} {X : Option Addr} {m k : Nat} {L : List It} (h : Sl w e (.slice X m k) L) (h0 : 0 < L.length) : ∃ (g o : Nat) (cs : Array Value), X = some ⟨g, o, none⟩ ∧ w.heap[g]? = some (.cells cs e (0, 0)) ∧ ∀ (j : Nat) (x : It), L[j]? = some x → w.cell? ⟨g, o + j * 2, none⟩ = some (.int .i64 x.1) ∧ w.cell? ⟨g, o + j * 2 + 1, none⟩ = some (.int .i64 x.2) := by
  rcases h with ⟨_, h⟩ | ⟨g, o, k, cs, h1, h2, h3, h4, h5⟩
  · subst h; simp at h0
  · injection h1 with h1
    exact ⟨g, o, cs, h1, h4, fun j x hx => Sl.cell h4 h5 hx⟩
/-- what fill keeps while it goes round -/
def Fil (w : World) (B m g p r : Nat) (t : St) (o : Value) (wr : World) : Prop :=
  ∃ (S : List It) (G : List (List Int)) (outs rest : List Int), fillL t.N t.W S G = ((fillL t.N t.W t.S t.G).1, (fillL t.N t.W t.S t.G).2.1, rest) ∧ (fillL t.N t.W t.S t.G).2.2 = outs ++ rest ∧ outs.length + S.length = t.S.length ∧
    Ow wr w.heap.size o outs ∧ Rf wr B m g p r { t with S := S, G := G } ∧ Fine { t with S := S, G := G } ∧ Et m g p r w wr

def fill_tabs : List Row := [
  ([], 7, [0]), ([0], 8, [6]), ([1], 9, [7]), ([2], 10, [8]), ([3], 11, [9]), ([4], 12, [10]), ([5], 13, [11]), ([6], 14, [12]), ([7], 15, [13]), ([8], 16, [14]),
  ([9], 17, [0, 15]), ([10, 9], 18, [16, 15]), ([11, 9], 19, [17, 15]), ([12, 9], 20, [18, 15]), ([9], 21, [0, 15]), ([9], 22, [0, 15]), ([15, 9], 23, [21, 15]),
  ([16, 9], 24, [22, 15]), ([17, 9], 25, [23, 15]), ([18, 9], 26, [24, 15]), ([19, 9], 27, [25, 15]), ([20, 9], 28, [26, 15]), ([21, 9], 29, [27, 15]),
  ([22, 9], 30, [28, 15]), ([23, 9], 31, [29, 15]), ([14, 9], 32, [20, 15]), ([25, 9], 33, [31, 15]), ([26, 24, 9], 34, [32, 30, 15]), ([27, 9], 35, [33, 15]),
  ([28, 9], 36, [34, 15]), ([13, 29, 9, 9], 37, [19, 35, 15]), ([9, 30], 38, [15, 36])]
def fill_flags : List Bool := [false, false, false, false, false, false, false, false, false, false, false, false, false, false, false, false, false, false, false, false, false, false, false, false, false, false, false, false, false, true, true, false]

set_option maxHeartbeats 8000000 in
theorem rfill_any (h : Rf w B m g p r t) (hf : Fine t) :
    Calls Try.prog 52 #[.pointer (some ⟨m, 0, none⟩)] w fun e w' => ∃ v, e = .returned v ∧ Ow w' w.heap.size v (fill t).2 ∧ Rf w' B m g p r (fill t).1 ∧ Et m g p r w w' := by
  have HN := Lib.hid hf.s.len
  have H0 : Hid (Fil w B m g p r t (.slice none 0 0) w) := Lib.hid ⟨t.S, t.G, [], (fillL t.N t.W t.S t.G).2.2, rfl, rfl, by simp, ⟨rfl, .inl ⟨rfl, rfl⟩⟩, by simpa using h, hf, Et.refl _ _ _ _ _⟩
  clear h hf
  go_enter Try.func52, Try.ntmps52
  go_wp2
  go_loopw [3] (fun o wr => ∃ vo : Value, vo = o ∧ Hid (Fil w B m g p r t vo wr)) (fun o _ => 17 - lenV o)
  case atStart =>
    exact ⟨_, rfl, H0⟩
  case round =>
    obtain ⟨vo, rfl, hrel⟩ := hrel
    obtain ⟨S, G, outs, rest, e1, e2, hlen, hown, hrf, hfi, het⟩ := hrel.out
    have HE := Lib.hid (And.intro e1 e2)
    have HL := Lib.hid hlen
    have HOW := Lib.hid hown
    have HR := Lib.hid hrf
    have HF := Lib.hid hfi
    have HD := Lib.hid het
    have cG := hrf.d.c0
    have cS := hrf.d.c1
    obtain ⟨XS, kS, _, cL, hsl, hk1, hk2, _⟩ := hrf.s.open
    clear e1 e2 hlen hown hfi het hrel
    obtain ⟨XO, KO, rfl, _, _⟩ := K.own_form HOW.out
    cases S with
    | nil =>
      simp only [List.length_nil] at cL
      clear hrf hsl
      go_wp2
      go_quiet (fail)
      go_wp2
      go_ret
      obtain ⟨z1, z2⟩ := adm_done HE.out (fillL_nil _ _ _)
      rw [z1, z2]
      have hb : Below wr.heap.size wr (wr.drewN nq) := below_drewN _ _
      exact ⟨_, rfl, K.own_below HOW.out hb, HR.out.below hb, HD.out.trans (.of_below hb)⟩
    | cons y S =>
      have hrng := HF.out.s.rng y (by simp)
      have hwy := HF.out.w y (by simp)
      obtain ⟨y1, y2⟩ := y
      obtain ⟨j, rfl⟩ : ∃ j : Nat, y1 = (j : Int) := ⟨y1.toNat, by simp only at hrng; omega⟩
      have hj17 : j < 17 := by simp only at hrng; omega
      have hji : (j : Int) < 17 := by omega
      rw [show ((j : Int), y2).1.toNat = j from rfl] at hwy
      have hmsg := hrf.d.msg (y := ((j : Int), y2)) (by simp) (k := j) rfl
      obtain ⟨x, hx⟩ : ∃ x, t.W j = x := ⟨_, rfl⟩
      have HX := Lib.hid hx
      simp only [hx] at hmsg hwy
      have HW := Lib.hid hwy
      obtain ⟨gi, oi, csi, rfl, hti, hci⟩ := sl_ty hsl (by simp)
      have HGI := Lib.hid (show gi ≠ g by rintro rfl; exact hrf.o.type (e := 100) (by decide) _ _ hti)
      have HPG := Lib.hid (show p ≠ g by rintro rfl; obtain ⟨X, k, hh, _⟩ := hrf.s; exact hrf.o.type (e := 93) (by decide) _ _ hh)
      have HGL := Lib.hid (lt_of_heap hti)
      have ci := (hci 0 ((j : Int), y2) rfl).1
      simp only [Nat.zero_mul, Nat.add_zero] at ci
      obtain ⟨nS, hnS⟩ : ∃ nS, (((j : Int), y2) :: S).length = nS := ⟨_, rfl⟩
      rw [hnS] at cL
      have hn0 : 0 < nS := by rw [← hnS]; simp
      have t1 : decide ((0 : Int) < (nS : Int)) = true := by simp; omega
      have t1' : decide (0 < nS) = true := by simpa using hn0
      obtain ⟨cap, wa, hcv, hcap, hbk, hba⟩ := bytes_cap wr.drew x
      have hbw : Below wr.heap.size wr wa := below_trans (Below.refl _ _).drew hba
      have HRA := Lib.hid (hrf.below hbw)
      have HSR := Lib.hid (bk_sb hbk hwy.2 (s := g) (p := g) (m := g) (Nat.ne_of_gt hrf.o.lt) (Nat.ne_of_gt hrf.o.lt) (Nat.ne_of_gt hrf.o.lt))
      have HBW := Lib.hid hbw
      have K5 := Lib.hid (fun (W : World) (hb : Below wr.heap.size wr W) => (show W.cell? ⟨m, 0, none⟩ = some (.pointer (some ⟨g, 0, none⟩)) ∧ W.cell? ⟨m, 1, none⟩ = some (.pointer (some ⟨p, 0, none⟩)) ∧ W.cell? ⟨p, 1, none⟩ = some (.slice (some ⟨gi, oi, none⟩) nS kS) ∧ W.cell? ⟨gi, oi, none⟩ = some (.int .i64 (j : Int)) ∧ W.cell? ⟨m, 3 + j, none⟩ = some (.string (R.str x)) from
        ⟨(hb.cell (p := ⟨m, 0, none⟩) hrf.d.lt).trans cG, (hb.cell (p := ⟨m, 1, none⟩) hrf.d.lt).trans cS, (hb.cell (p := ⟨p, 1, none⟩) hrf.s.lt).trans cL, (hb.cell (p := ⟨gi, oi, none⟩) (block_lt_of_cell ci)).trans ci, (hb.cell (p := ⟨m, 3 + j, none⟩) hrf.d.lt).trans hmsg⟩))
      have k0 := K5.out wr (Below.refl _ _)
      clear hrf hsl hwy hx hci hbk hba hbw hnS hrng hti
      go_wp2
      obtain ⟨ok, hfit⟩ : ∃ ok, R.fits t.N (R.tot G) (x.length : Int) = ok := ⟨_, rfl⟩
      (try dsimp only [List.append])
      refine wp_region_mix (C := (fun Z => Z.cell? ⟨m, 0, none⟩ = some (.pointer (some ⟨g, 0, none⟩)) ∧ Z.cell? ⟨m, 1, none⟩ = some (.pointer (some ⟨p, 0, none⟩)) ∧ Z.cell? ⟨p, 1, none⟩ = some (.slice (some ⟨gi, oi, none⟩) nS kS) ∧ Z.cell? ⟨gi, oi, none⟩ = some (.int .i64 (j : Int)) ∧ Z.cell? ⟨m, 3 + j, none⟩ = some (.string (R.str x)))) fill_tabs fill_flags (by kernel_rfl) (by kernel_rfl) (by kernel_rfl) (by kernel_rfl) (by kernel_rfl) k0 ?_
      unfold fill_flags
      refine mix_free ?v0 (by kernel_rfl) (fun Z hZ => ?y0) ?r0
      case y0 =>
        obtain ⟨c0, c1, c2, c3, c4⟩ := hZ
        go_simp
        try with_reducible rfl
      (try simp only [Act.put, List.setIfInBounds_toArray, List.set_cons_zero, List.set_cons_succ])
      refine mix_free ?v1 (by kernel_rfl) (fun Z hZ => ?y1) ?r1
      case y1 =>
        obtain ⟨c0, c1, c2, c3, c4⟩ := hZ
        go_simp
        try with_reducible rfl
      (try simp only [Act.put, List.setIfInBounds_toArray, List.set_cons_zero, List.set_cons_succ])
      refine mix_free ?v2 (by kernel_rfl) (fun Z hZ => ?y2) ?r2
      case y2 =>
        obtain ⟨c0, c1, c2, c3, c4⟩ := hZ
        go_simp
        try with_reducible rfl
      (try simp only [Act.put, List.setIfInBounds_toArray, List.set_cons_zero, List.set_cons_succ])
      refine mix_free ?v3 (by kernel_rfl) (fun Z hZ => ?y3) ?r3
      case y3 =>
        obtain ⟨c0, c1, c2, c3, c4⟩ := hZ
        go_simp
        try with_reducible rfl
      (try simp only [Act.put, List.setIfInBounds_toArray, List.set_cons_zero, List.set_cons_succ])
      refine mix_free ?v4 (by kernel_rfl) (fun Z hZ => ?y4) ?r4
      case y4 =>
        obtain ⟨c0, c1, c2, c3, c4⟩ := hZ
        go_simp
        try with_reducible rfl
      (try simp only [Act.put, List.setIfInBounds_toArray, List.set_cons_zero, List.set_cons_succ])
      refine mix_free ?v5 (by kernel_rfl) (fun Z hZ => ?y5) ?r5
      case y5 =>
        obtain ⟨c0, c1, c2, c3, c4⟩ := hZ
        go_simp
        try with_reducible rfl
      (try simp only [Act.put, List.setIfInBounds_toArray, List.set_cons_zero, List.set_cons_succ])
      refine mix_free ?v6 (by kernel_rfl) (fun Z hZ => ?y6) ?r6
      case y6 =>
        obtain ⟨c0, c1, c2, c3, c4⟩ := hZ
        go_simp
        try with_reducible rfl
      (try simp only [Act.put, List.setIfInBounds_toArray, List.set_cons_zero, List.set_cons_succ])
      refine mix_free ?v7 (by kernel_rfl) (fun Z hZ => ?y7) ?r7
      case y7 =>
        obtain ⟨c0, c1, c2, c3, c4⟩ := hZ
        go_simp
        try with_reducible rfl
      (try simp only [Act.put, List.setIfInBounds_toArray, List.set_cons_zero, List.set_cons_succ])
      refine mix_free ?v8 (by kernel_rfl) (fun Z hZ => ?y8) ?r8
      case y8 =>
        obtain ⟨c0, c1, c2, c3, c4⟩ := hZ
        go_simp
        try with_reducible rfl
      (try simp only [Act.put, List.setIfInBounds_toArray, List.set_cons_zero, List.set_cons_succ])
      refine mix_free ?v9 (by kernel_rfl) (fun Z hZ => ?y9) ?r9
      case y9 =>
        obtain ⟨c0, c1, c2, c3, c4⟩ := hZ
        go_simp
        try with_reducible rfl
      (try simp only [Act.put, List.setIfInBounds_toArray, List.set_cons_zero, List.set_cons_succ])
      refine mix_free ?v10 (by kernel_rfl) (fun Z hZ => ?y10) ?r10
      case y10 =>
        obtain ⟨c0, c1, c2, c3, c4⟩ := hZ
        go_simp
        try with_reducible rfl
      (try simp only [Act.put, List.setIfInBounds_toArray, List.set_cons_zero, List.set_cons_succ])
      refine mix_free ?v11 (by kernel_rfl) (fun Z hZ => ?y11) ?r11
      case y11 =>
        obtain ⟨c0, c1, c2, c3, c4⟩ := hZ
        go_simp
        try with_reducible rfl
      (try simp only [Act.put, List.setIfInBounds_toArray, List.set_cons_zero, List.set_cons_succ])
      refine mix_free ?v12 (by kernel_rfl) (fun Z hZ => ?y12) ?r12
      case y12 =>
        obtain ⟨c0, c1, c2, c3, c4⟩ := hZ
        go_simp
        try with_reducible rfl
      (try simp only [Act.put, List.setIfInBounds_toArray, List.set_cons_zero, List.set_cons_succ])
      refine mix_free ?v13 (by kernel_rfl) (fun Z hZ => ?y13) ?r13
      case y13 =>
        obtain ⟨c0, c1, c2, c3, c4⟩ := hZ
        go_simp
        try with_reducible rfl
      (try simp only [Act.put, List.setIfInBounds_toArray, List.set_cons_zero, List.set_cons_succ])
      refine mix_free ?v14 (by kernel_rfl) (fun Z hZ => ?y14) ?r14
      case y14 =>
        obtain ⟨c0, c1, c2, c3, c4⟩ := hZ
        go_simp
        try with_reducible rfl
      (try simp only [Act.put, List.setIfInBounds_toArray, List.set_cons_zero, List.set_cons_succ])
      refine mix_free ?v15 (by kernel_rfl) (fun Z hZ => ?y15) ?r15
      case y15 =>
        obtain ⟨c0, c1, c2, c3, c4⟩ := hZ
        go_simp
        try with_reducible rfl
      (try simp only [Act.put, List.setIfInBounds_toArray, List.set_cons_zero, List.set_cons_succ])
      refine mix_free ?v16 (by kernel_rfl) (fun Z hZ => ?y16) ?r16
      case y16 =>
        obtain ⟨c0, c1, c2, c3, c4⟩ := hZ
        go_simp
        try with_reducible rfl
      (try simp only [Act.put, List.setIfInBounds_toArray, List.set_cons_zero, List.set_cons_succ])
      refine mix_free ?v17 (by kernel_rfl) (fun Z hZ => ?y17) ?r17
      case y17 =>
        obtain ⟨c0, c1, c2, c3, c4⟩ := hZ
        go_simp
        try with_reducible rfl
      (try simp only [Act.put, List.setIfInBounds_toArray, List.set_cons_zero, List.set_cons_succ])
      refine mix_free ?v18 (by kernel_rfl) (fun Z hZ => ?y18) ?r18
      case y18 =>
        obtain ⟨c0, c1, c2, c3, c4⟩ := hZ
        go_simp
        try with_reducible rfl
      (try simp only [Act.put, List.setIfInBounds_toArray, List.set_cons_zero, List.set_cons_succ])
      refine mix_free ?v19 (by kernel_rfl) (fun Z hZ => ?y19) ?r19
      case y19 =>
        obtain ⟨c0, c1, c2, c3, c4⟩ := hZ
        go_simp
        try with_reducible rfl
      (try simp only [Act.put, List.setIfInBounds_toArray, List.set_cons_zero, List.set_cons_succ])
      refine mix_free ?v20 (by kernel_rfl) (fun Z hZ => ?y20) ?r20
      case y20 =>
        obtain ⟨c0, c1, c2, c3, c4⟩ := hZ
        go_simp
        try with_reducible rfl
      (try simp only [Act.put, List.setIfInBounds_toArray, List.set_cons_zero, List.set_cons_succ])
      refine mix_free ?v21 (by kernel_rfl) (fun Z hZ => ?y21) ?r21
      case y21 =>
        obtain ⟨c0, c1, c2, c3, c4⟩ := hZ
        go_simp
        try with_reducible rfl
      (try simp only [Act.put, List.setIfInBounds_toArray, List.set_cons_zero, List.set_cons_succ])
      refine mix_free ?v22 (by kernel_rfl) (fun Z hZ => ?y22) ?r22
      case y22 =>
        obtain ⟨c0, c1, c2, c3, c4⟩ := hZ
        go_simp
        try with_reducible rfl
      (try simp only [Act.put, List.setIfInBounds_toArray, List.set_cons_zero, List.set_cons_succ])
      refine mix_free ?v23 (by kernel_rfl) (fun Z hZ => ?y23) ?r23
      case y23 =>
        obtain ⟨c0, c1, c2, c3, c4⟩ := hZ
        go_simp
        try with_reducible rfl
      (try simp only [Act.put, List.setIfInBounds_toArray, List.set_cons_zero, List.set_cons_succ])
      refine mix_free ?v24 (by kernel_rfl) (fun Z hZ => ?y24) ?r24
      case y24 =>
        obtain ⟨c0, c1, c2, c3, c4⟩ := hZ
        go_simp
        try with_reducible rfl
      (try simp only [Act.put, List.setIfInBounds_toArray, List.set_cons_zero, List.set_cons_succ])
      refine mix_free ?v25 (by kernel_rfl) (fun Z hZ => ?y25) ?r25
      case y25 =>
        obtain ⟨c0, c1, c2, c3, c4⟩ := hZ
        go_simp
        try with_reducible rfl
      (try simp only [Act.put, List.setIfInBounds_toArray, List.set_cons_zero, List.set_cons_succ])
      refine mix_free ?v26 (by kernel_rfl) (fun Z hZ => ?y26) ?r26
      case y26 =>
        obtain ⟨c0, c1, c2, c3, c4⟩ := hZ
        go_simp
        try with_reducible rfl
      (try simp only [Act.put, List.setIfInBounds_toArray, List.set_cons_zero, List.set_cons_succ])
      refine mix_free ?v27 (by kernel_rfl) (fun Z hZ => ?y27) ?r27
      case y27 =>
        obtain ⟨c0, c1, c2, c3, c4⟩ := hZ
        go_simp
        try with_reducible rfl
      (try simp only [Act.put, List.setIfInBounds_toArray, List.set_cons_zero, List.set_cons_succ])
      refine mix_free ?v28 (by kernel_rfl) (fun Z hZ => ?y28) ?r28
      case y28 =>
        obtain ⟨c0, c1, c2, c3, c4⟩ := hZ
        go_simp
        try with_reducible rfl
      (try simp only [Act.put, List.setIfInBounds_toArray, List.set_cons_zero, List.set_cons_succ])
      refine mix_alone (by kernel_rfl) ?_
      go_simp
      refine ⟨K5.out wa HBW.out, ?_⟩
      refine mix_alone (by kernel_rfl) ?_
      go_simp
      go_at_call 43
      refine (rput_rf (cap := cap) HRA.out HF.out HSR.out.src ok hfit).mono ?_
      rintro e w4 ⟨rfl, hq4, hd4, ho4⟩
      refine ⟨⟨hq4.d.c0, hq4.d.c1, (ho4.cell (q := ⟨p, 1, none⟩) HRA.out.s.lt HPG.out HPG.out).trans (K5.out wa HBW.out).2.2.1, (ho4.cell (q := ⟨gi, oi, none⟩) (Nat.lt_of_lt_of_le HGL.out HBW.out.size) HGI.out HGI.out).trans (K5.out wa HBW.out).2.2.2.1, (ho4.cell (q := ⟨m, 3 + j, none⟩) HRA.out.d.lt HRA.out.ng HRA.out.ng).trans (K5.out wa HBW.out).2.2.2.2⟩, ?_⟩
      refine mix_free ?v31 (by kernel_rfl) (fun Z hZ => ?y31) ?r31
      case y31 =>
        obtain ⟨c0, c1, c2, c3, c4⟩ := hZ
        go_simp
        try with_reducible rfl
      (try simp only [Act.put, List.setIfInBounds_toArray, List.set_cons_zero, List.set_cons_succ])
      refine mix_end ?_
      cases ok with
      | false =>
        have HQ4 := Lib.hid hq4
        have HD4 := Lib.hid hd4
        clear hq4 hd4 ho4 k0
        go_wp2
        go_ret
        obtain ⟨z1, z2⟩ := adm_done HE.out (fillL_no (by show ¬ R.fits t.N (R.tot G) ((t.W j).length : Int) = true; rw [HX.out, hfit]; simp))
        rw [z1, z2]
        refine ⟨_, rfl, own_et (K.own_below HOW.out HBW.out) HRA.out HD4.out, HQ4.out.congr (by simp), (HD.out.trans (.of_below HBW.out)).trans HD4.out⟩
      | true =>
        have HQ4 := Lib.hid (Rf.congr (t' := { t with S := ((j : Int), y2) :: S, G := G ++ [x] }) hq4 (by simp only [R.mkm_nth, if_true]))
        have HOW4 := Lib.hid (own_et (K.own_below HOW.out HBW.out) HRA.out hd4)
        have HD4 := Lib.hid ((HD.out.trans (.of_below HBW.out)).trans hd4)
        have hf4 : Fine { t with S := ((j : Int), y2) :: S, G := G ++ [x] } := HF.out.put (x := x) hfit
        have HF4 := Lib.hid hf4
        have HT := Lib.hid (rtake_some p t.b ((j : Int), y2) S w4 HQ4.out.s hf4.s.len)
        have c1 := HQ4.out.d.c1
        simp only at HT
        clear hq4 hd4 ho4 k0 hf4 cG cS cL hmsg ci hcv
        go_wp2_with fail
        refine HT.out.mono ?_
        rintro e w5 ⟨rfl, hl5, ho5⟩
        have hq5 : Rf w5 B m g p r { t with S := S, G := G ++ [x] } := HQ4.out.sq ho5 hl5 (fun y hy => ⟨y, List.mem_cons_of_mem _ hy, rfl⟩)
        have hf6 : Fine { t with S := S, G := G ++ [x] } := Fine.lose (t := { t with S := ((j : Int), y2) :: S, G := G ++ [x] }) HF4.out (List.sublist_cons_self _ _)
        have hd5 : Et m g p r w4 w5 := .of_only ho5 (.inr (.inl rfl))
        have how5 := own_et HOW4.out HQ4.out hd5
        have HD5 := Lib.hid (HD4.out.trans hd5)
        obtain ⟨rest', e1', e2'⟩ := adm_next HE.out (by show R.fits t.N (R.tot G) ((t.W j).length : Int) = true; rw [HX.out, hfit])
        have HE6 := Lib.hid (And.intro e1' e2')
        have bx := box_new w5 100 (.int .i64 (j : Int)) (.int .i64 y2)
        obtain ⟨w6, hw6⟩ : ∃ w6, w5.alloc (.cells #[.int .i64 (j : Int), .int .i64 y2] 100) = w6 := ⟨_, rfl⟩
        have hb6 : Below w5.heap.size w5 w6 := by rw [← hw6]; exact (Below.refl _ _).alloc (Nat.le_refl _) _
        rw [hw6] at bx
        have q0 := bx.c0
        obtain ⟨wb, hwb⟩ : ∃ wb, w6.alloc (.cells #[.int .i64 (j : Int)] 3) = wb := ⟨_, rfl⟩
        have HWB := Lib.hid (show Below w5.heap.size w5 wb by rw [← hwb]; exact hb6.alloc hb6.size _)
        have src := K.sr_one K.ci w6 3 (j : Int)
        rw [show (K.ci (j : Int)).toArray = #[.int .i64 (j : Int)] from rfl, hwb] at src
        have hownb := K.own_below how5 HWB.out
        have HBS := Lib.hid (show w.heap.size ≤ wb.heap.size from Nat.le_trans HD5.out.size HWB.out.size)
        have HQ6 := Lib.hid (hq5.below HWB.out)
        have HF6 := Lib.hid hf6
        have HD6 := Lib.hid (HD5.out.trans (.of_below HWB.out))
        obtain ⟨L, hLL⟩ : ∃ L, outs.length = L := ⟨_, rfl⟩
        have HLL := Lib.hid hLL
        have b2 : L + 1 ≤ 100000 := by have h1 := HL.out; have h2 := HN.out; omega
        unfold Ow at hownb
        rw [hLL] at hownb
        have HOWB := Lib.hid hownb
        clear hl5 ho5 hq5 hf6 hd5 how5 e1' e2' hLL bx hb6 c1
        rw [HLL.out]
        go_wp2_with (first
          | (refine K.wpList_append_one K.ki (by decide) rfl _ _ rfl w.heap.size (.slice XO L KO) outs (j : Int) L HLL.out rfl hownb _ 1 rfl src b2 HBS.out ?_
             intro X7 k7 w7 hown7 hgr7 hwh7
             have HO7 := Lib.hid hown7
             have HG7 := Lib.hid hgr7
             clear hown7 hgr7 hwh7 hownb src q0 hwb hw6))
        have hlen : (outs ++ [(j : Int)]).length = L + 1 := by rw [List.length_append, HLL.out]; rfl
        have h1 := HL.out
        have h2 := HN.out
        have h3 := HLL.out
        simp only [List.length_cons] at h1
        refine ⟨⟨_, rfl, Lib.hid ⟨S, G ++ [x], outs ++ [(j : Int)], rest', by have := HE6.out.1; rw [show t.W (((j : Int), y2) : It).1.toNat = x from HX.out] at this; exact this, HE6.out.2, by rw [hlen]; omega, by unfold Ow; rw [hlen]; exact HO7.out, HQ6.out.grown HOWB.out HG7.out, HF6.out, HD6.out.grown HG7.out (fun k hk => by obtain ⟨_, _, _, q, _⟩ := own_blk HOWB.out hk; exact q)⟩⟩, by simp only [lenV]; omega⟩
end
end Go.Proofs.Ytneimdjgbblaoaa
