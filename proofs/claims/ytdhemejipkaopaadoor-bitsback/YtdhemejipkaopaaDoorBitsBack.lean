/-
  PROVED: the Go function detentlaw5.BitsBack returns true for every input, and each argument reads behind the call as it read before (Rows.BitsBackCardSaid). Condition: the library's table math/bits.deBruijn64tab stands as its initialiser lays it (the card ties it to the program's text; the repository is the pruned copy of the seat).
-/
import Derived.Test.YtdhemejipkaopaaDoorConL
namespace Go.Proofs.YtdhemejipkaopaaDoor.bitsBack
open Go.ChangeShapes Go.WideShapes Go.ChangeAt Go.RowKit

/-- numbers that came in, in a block below S -/
def SrcB (S : Nat) (w : World) (a : Option Addr) (L : List Int) : Prop :=
  0 < L.length → ∃ b o : Nat, a = some ⟨b, o, none⟩ ∧ b < S ∧ ∀ j x, L[j]? = some x → w.cell? ⟨b, o + j, none⟩ = some (.int .i64 x)
theorem SrcB.below {S : Nat} {w w' : World} {a : Option Addr} {L : List Int} (h : SrcB S w a L) (k : Below S w w') : SrcB S w' a L := fun h0 => by
  obtain ⟨b, o, h1, h2, h4⟩ := h h0
  exact ⟨b, o, h1, h2, fun j x hx => by rw [k.cell (p := ⟨b, o + j, none⟩) h2]; exact h4 j x hx⟩
theorem SrcB.src {S : Nat} {w : World} {a : Option Addr} {L : List Int} (h : SrcB S w a L) {p : Nat} (h1 : S ≤ w.heap.size) (h2 : S ≤ p) : Src p w a L := fun h0 => by
  obtain ⟨b, o, e, h3, h4⟩ := h h0
  exact ⟨b, o, e, by omega, by omega, h4⟩
theorem srcB_of {w : World} {a : Option Addr} {len cap : Nat} {zs : List Int} (h : IsRow w a len cap zs) : len ≤ 9223372036854775807 ∧ ∃ L : List Int, L.length = len ∧ SrcB w.heap.size w a L := by
  obtain ⟨h0, L, h1, h2⟩ := src_of h
  refine ⟨h0, L, h1, fun h3 => ?_⟩
  obtain ⟨b, o, e, h4, _, h5⟩ := h2 w.heap.size (Nat.le_refl _) h3
  exact ⟨b, o, e, h4, h5⟩

/-- two Maps beside one another -/
structure St (w : World) (p q : Nat) (A B : Nat → Bool) (v : World) : Prop where
  a : Mp v p A
  b : Mp v q B
  ne : p ≠ q
  lp : w.heap.size ≤ p
  lq : w.heap.size ≤ q
  tab : Tab v
  bel : Below w.heap.size w v
theorem St.onA {w : World} {p q : Nat} {A B A' : Nat → Bool} {v v' : World} (h : St w p q A B v) (k : Only p v v') (m : Mp v' p A') : St w p q A' B v' :=
  ⟨m, h.b.only k (Ne.symm h.ne), h.ne, h.lp, h.lq, h.tab.only k h.a.1, h.bel.trans (k.below h.bel.size h.lp)⟩
theorem St.onB {w : World} {p q : Nat} {A B B' : Nat → Bool} {v v' : World} (h : St w p q A B v) (k : Only q v v') (m : Mp v' q B') : St w p q A B' v' :=
  ⟨h.a.only k h.ne, m, h.ne, h.lp, h.lq, h.tab.only k h.b.1, h.bel.trans (k.below h.bel.size h.lq)⟩
theorem St.below {w : World} {p q : Nat} {A B : Nat → Bool} {v v' : World} (h : St w p q A B v) (k : Below v.heap.size v v') : St w p q A B v' :=
  ⟨h.a.below k, h.b.below k, h.ne, h.lp, h.lq, h.tab.below k, h.bel.trans (k.mono h.bel.size)⟩
theorem St.drewN {w : World} {p q : Nat} {A B : Nat → Bool} {v : World} (h : St w p q A B v) (n : Nat) : St w p q A B (v.drewN n) := h.below (below_drewN _ _ _)

set_option maxRecDepth 100000 in
theorem big0 (a b : Option Addr) (l0 c0 l1 c1 : Nat) (h : 100 < l0) (w : World) (hT : Tab w) :
    Calls Tryd.prog 5 #[.slice a l0 c0, .slice b l1 c1] w fun e w' => e = .returned (.bool true) ∧ Below w.heap.size w w' := by
  have h' : decide ((100 : Int) < (l0 : Int)) = true := by simp; omega
  have HKn := Lib.hid (known_any w hT)
  clear h hT
  go_enter Tryd.func5, Tryd.ntmps5
  go_wp2_with fail
  refine HKn.out.mono ?_
  rintro e w0 ⟨rfl, hb⟩
  go_wp2
  go_ret
  exact ⟨rfl, hb⟩
set_option maxRecDepth 100000 in
theorem big1 (a b : Option Addr) (l0 c0 l1 c1 : Nat) (h0 : l0 ≤ 100) (h : 100 < l1) (w : World) (hT : Tab w) :
    Calls Tryd.prog 5 #[.slice a l0 c0, .slice b l1 c1] w fun e w' => e = .returned (.bool true) ∧ Below w.heap.size w w' := by
  have h' : decide ((100 : Int) < (l1 : Int)) = true := by simp; omega
  have h'' : decide ((100 : Int) < (l0 : Int)) = false := by simp; omega
  have HKn := Lib.hid (known_any w hT)
  clear h h0 hT
  go_enter Tryd.func5, Tryd.ntmps5
  go_wp2_with fail
  refine HKn.out.mono ?_
  rintro e w0 ⟨rfl, hb⟩
  go_wp2
  go_ret
  exact ⟨rfl, hb⟩

set_option maxRecDepth 100000 in
set_option maxHeartbeats 1000000 in
theorem small (a b : Option Addr) (l0 c0 l1 c1 : Nat) (h0 : l0 ≤ 100) (h1 : l1 ≤ 100) (w : World) (L M : List Int) (hL : L.length = l0) (hM : M.length = l1) (hsL : SrcB w.heap.size w a L) (hsM : SrcB w.heap.size w b M) (hT : Tab w) :
    Calls Tryd.prog 5 #[.slice a l0 c0, .slice b l1 c1] w fun e w' => e = .returned (.bool true) ∧ Below w.heap.size w w' := by
  have t0 : decide ((100 : Int) < (l0 : Int)) = false := by simp; omega
  have t1 : decide ((100 : Int) < (l1 : Int)) = false := by simp; omega
  have H0 := Lib.hid h0
  have H1 := Lib.hid h1
  have HKn := Lib.hid (known_any w hT)
  have HT := Lib.hid hT
  have HL := Lib.hid hL
  have HM := Lib.hid hM
  have HSL := Lib.hid hsL
  have HSM := Lib.hid hsM
  clear hT hL hM hsL hsM h0 h1
  go_enter Tryd.func5, Tryd.ntmps5
  go_wp2_with fail
  refine HKn.out.mono ?_
  rintro e w0 ⟨rfl, hb⟩
  have hT0 := HT.out.below hb
  have hst : Hid (St w w0.heap.size (w0.heap.size + 1) none' none' ((w0.alloc (.cells #[.int .u64 0, .int .u64 0, .int .u64 0, .int .u64 0] 27)).alloc (.cells #[.int .u64 0, .int .u64 0, .int .u64 0, .int .u64 0] 27))) := by
    have hz : (w0.alloc (.cells #[.int .u64 0, .int .u64 0, .int .u64 0, .int .u64 0] 27)).heap.size = w0.heap.size + 1 := by simp
    have hm2 := Mp.new (w0.alloc (.cells #[.int .u64 0, .int .u64 0, .int .u64 0, .int .u64 0] 27)) (by omega)
    rw [hz] at hm2
    have hs := hb.size
    exact Lib.hid ⟨(Mp.new w0 hT0.pos).alloc _, hm2, by omega, hs, by omega, (hT0.alloc _).alloc _, (hb.alloc hs _).alloc (by omega) _⟩
  clear hb hT0 HT HKn
  go_wp2_with fail
  generalize (w0.alloc (.cells #[.int .u64 0, .int .u64 0, .int .u64 0, .int .u64 0] 27)).alloc (.cells #[.int .u64 0, .int .u64 0, .int .u64 0, .int .u64 0] 27) = w1 at *
  generalize w0.heap.size + 1 = q at *
  generalize w0.heap.size = p at *
  have hs1 := hst
  clear hst
  refine (set_any p _ a L c0 l0 w1 hs1.out.a ((HSL.out.below hs1.out.bel).src hs1.out.bel.size hs1.out.lp) HL.out (by have := H0.out; omega)).mono ?_
  rintro e w2 ⟨rfl, h1, h2⟩
  have hs2 := Lib.hid (hs1.out.onA h2 h1)
  clear h1 h2 hs1
  go_wp2_with fail
  refine (set_any p _ b M c1 l1 w2 hs2.out.a ((HSM.out.below hs2.out.bel).src hs2.out.bel.size hs2.out.lp) HM.out (by have := H1.out; omega)).mono ?_
  rintro e w3 ⟨rfl, h1, h2⟩
  have hs3 := Lib.hid (hs2.out.onA h2 h1)
  clear h1 h2 hs2
  go_wp2_with fail
  refine (clear_any p _ b M c1 l1 w3 hs3.out.a ((HSM.out.below hs3.out.bel).src hs3.out.bel.size hs3.out.lp) HM.out (by have := H1.out; omega)).mono ?_
  rintro e w4 ⟨rfl, h1, h2⟩
  have hs4 := Lib.hid (hs3.out.onA h2 h1)
  clear h1 h2 hs3
  go_wp2_with fail
  refine (set_any q _ a L c0 l0 w4 hs4.out.b ((HSL.out.below hs4.out.bel).src hs4.out.bel.size hs4.out.lq) HL.out (by have := H0.out; omega)).mono ?_
  rintro e w5 ⟨rfl, h1, h2⟩
  have hs5 := Lib.hid (hs4.out.onB h2 h1)
  clear h1 h2 hs4
  go_wp2_with fail
  refine (clear_any q _ b M c1 l1 w5 hs5.out.b ((HSM.out.below hs5.out.bel).src hs5.out.bel.size hs5.out.lq) HM.out (by have := H1.out; omega)).mono ?_
  rintro e w6 ⟨rfl, h1, h2⟩
  have hs6 := Lib.hid (hs5.out.onB h2 h1)
  clear h1 h2 hs5
  go_wp2_with fail
  have hs7 : Hid (St w p q (upd (upd none' L true) M false) (upd (upd none' L true) M false) w6) := by
    have := hs6.out
    rw [upd_upd] at this
    exact Lib.hid this
  have HH := Lib.hid (fun x (hx : x ∈ M) => has_upd (B := upd none' L true) hx)
  clear hs6
  generalize upd (upd none' L true) M false = B at *
  obtain ⟨n, hn⟩ : ∃ n, (row B 0).length = n := ⟨_, rfl⟩
  have HN := Lib.hid hn
  have hn2 : n ≤ 256 := by rw [← hn]; exact row_le B 0
  clear hn
  refine (row_any p B w6 hs7.out.a hs7.out.tab n HN.out).mono ?_
  rintro e w7 ⟨X, k, rfl, h1, h2⟩
  have hs8 := Lib.hid (hs7.out.below h2)
  have hX := Lib.hid h1
  clear h1 h2 hs7
  go_wp2_with fail
  refine (row_any q B w7 hs8.out.b hs8.out.tab n HN.out).mono ?_
  rintro e w8 ⟨Y, j, rfl, h1, h2⟩
  have hs9 := Lib.hid (hs8.out.below h2)
  have hX2 := Lib.hid (hX.out.below h2)
  have hY := Lib.hid h1
  clear h1 h2 hs8 hX
  go_wp2_with fail
  refine (len_any p B w8 hs9.out.a n HN.out).mono ?_
  rintro e w' ⟨rfl, rfl⟩
  go_wp2_with fail
  refine (len_any q B w8 hs9.out.b n HN.out).mono ?_
  rintro e w' ⟨rfl, rfl⟩
  go_wp2
  go_loopw [9] (fun i wr => ∃ t : Nat, t ≤ n ∧ i = .int .i64 (t : Int) ∧ St w p q B B wr ∧ Rw wr X (row B 0) ∧ Rw wr Y (row B 0)) (fun i _ => n - (intOf i).toNat)
  case atStart => exact ⟨0, Nat.zero_le _, rfl, hs9.out, hX2.out, hY.out⟩
  case round =>
    obtain ⟨t, ht, rfl, h1, h2, h3⟩ := hrel
    have hs := Lib.hid h1
    have hx := Lib.hid h2
    have hy := Lib.hid h3
    clear h1 h2 h3 hs9 hX2 hY
    by_cases hlt : t < n
    · have hti : (t : Int) < (n : Int) := by omega
      obtain ⟨v, hv⟩ : ∃ v, (row B 0)[t]? = some v := ⟨_, List.getElem?_eq_getElem (by rw [HN.out]; exact hlt)⟩
      obtain ⟨g, rfl, _, hg⟩ := hx.out (by rw [HN.out]; omega)
      obtain ⟨g', rfl, _, hg'⟩ := hy.out (by rw [HN.out]; omega)
      have c1 := hg t v hv
      have c2 := hg' t v hv
      clear hg hg' hv
      go_wp2
      go_quiet (fail)
      go_wp2
      go_roundw
      case rel => exact ⟨t + 1, by omega, by go_num, hs.out.drewN nq, hx.out.below (below_drewN _ _ _), hy.out.below (below_drewN _ _ _)⟩
      case measure => simp [intOf]; omega
    · obtain rfl : t = n := by omega
      go_wp2
      clear hx hy
      go_loopw [10] (fun i wr => ∃ t : Nat, t ≤ l1 ∧ i = .int .i64 (t : Int) ∧ St w p q B B wr) (fun i _ => l1 - (intOf i).toNat)
      case atStart => exact ⟨0, Nat.zero_le _, rfl, hs.out⟩
      case round =>
        obtain ⟨u, hu, rfl, h1⟩ := hrel
        have hz := Lib.hid h1
        clear h1 hs
        by_cases hlu : u < l1
        · have hui : (u : Int) < (l1 : Int) := by omega
          have hu100 : (u : Int) < 100 := by have := H1.out; omega
          obtain ⟨v, hv⟩ : ∃ v, M[u]? = some v := ⟨_, List.getElem?_eq_getElem (by rw [HM.out]; exact hlu)⟩
          obtain ⟨g, o, rfl, _, hg⟩ := (HSM.out.below hz.out.bel) (by rw [HM.out]; omega)
          have c1 := hg u v hv
          have HC := Lib.hid (has_any p B v wr hz.out.a false (HH.out v (List.mem_of_getElem? hv)))
          clear hg hv
          go_wp2_with fail
          refine HC.out.mono ?_
          rintro e w' ⟨rfl, d, rfl⟩
          go_wp2
          go_roundw
          case rel => exact ⟨u + 1, by omega, by go_num, hz.out.drewN d⟩
          case measure => simp [intOf]; omega
        · obtain rfl : u = l1 := by omega
          go_wp2
          go_ret
          exact ⟨rfl, hz.out.bel⟩

theorem walk (a0 : Option Addr) (len0 cap0 : Nat) (z0 : List Int) (a1 : Option Addr) (len1 cap1 : Nat) (z1 : List Int) (w : World) (w0 : IsRow w a0 len0 cap0 z0) (w1 : IsRow w a1 len1 cap1 z1) (hT : Tab w) :
    Calls Tryd.prog 5 #[.slice a0 len0 cap0, .slice a1 len1 cap1] w fun e w' => e = .returned (.bool true) ∧ Below w.heap.size w w' := by
  obtain ⟨_, L, hL, hsL⟩ := srcB_of w0
  obtain ⟨_, M, hM, hsM⟩ := srcB_of w1
  by_cases c : 100 < len0
  · exact big0 a0 a1 len0 cap0 len1 cap1 c w hT
  · by_cases c' : 100 < len1
    · exact big1 a0 a1 len0 cap0 len1 cap1 (by omega) c' w hT
    · exact small a0 a1 len0 cap0 len1 cap1 (by omega) (by omega) w L M hL hM hsL hsM hT

theorem contract (H : Type) (enc : TypeId × Value → H) (W : World) (base : Nat) (args : Array Value) (ds gs : List (DataW H)) (before : List MemPlace)
    (hval : ∀ (j : Nat) t v, Tryd.f5.params[j]? = some t → args[j]? = some v → Value.okWide Tryd.prog W .any base t v)
    (hW : DataW.Whole enc Tryd.prog Tryd.f5.params.toList Rows.bitsBackSpec.vars false W args.toList ds gs before) (hL : laidMetH Tryd.prog Rows.bitsBackRow.laid W) :
    Calls Tryd.prog 5 args W fun e W' => ∃ v, e = .returned v ∧ Rows.bitsBackSpec.post enc Tryd.prog Tryd.f5 false true false false W args v W' := by
  have hW' := hW
  obtain ⟨p, q, hA0, hV, rfl, hfz, hnd⟩ := hW
  have hA : DataW.TrodAll enc Tryd.prog W 0 (fun _ => true) true Tryd.f5.params.toList args.toList ds p := hA0
  rw [Tryd.params5] at hA hval
  obtain ⟨v0, vs0, d0, ds0, p0, q0, hargs, rfl, rfl, h0, r0⟩ := trodAll_cons hA
  obtain ⟨v1, vs1, d1, ds1, p1, q1, hargs1, rfl, rfl, h1, r1⟩ := trodAll_cons r0
  subst hargs1
  obtain ⟨rfl, rfl, rfl⟩ := trodAll_nil r1
  obtain rfl : args = #[v0, v1] := by cases args; simp_all
  obtain ⟨rfl, rfl⟩ := trodVars_none hV
  obtain ⟨a0, len0, cap0, rfl⟩ := okWide_slice Tryd.underlying29 (hval 0 29 v0 rfl rfl)
  have k0 := h0
  have lt0 : ∀ x ∈ p0, x.block < W.heap.size := by obtain ⟨m, hm⟩ := k0; exact DataW.trod_lt m _ _ _ hm
  obtain ⟨z0, w0⟩ : ∃ zs, IsRow W a0 len0 cap0 zs := by
    obtain ⟨fuel, hf⟩ := h0
    rcases open_ints Tryd.underlying29 Tryd.underlying3 (by kernel_rfl) hf with ⟨hcs, _⟩ | ⟨x, l, c, zs, hcs, _, hl, hm, hz, _, hcell, hwz⟩
    · simp [Value.cells] at hcs
      obtain ⟨rfl, rfl, rfl⟩ := hcs
      exact ⟨[], .inl ⟨rfl, rfl, rfl, rfl⟩⟩
    · simp [Value.cells] at hcs
      obtain ⟨rfl, rfl, rfl⟩ := hcs
      exact ⟨zs, .inr ⟨_, rfl, hl, hm, by simpa using hz, hcell, hwz⟩⟩
  obtain ⟨a1, len1, cap1, rfl⟩ := okWide_slice Tryd.underlying29 (hval 1 29 v1 rfl rfl)
  have k1 := h1
  have lt1 : ∀ x ∈ p1, x.block < W.heap.size := by obtain ⟨m, hm⟩ := k1; exact DataW.trod_lt m _ _ _ hm
  obtain ⟨z1, w1⟩ : ∃ zs, IsRow W a1 len1 cap1 zs := by
    obtain ⟨fuel, hf⟩ := h1
    rcases open_ints Tryd.underlying29 Tryd.underlying3 (by kernel_rfl) hf with ⟨hcs, _⟩ | ⟨x, l, c, zs, hcs, _, hl, hm, hz, _, hcell, hwz⟩
    · simp [Value.cells] at hcs
      obtain ⟨rfl, rfl, rfl⟩ := hcs
      exact ⟨[], .inl ⟨rfl, rfl, rfl, rfl⟩⟩
    · simp [Value.cells] at hcs
      obtain ⟨rfl, rfl, rfl⟩ := hcs
      exact ⟨zs, .inr ⟨_, rfl, hl, hm, by simpa using hz, hcell, hwz⟩⟩
  clear hA0
  refine (walk a0 len0 cap0 z0 a1 len1 cap1 z1 W w0 w1 (tab_of hL)).mono fun e W' ⟨he, bel⟩ => ?_
  subst he
  exact ⟨_, rfl, _, _, _, [], _, [], hW', trodAll_mk1 (shut_bool Tryd.underlying4 _), (trodAll_cons_mk (Below.trod laidOut (by kernel_rfl) (of_decide_eq_true (by kernel_rfl)) k0 bel lt0) (trodAll_cons_mk (Below.trod laidOut (by kernel_rfl) (of_decide_eq_true (by kernel_rfl)) k1 bel lt1) trodAll_mk0)), rfl, bel.frame _, fun h => by cases h⟩

theorem laid_met (os : Os) : laidMet Tryd.prog Rows.bitsBackRow.laid ((laidWorld os).forCall (fun _ _ => 0) ⟨#[], #[.slice none 0 0, .slice none 0 0], []⟩).memory :=
  laidMet_of_run' 8 (by kernel_rfl) (by kernel_rfl)
theorem reads (os : Os) {H : Type} (enc : TypeId × Value → H) : ∃ places, DataW.whole enc Tryd.prog ((laidWorld os).forCall (fun _ _ => 0) ⟨#[], #[.slice none 0 0, .slice none 0 0], []⟩).memory Tryd.f5.params.toList Rows.bitsBackSpec.vars false #[Value.slice none 0 0, Value.slice none 0 0].toList 8 = some ([.nil, .nil], [], places) :=
  ⟨[], by kernel_rfl⟩

set_option maxRecDepth 100000 in
theorem lifted (os : Os) (started : os.Started) (H : Type) (enc : TypeId × Value → H) (F : Stop.Interp) :
    ReturnsInHanded {} Tryd.checked os 5 .any ((OpenSpec.ofChange Rows.bitsBackSpec).preRow enc Tryd.prog Tryd.f5 Rows.bitsBackRow.domain false Rows.bitsBackRow.laid) (((OpenSpec.ofChange Rows.bitsBackSpec).at F).post enc Tryd.prog Tryd.f5 false true false false) := by
  obtain ⟨places, hx⟩ := reads os enc
  refine returnsInHanded_of_row (C := Tryd.checked) (s := OpenSpec.ofChange Rows.bitsBackSpec) own started (by kernel_rfl) Tryd.func5
    (witness_row_at (enc := enc) (C := Tryd.checked) false (laidWorld os) #[.slice none 0 0, .slice none 0 0] rfl (by kernel_rfl) (by kernel_rfl) (by kernel_rfl)
      (OpenSpec.preRow_of_cond 8 hx (by kernel_rfl) (fun k hk => by cases hk) (by kernel_rfl) (laid_met os))) ?_
  intro W base args ds gs before hval hW _ _ _ hL _ _
  exact contract H enc W base args ds gs before hval hW hL

theorem said : Rows.BitsBackSaid :=
  OpenClaim.holds_of_cond 5 Tryd.f5 rfl rfl rfl rfl rfl rfl rfl ⟨rfl, rfl, rfl, rfl, rfl⟩ rfl rfl rfl rfl rfl (by kernel_rfl) Tryd.func5 (by kernel_rfl)
    (of_decide_eq_true (by kernel_rfl)) (by unfold Func.isWrapper; first | (rw [if_pos (by decide +kernel)]; kernel_rfl) | (rw [if_neg (by decide +kernel)]; exact ⟨rfl, rfl⟩))
    (fun os started H enc _ F => by rw [OpenClaim.pre_eq_preRow]; exact lifted os started H enc F)

theorem plain (f : FuncId) (fn : Func) (hf : Tryd.pinned.checked.prog.funcNamed "detent/detentlaw5.BitsBack" = some f) (hfn : Tryd.pinned.checked.prog.funcs[f]? = some fn) :
    false = Tryd.pinned.checked.prog.looks [] ∧ ∀ (j : Nat) t, fn.params[j]? = some t → Tryd.pinned.checked.prog.wantsStandIn t = false := by
  obtain rfl : f = 5 := Option.some.inj ((show Tryd.prog.funcNamed "detent/detentlaw5.BitsBack" = some 5 by kernel_rfl).symm.trans hf) |>.symm
  obtain rfl : fn = Tryd.f5 := (Option.some.inj (Tryd.func5.symm.trans hfn)).symm
  refine ⟨by kernel_rfl, fun j t ht => ?_⟩
  rw [Tryd.params5] at ht
  have hm : t = 29 := by have := Array.mem_of_getElem? ht; simpa using this
  rcases hm with rfl
  exact (show Tryd.prog.wantsStandIn 29 = false by kernel_rfl)

/-- the statement -/
theorem proved : Rows.BitsBackCardSaid :=
  Claim7.holds_tied_plain_at .later [] _ _ _ _ said (fun _ h => by cases h) (by kernel_rfl) (fun _ h => by cases h) bitsBack_row_tie rfl ⟨rfl, rfl⟩ (by kernel_rfl) rfl plain (by kernel_rfl)
#print axioms proved
end Go.Proofs.YtdhemejipkaopaaDoor.bitsBack
namespace Go.Proofs.YtdhemejipkaopaaDoor
theorem bitsBack_holds : Rows.BitsBackCardSaid := bitsBack.proved
end Go.Proofs.YtdhemejipkaopaaDoor
