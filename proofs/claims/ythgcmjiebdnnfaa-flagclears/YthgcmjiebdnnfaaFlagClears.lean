/-
  PROVED: the Go function detentlaw12.FlagClears returns true for every input, and each argument reads behind the call as it read before (Rows.FlagClearsSaid). No condition.
-/
import Derived.Test.YthgcmjiebdnnfaaRows
import Derived.Test.YthgcmjiebdnnfaaFgL
import Derived.WalkKit
import Derived.ProofKit
import Derived.OpenShut
import Derived.ShutString
import Derived.ChangeOld
import Derived.Below
namespace Go.Proofs.Ythgcmjiebdnnfaa.flagClears
open Go.ChangeShapes Go.WideShapes Go.ChangeAt Go.RowKit
open Go.ChangeMaps (open_string shut_string)
set_option linter.unusedVariables false

theorem own : ownKnob Try.prog.godebug = none := by kernel_rfl
theorem laidOut : laidOutB Try.prog = true := by kernel_rfl

/-- WHAT THE WALK IS TOLD OF A SLICE OF INTEGERS THAT CAME IN: it is nil; or it leads to a row of 'cap' cells, the numbers 'zs' (the first 'len' are its elements, the rest its spare room), each fitting its kind. -/
def IsRow (k : IntKind) (w : World) (a : Option Addr) (len cap : Nat) (zs : List Int) : Prop :=
  (a = none ∧ len = 0 ∧ cap = 0 ∧ zs = []) ∨
  ∃ x, a = some x ∧ len ≤ cap ∧ cap ≤ maxLen ∧ zs.length = cap ∧ (∀ i, i < zs.length → w.cell? (x.add i) = some (.int k (zs.getD i 0))) ∧ ∀ n ∈ zs, (Lit.int k n).wf = true

def Post (w : World) (e : Ending) (w' : World) : Prop := e = .returned (.bool true) ∧ Below w.heap.size w w'

/-- the first one that is met, counted from 1; 0: none -/
def fi (h : Nat → Bool) : Nat → Nat
  | 0 => 0
  | t + 1 => if fi h t = 0 ∧ h t = true then t + 1 else fi h t
theorem fi_zero {h : Nat → Bool} : ∀ {t : Nat}, fi h t = 0 → ∀ j, j < t → h j = false
  | 0, _, j, hj => by omega
  | t + 1, e, j, hj => by
    unfold fi at e
    split at e
    · omega
    · rename_i c
      by_cases hjt : j = t
      · subst hjt
        cases hh : h j with
        | false => rfl
        | true => exact absurd ⟨e, hh⟩ c
      · exact fi_zero e j (by omega)
theorem fi_pos {h : Nat → Bool} : ∀ {t k : Nat}, fi h t = k + 1 → k < t ∧ h k = true ∧ ∀ j, j < k → h j = false
  | 0, k, e => by simp [fi] at e
  | t + 1, k, e => by
    unfold fi at e
    split at e
    · rename_i c
      obtain rfl : t = k := by omega
      exact ⟨by omega, c.2, fi_zero c.1⟩
    · obtain ⟨h1, h2, h3⟩ := fi_pos e
      exact ⟨by omega, h2, h3⟩

/-- what the tasks want -/
def vq (q : Nat → Int) (j : Nat) : Wi := (q j, 1)
/-- is it among the bits? -/
def hq (q : Nat → Int) (x : Int) (j : Nat) : Bool := bits .and .u32 (q j) x != 0
theorem hit_q {q : Nat → Int} {x : Int} {n j : Nat} {W : Int → Wi} {m c : Bool} {L : List It} (hW : Wants W n (vq q)) (hj : j < n) (hx : U x) (hu : U (q j)) :
    hit ⟨false, m, c, x, L, W⟩ (((j + 1 : Nat) : Int), 1) = hq q x j := by
  unfold hit hq
  show met x (W ((j + 1 : Nat) : Int)) = _
  rw [hW j hj]
  unfold met vq
  simp only [true_or, and_true]
  rw [and_comm32 hx hu]
  rw [Bool.eq_iff_iff]; simp
theorem row_none {q : Nat → Int} {x : Int} {n : Nat} {W : Int → Wi} (hW : Wants W n (vq q)) (hx : U x) (hu : ∀ j, j < n → U (q j)) (h : ∀ j, j < n → hq q x j = false) :
    raise ⟨false, true, true, 0, row n, W⟩ [x] = (⟨false, true, true, x, row n, W⟩, []) := by
  unfold raise
  rw [show ors (St.x ⟨false, true, true, 0, row n, W⟩) [x] = x from zero_or hx]
  have hn : none' ⟨false, true, true, x, row n, W⟩ (row n).length := fun y hy => by
    rw [show (St.L ⟨false, true, true, x, row n, W⟩) = row n from rfl, List.take_length] at hy
    obtain ⟨j, hj, rfl⟩ := row_mem hy
    rw [hit_q hW hj hx (hu j hj)]; exact h j hj
  show wake ⟨false, true, true, x, row n, W⟩ = _
  unfold wake
  rw [if_pos rfl, if_neg (none_end hn)]
theorem row_some {q : Nat → Int} {x : Int} {n k : Nat} {W : Int → Wi} (hW : Wants W n (vq q)) (hx : U x) (hu : ∀ j, j < n → U (q j)) (hk : k < n) (h1 : hq q x k = true) (h : ∀ j, j < k → hq q x j = false) :
    raise ⟨false, true, true, 0, row n, W⟩ [x] = (⟨false, true, true, 0, (row n).eraseIdx k, W⟩, [(((k + 1 : Nat) : Int), x)]) := by
  unfold raise
  rw [show ors (St.x ⟨false, true, true, 0, row n, W⟩) [x] = x from zero_or hx]
  have hn : none' ⟨false, true, true, x, row n, W⟩ k := fun y hy => by
    obtain ⟨j, hj, e⟩ := List.getElem_of_mem hy
    rw [List.length_take] at hj
    have hjn : j < n := by omega
    have e2 : (row n)[j]? = some y := by
      rw [← e, List.getElem_take]
      exact List.getElem?_eq_getElem (by rw [row_len]; exact hjn)
    rw [row_get hjn] at e2
    injection e2 with e2
    rw [← e2, hit_q hW hjn hx (hu j hjn)]; exact h j (by omega)
  have hi := none_idx (S := ⟨false, true, true, x, row n, W⟩) hn (row_get hk) (by rw [hit_q hW hk hx (hu k hk)]; exact h1)
  show wake ⟨false, true, true, x, row n, W⟩ = _
  unfold wake
  rw [if_pos rfl, hi, if_pos (by rw [row_len]; exact hk)]
  rw [List.getD_eq_getElem?_getD, List.getElem?_map]
  rw [show (St.L ⟨false, true, true, x, row n, W⟩) = row n from rfl, row_get hk]; rfl

set_option maxHeartbeats 1600000 in
theorem walkOut (A : Option Addr) (n cap : Nat) (x : Int) (w : World) (h1 : n ≤ 9223372036854775807) (h : ¬ n ≤ 16) :
    Calls Try.prog 6 #[.slice A n cap, .int .u32 x] w (Post w) := by
  have t1 : decide ((16 : Int) < (n : Int)) = true := by simp; omega
  clear h
  go_enter Try.func6, Try.ntmps6
  go_wp2_with fail
  refine (known_ok w).mono ?_
  rintro e w0 ⟨rfl, hb0⟩
  go_wp2
  go_ret
  exact ⟨rfl, hb0⟩

set_option maxHeartbeats 4000000 in
theorem walkIn (A : Option Addr) (n cap : Nat) (x : Int) (q : Nat → Int) (w : World) (hs : Uf w A n q) (hx : U x) (hn : n ≤ 16) :
    Calls Try.prog 6 #[.slice A n cap, .int .u32 x] w (Post w) := by
  have HS := Lib.hid hs
  have HX := Lib.hid hx
  clear hs hx
  go_enter Try.func6, Try.ntmps6
  go_wp2_with fail
  refine (known_ok w).mono ?_
  rintro e w0 ⟨rfl, hb0⟩
  go_wp2_with fail
  refine (new_at w w0 false true true 0 hb0).mono ?_
  rintro e w1 ⟨s, p, rfl, h1, _, _, _⟩
  have H1 := Lib.hid h1
  clear hb0 h1
  go_wp2
  go_loopw [6, 7] (fun f i wr => ∃ (t : Nat) (W : Int → Wi), t ≤ n ∧ f = .int .i64 ((fi (hq q x) t : Nat) : Int) ∧ i = .int .i64 (t : Int) ∧ Hid (∀ j, j < t → q j ≠ 0) ∧ Hid (Wants W t (vq q)) ∧ At w s p ⟨false, true, true, 0, row t, W⟩ wr) (fun _ i _ => n - (intOf i).toNat)
  case atStart => exact ⟨0, _, Nat.zero_le _, rfl, rfl, Lib.hid (fun j hj => absurd hj (by omega)), Lib.hid (fun j hj => absurd hj (by omega)), H1.out⟩
  case round =>
    obtain ⟨t, W, ht, rfl, rfl, HZ, HW, h2⟩ := hrel
    have H2 := Lib.hid h2
    by_cases hlt : t < n
    · have hlt' : (t : Int) < (n : Int) := by omega
      obtain ⟨b, o, rfl, hb1, hb3⟩ := (HS.out.below (h2.b)) (by omega)
      obtain ⟨hc, hu⟩ := hb3 t hlt
      have HU := Lib.hid hu
      obtain ⟨F, hF⟩ : ∃ F, fi (hq q x) t = F := ⟨_, rfl⟩
      have HF := Lib.hid hF
      obtain ⟨v, hv⟩ : ∃ v, q t = v := ⟨_, rfl⟩
      have HV := Lib.hid hv
      rw [hv] at hc
      rw [hF]
      by_cases hq0 : v = 0
      · have t1 : (v == 0) = true := by simpa using hq0
        have HB := Lib.hid h2.b
        clear hb3 hu h2 hF hv hq0
        go_wp2
        go_ret
        exact ⟨rfl, HB.out⟩
      · have t1 : (v == 0) = false := by simpa using hq0
        have hp : perm (vq q t) = true := by simp [perm, vq, hv, hq0]
        have hf : Fine ⟨false, true, true, 0, row t, W⟩ := wants_fine HW.out (by omega) (fun j hj => by have := HZ.out j hj; simp [perm, vq, this])
        obtain ⟨e1, e2⟩ := wait_next (m := true) (c := true) rfl HW.out (by omega) hp HU.out
        have HW2 := Lib.hid e2
        have HWT := Lib.hid (wait_to (k := 1) ((t : Int) + 1) v (by omega) hv.symm h2 hf e1)
        have HZ2 : Hid (∀ j, j < t + 1 → q j ≠ 0) := Lib.hid (fun j hj => by
          by_cases e : j = t
          · subst e; rw [hv]; exact hq0
          · exact HZ.out j (by omega))
        have hcb := hb1
        clear hb3 hu h2 hF hv hq0 hp hf e1 e2
        have a1 : IntKind.i64.wrap ((t : Int) + 1) = ((t + 1 : Nat) : Int) := by rw [IntWalk.i64_in _ (by omega)]; omega
        go_wp2_with fail
        refine HWT.out.mono ?_
        rintro e w3 ⟨rfl, h3, _⟩
        have H3 := Lib.hid h3
        obtain ⟨b2, o2, e2, hb2, hb4⟩ := (HS.out.below h3.b) (by omega)
        injection e2 with e2; injection e2 with e2 e3
        subst e2 e3
        have hc3 := (hb4 t hlt).1
        rw [HV.out] at hc3
        obtain ⟨u, hu⟩ : ∃ u, bits .and .u32 v x = u := ⟨_, rfl⟩
        have HQ : Hid (hq q x t = (u != 0)) := Lib.hid (by unfold hq; rw [HV.out, hu])
        clear hb4 h3 HWT hc hb2
        by_cases hF0 : F = 0
        · have t3 : ((F : Int) == 0) = true := by simpa using hF0
          by_cases hu0 : u = 0
          · have t4 : (u != 0) = false := by simp [hu0]
            have HN : Hid (fi (hq q x) (t + 1) = F) := Lib.hid (by
              show (if fi (hq q x) t = 0 ∧ hq q x t = true then t + 1 else fi (hq q x) t) = F
              rw [if_neg (by rw [HQ.out, t4]; simp), HF.out])
            clear hF0 hu0
            go_wp2
            exact ⟨⟨t + 1, _, by omega, by rw [HN.out], by go_num, HZ2, HW2, H3.out⟩, by simp [intOf]; omega⟩
          · have t4 : (u != 0) = true := by simpa using hu0
            have HN : Hid (fi (hq q x) (t + 1) = t + 1) := Lib.hid (by
              show (if fi (hq q x) t = 0 ∧ hq q x t = true then t + 1 else fi (hq q x) t) = t + 1
              rw [if_pos ⟨by rw [HF.out]; exact hF0, by rw [HQ.out, t4]⟩])
            clear hF0 hu0
            go_wp2
            exact ⟨⟨t + 1, _, by omega, by rw [HN.out]; go_num, by go_num, HZ2, HW2, H3.out⟩, by simp [intOf]; omega⟩
        · have t3 : ((F : Int) == 0) = false := by simpa using hF0
          have HN : Hid (fi (hq q x) (t + 1) = F) := Lib.hid (by
            show (if fi (hq q x) t = 0 ∧ hq q x t = true then t + 1 else fi (hq q x) t) = F
            rw [if_neg (by rw [HF.out]; exact fun c => hF0 c.1), HF.out])
          clear hF0
          go_wp2
          exact ⟨⟨t + 1, _, by omega, by rw [HN.out], by go_num, HZ2, HW2, H3.out⟩, by simp [intOf]; omega⟩
    · obtain rfl : t = n := by omega
      have HUQ : Hid (∀ j, j < t → U (q j)) := Lib.hid (fun j hj => by
        obtain ⟨b, o, _, _, hb3⟩ := HS.out (by omega)
        exact (hb3 j hj).2)
      have HFI : Hid (Fine ⟨false, true, true, 0, row t, W⟩) := Lib.hid (wants_fine HW.out hn (fun j hj => by have := HZ.out j hj; simp [perm, vq, this]))
      have HA := Lib.hid (h2.alloc (.cells #[.int .u32 x] 22))
      have HUS := Lib.hid (us_one wr s x h2.sq.lts)
      clear h2
      cases hF : fi (hq q x) t with
      | zero =>
        have HR := Lib.hid (row_none HW.out HX.out HUQ.out (fi_zero hF))
        clear hF
        go_wp2_with fail
        refine (raise_at HA.out HFI.out HUS.out (n := 1) (cap := 1) rfl (by omega) HR.out (c := 0) rfl).mono ?_
        rintro e w5 ⟨X, k, rfl, hw, h5, _⟩
        have d0 := h5.c0
        have d1 := h5.c1
        have HL := Lib.hid (len_at h5 (n := (t : Int)) (by rw [show (St.L ⟨false, true, true, x, row t, W⟩) = row t from rfl, row_len]))
        have HB := Lib.hid h5.b
        simp only at d1
        clear HA HUS hw h5
        go_wp2_with fail
        refine HL.out.mono ?_
        rintro e w7 ⟨rfl, rfl⟩
        go_wp2
        go_ret
        exact ⟨rfl, HB.out⟩
      | succ k =>
        obtain ⟨hk, hk1, hk2⟩ := fi_pos hF
        have HR := Lib.hid (row_some HW.out HX.out HUQ.out hk hk1 hk2)
        have HK := Lib.hid hk
        clear hF hk hk1 hk2
        go_wp2_with fail
        refine (raise_at HA.out HFI.out HUS.out (n := 1) (cap := 1) rfl (by omega) HR.out (c := 1) rfl).mono ?_
        rintro e w5 ⟨X, kk, rfl, hw, h5, _⟩
        obtain ⟨g, rfl, q0, q1⟩ := hw.one
        have d0 := h5.c0
        have d1 := h5.c1
        have hg := (row_good (t := t) hn).erase k
        have hgo := (row_good (t := t) hn).out (row_get HK.out)
        have HL := Lib.hid (len_at h5 (n := (t : Int) - 1) (by
          show (((row t).eraseIdx k).length : Int) = _
          rw [List.length_eraseIdx_of_lt (by rw [row_len]; exact HK.out), row_len]; have := HK.out; omega))
        have HH := Lib.hid (has_at h5 hg ((k + 1 : Nat) : Int) (r := false) (decide_eq_false (not_pos_lt hgo)))
        simp only at d1 q0 q1
        have a2 : IntKind.i64.wrap ((t : Int) - 1) = (t : Int) - 1 := IntWalk.i64_in _ (by omega)
        clear HA HUS hw h5 hg hgo
        go_wp2_with fail
        refine HL.out.mono ?_
        rintro e w7 ⟨rfl, rfl⟩
        go_wp2_with fail
        refine HH.out.mono ?_
        rintro e w8 ⟨rfl, h8, _⟩
        go_wp2
        go_ret
        exact ⟨rfl, h8.b⟩

/-! ### the walk -/
theorem walk (a0 : Option Addr) (len0 cap0 : Nat) (z0 : List Int) (a1 : Int) (w : World) (w0 : IsRow .u32 w a0 len0 cap0 z0) (w1 : (Lit.int .u32 a1).wf = true) :
    Calls Try.prog 6 #[.slice a0 len0 cap0, .int .u32 a1] w fun e w' => e = .returned (.bool true) ∧ Below w.heap.size w w' := by
  obtain ⟨h1, q, h2⟩ := uf_of w0
  by_cases h : len0 ≤ 16
  · exact walkIn a0 len0 cap0 a1 q w h2 (u_of w1) h
  · exact walkOut a0 len0 cap0 a1 w h1 h

/-! ### THE ROW's STEP: WRITTEN OUT: LEAVE IT -/
set_option maxRecDepth 100000 in
theorem lifted (os : Os) (started : os.Started) (H : Type) (enc : TypeId × Value → H) :
    ReturnsInHanded {} Try.checked os 6 .any (Rows.flagClearsSpec.pre6 enc Try.prog Try.f6 Rows.flagClearsRow.domain false) (Rows.flagClearsSpec.post enc Try.prog Try.f6 false true false false) := by
  refine returnsInHanded_of_change (C := Try.checked) own started (by kernel_rfl) Try.func6
    (ChangeSpec.witness6 (enc := enc) (C := Try.checked) false ⟨#[], #[.slice none 0 0, .int .u32 0], []⟩ 8 (by kernel_rfl) (by kernel_rfl) (by kernel_rfl) (by kernel_rfl)) ?_
  intro W base args ds gs before hval0 hW hcnd _
  have hval : ∀ (j : Nat) t v, Try.f6.params[j]? = some t → args[j]? = some v → Value.okWide Try.prog W .any base t v := hval0
  have hW' := hW
  obtain ⟨p, q, hA0, hV, rfl, hfz, hnd⟩ := hW
  have hA : DataW.TrodAll enc Try.prog W 0 (fun _ => true) true Try.f6.params.toList args.toList ds p := hA0
  rw [Try.params6] at hA hval
  obtain ⟨v0, vs0, d0, ds0, p0, q0, hargs, rfl, rfl, h0, r0⟩ := trodAll_cons hA
  obtain ⟨v1, vs1, d1, ds1, p1, q1, rfl, rfl, rfl, h1, r1⟩ := trodAll_cons r0
  obtain ⟨rfl, rfl, rfl⟩ := trodAll_nil r1
  obtain rfl : args = #[v0, v1] := by cases args; simp_all
  obtain ⟨rfl, rfl⟩ := trodVars_none hV
  obtain ⟨a0, len0, cap0, rfl⟩ := okWide_slice Try.underlying29 (hval 0 29 v0 rfl rfl)
  have k0 := h0
  have lt0 : ∀ x ∈ p0, x.block < W.heap.size := by obtain ⟨m, hm⟩ := k0; exact DataW.trod_lt m _ _ _ hm
  obtain ⟨z0, w0⟩ : ∃ zs, IsRow .u32 W a0 len0 cap0 zs := by
    obtain ⟨fuel, hf⟩ := h0
    rcases open_ints Try.underlying29 Try.underlying22 (by kernel_rfl) hf with ⟨hcs, _⟩ | ⟨x, l, c, zs, hcs, _, hl, hm, hz, _, hcell, hwz⟩
    · simp [Value.cells] at hcs
      obtain ⟨rfl, rfl, rfl⟩ := hcs
      exact ⟨[], .inl ⟨rfl, rfl, rfl, rfl⟩⟩
    · simp [Value.cells] at hcs
      obtain ⟨rfl, rfl, rfl⟩ := hcs
      exact ⟨zs, .inr ⟨_, rfl, hl, hm, by simpa using hz, hcell, hwz⟩⟩
  obtain ⟨a1, rfl, rfl, rfl, w1⟩ := open_int Try.underlying22 (hval 1 22 v1 rfl rfl) h1
  clear hA0 hval0
  refine (walk a0 len0 cap0 z0 a1 W w0 w1).mono fun e W' ⟨he, bel⟩ => ?_
  subst he
  exact ⟨_, rfl, _, _, _, [], _, [], hW', trodAll_mk1 (shut_bool Try.underlying4 _), (trodAll_cons_mk (Below.trod laidOut (by kernel_rfl) (of_decide_eq_true (by kernel_rfl)) k0 bel lt0) (trodAll_cons_mk (shut_int Try.underlying22 w1) trodAll_mk0)), rfl, bel.frame _, fun h => by cases h⟩

theorem over : Rows.flagClearsRow.holds Try.pinned (OpenSpec.ofChange Rows.flagClearsSpec) :=
  OpenClaim.holds_of_wide 6 Try.f6 rfl rfl rfl rfl rfl rfl rfl ⟨rfl, rfl, rfl, rfl, rfl⟩ rfl rfl rfl rfl rfl (by kernel_rfl) Try.func6 (by kernel_rfl)
    (of_decide_eq_true (by kernel_rfl)) (by unfold Func.isWrapper; first | (rw [if_pos (by decide +kernel)]; kernel_rfl) | (rw [if_neg (by decide +kernel)]; exact ⟨rfl, rfl⟩))
    (fun os started H enc _ => lifted os started H enc)

/-- ████ THE STATEMENT ████ -/
theorem proved : Rows.FlagClearsSaid := over
#print axioms proved
end Go.Proofs.Ythgcmjiebdnnfaa.flagClears
namespace Go.Proofs.Ythgcmjiebdnnfaa
theorem flagClears_holds : Rows.FlagClearsSaid := flagClears.proved
end Go.Proofs.Ythgcmjiebdnnfaa
