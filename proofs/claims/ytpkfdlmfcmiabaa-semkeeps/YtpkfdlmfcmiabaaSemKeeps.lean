/-
  PROVED: the Go function detentlaw11.SemKeeps returns true for every input, and each argument reads behind the call as it read before (Rows.SemKeepsSaid). No condition.
-/
import Derived.Test.YtpkfdlmfcmiabaaRows
import Derived.Test.YtpkfdlmfcmiabaaSmK
import Derived.WalkKit
import Derived.ProofKit
import Derived.OpenShut
import Derived.ShutString
import Derived.ChangeOld
import Derived.Below
import Derived.Deep.Grids
namespace Go.Proofs.Ytpkfdlmfcmiabaa.semKeeps
open Go.ChangeShapes Go.WideShapes Go.ChangeAt Go.RowKit
open Go.ChangeMaps (open_string shut_string)
set_option linter.unusedVariables false

theorem own : ownKnob Try.prog.godebug = none := by kernel_rfl
theorem laidOut : laidOutB Try.prog = true := by kernel_rfl

/-- bools that came in -/
def Bin (w : World) (A : Option Addr) (n : Nat) (C : Nat → Bool) : Prop :=
  0 < n → ∃ b o : Nat, A = some ⟨b, o, none⟩ ∧ b < w.heap.size ∧ ∀ j, j < n → w.cell? ⟨b, o + j, none⟩ = some (.bool (C j))

def Post (w : World) (e : Ending) (w' : World) : Prop := e = .returned (.bool true) ∧ Below w.heap.size w w'

theorem all_len : ∀ (n : Nat) (l : List Int), (∀ v : Int, 1 ≤ v → v ≤ n → v ∈ l) → n ≤ l.length
  | 0, _, _ => Nat.zero_le _
  | n + 1, l, h => by
    have h1 : ((n : Int) + 1) ∈ l := h _ (by omega) (by omega)
    have := all_len n (l.erase ((n : Int) + 1)) (fun v h2 h3 => (List.mem_erase_of_ne (by omega)).2 (h v h2 (by omega)))
    rw [List.length_erase_of_mem h1] at this
    have := List.length_pos_of_mem h1
    omega
/-- one of the sixteen is free -/
theorem free_one {L : List It} (h : L.length < 16) : ∃ v : Int, 1 ≤ v ∧ v ≤ 16 ∧ ¬ pos L v < L.length := by
  apply Classical.byContradiction
  intro hc
  have hall : ∀ v : Int, 1 ≤ v → v ≤ 16 → v ∈ L.map Prod.fst := fun v h1 h2 => by
    have : pos L v < L.length := Classical.byContradiction fun h3 => hc ⟨v, h1, h2, h3⟩
    obtain ⟨x, hx, e⟩ := pos_lt.1 this
    exact List.mem_map.2 ⟨x, hx, e⟩
  have := all_len 16 (L.map Prod.fst) (fun v h1 h2 => hall v h1 (by omega))
  rw [List.length_map] at this
  omega

/-- how far to the free one -/
def far (v x : Int) : Nat := (if x ≤ v then v - x else v + 16 - x).toNat
theorem far_less {v x : Int} (h1 : 1 ≤ v ∧ v ≤ 16) (h2 : 1 ≤ x ∧ x ≤ 16) (hne : x ≠ v) : far v (x % 16 + 1) < far v x := by
  unfold far
  split <;> split <;> omega

def KpRel (s p n : Nat) (cnt : Int) (w : World) (gv sv nv i : Value) (wr : World) : Prop :=
  ∃ (t : Nat) (L : List It) (c g sg nx : Int), t ≤ n ∧ i = .int .i64 (t : Int) ∧ gv = .int .i64 g ∧ sv = .int .i64 sg ∧ nv = .int .i64 nx ∧ (1 ≤ nx ∧ nx ≤ 16) ∧ (0 ≤ g ∧ g ≤ t) ∧ (0 ≤ sg ∧ sg ≤ t) ∧ g + c = sg + cnt ∧
    Fine ⟨false, L, c, 65535⟩ ∧ At w s p ⟨false, L, c, 65535⟩ wr

set_option maxHeartbeats 800000 in
theorem walkOut (a0 : Int) (A : Option Addr) (n cap : Nat) (w : World) (hn0 : n ≤ 9223372036854775807) (hn : ¬ n ≤ 200) : Calls Try.prog 4 #[.int .u8 a0, .slice A n cap] w (Post w) := by
  have t1 : (200 : Int) < (n : Int) := by omega
  have t2 : 200 < n := by omega
  go_enter Try.func4, Try.ntmps4
  go_wp2_with fail
  refine (known_ok _).mono ?_
  rintro e w0 ⟨rfl, hb0⟩
  go_wp2
  go_ret
  exact ⟨rfl, hb0⟩

set_option maxHeartbeats 3200000 in
set_option maxRecDepth 100000 in
theorem walkIn (a0 : Int) (A : Option Addr) (n cap : Nat) (C : Nat → Bool) (w : World) (h8 : 0 ≤ a0 ∧ a0 ≤ 255) (hC : Bin w A n C) (hn : n ≤ 200) : Calls Try.prog 4 #[.int .u8 a0, .slice A n cap] w (Post w) := by
  have t1 : decide ((200 : Int) < (n : Int)) = false := by simp; omega
  have t2 : decide (200 < n) = false := by simp; omega
  have HC := Lib.hid hC
  clear hC
  go_enter Try.func4, Try.ntmps4
  go_wp2_with fail
  refine (known_ok _).mono ?_
  rintro e w0 ⟨rfl, hb0⟩
  go_wp2_with fail
  refine (new_at w w0 false a0 65535 (by unfold takes; omega) hb0).mono ?_
  rintro e w1 ⟨s, p, rfl, h1⟩
  clear hb0
  go_wp2
  go_loopw [7, 8, 9, 10] (fun gv sv nv i wr => KpRel s p n a0 w gv sv nv i wr) (fun _ _ _ i _ => n - (intOf i).toNat)
  case atStart => exact ⟨0, [], a0, 0, 0, 1, Nat.zero_le _, rfl, rfl, rfl, rfl, by omega, by omega, by omega, by omega, fine_new (by unfold takes; omega), h1⟩
  case round =>
    obtain ⟨t, L, c, g, sg, nx, ht, rfl, rfl, rfl, rfl, hnx, hg, hsg, hsum, hF, h2⟩ := hrel
    clear h1
    have HNX := Lib.hid hnx
    have HG := Lib.hid hg
    have HSG := Lib.hid hsg
    have HS := Lib.hid hsum
    have HF := Lib.hid hF
    clear hsum hF
    by_cases hlt : t < n
    · obtain ⟨b, o, rfl, hbl, hcl⟩ := HC.out (by omega)
      have hct : wr.cell? ⟨b, o + t, none⟩ = _ := (h2.b.cell (p := ⟨b, o + t, none⟩) hbl).trans (hcl t hlt)
      clear hcl hbl
      cases hCt : C t with
      | true =>
        rw [hCt] at hct
        clear hCt
        cases L with
        | cons x L =>
          have hF' := HF.out.sig (S' := ⟨false, L, c, 65535⟩) (t := x.1) (k := 0) rfl
          have HK := Lib.hid (signal_at h2 HF.out (S' := ⟨false, L, c, 65535⟩) (t := x.1) (k := 0) rfl)
          have hx1 := (HF.out.q.rng x (by simp)).1
          have HF' := Lib.hid hF'
          clear HF hF' h2
          obtain ⟨y, hy⟩ : ∃ y, x.1 = y := ⟨_, rfl⟩
          rw [hy] at HK hx1
          have y0 : (y == 0) = false := by simp; omega
          clear hy hx1
          go_wp2_with fail
          refine HK.out.mono ?_
          rintro e w3 ⟨rfl, h3⟩
          clear HK
          go_wp2
          go_roundw
          case rel => exact ⟨t + 1, L, c, g + 1, sg + 1, nx, by omega, by go_num, rfl, rfl, rfl, hnx, by omega, by omega, by have := HS.out; omega, HF'.out, h3⟩
          case measure => simp [intOf]; omega
        | nil =>
          have hc : c < 65535 := by have := HS.out; omega
          have hs : sig ⟨false, [], c, 65535⟩ = (⟨false, [], c + 1, 65535⟩, 0, 0) := by unfold sig; simp only; rw [if_neg (by omega)]
          have HF' := Lib.hid (HF.out.sig hs)
          have HK := Lib.hid (signal_at h2 HF.out hs)
          clear HF hs h2 hc
          go_wp2_with fail
          refine HK.out.mono ?_
          rintro e w3 ⟨rfl, h3⟩
          clear HK
          go_wp2
          go_roundw
          case rel => exact ⟨t + 1, [], c + 1, g, sg + 1, nx, by omega, by go_num, rfl, rfl, rfl, hnx, by omega, by omega, by have := HS.out; omega, HF'.out, h3⟩
          case measure => simp [intOf]; omega
      | false =>
        rw [hCt] at hct
        clear hCt
        have d0 := h2.c0
        have HL := Lib.hid (len_at h2 (n := (L.length : Int)) rfl)
        have hlen := HF.out.q.len
        simp only at hlen
        by_cases hfull : L.length = 16
        · rw [hfull] at HL
          go_wp2_with fail
          refine HL.out.mono ?_
          rintro e w3 ⟨rfl, rfl⟩
          clear HL
          go_wp2
          go_roundw
          case rel => exact ⟨t + 1, L, c, g, sg, nx, by omega, by go_num, rfl, rfl, rfl, hnx, by omega, by omega, HS.out, HF.out, h2⟩
          case measure => simp [intOf]; omega
        · obtain ⟨v, hv1, hv2, hv3⟩ := free_one (L := L) (by omega)
          have HV := Lib.hid hv3
          obtain ⟨k, hk⟩ : ∃ k : Int, (L.length : Int) = k := ⟨_, rfl⟩
          rw [hk] at HL
          have k16 : (k == 16) = false := by simp; omega
          clear hk hv3
          go_wp2_with fail
          refine HL.out.mono ?_
          rintro e w3 ⟨rfl, rfl⟩
          clear HL d0 hct hfull
          go_wp2
          go_loopw [9] (fun nv wr => ∃ x : Int, nv = .int .i64 x ∧ (1 ≤ x ∧ x ≤ 16) ∧ At w s p ⟨false, L, c, 65535⟩ wr) (fun nv _ => far v (intOf nv))
          case atStart => exact ⟨nx, rfl, hnx, h2⟩
          case round =>
            obtain ⟨x, rfl, hx, h4⟩ := hrel
            clear h2 hnx
            have d0 := h4.c0
            by_cases hh : pos L x < L.length
            · have HH := Lib.hid (has_any p 51 false L _ h4.sq.2 hlen x true (by simpa using hh))
              have hne : x ≠ v := by rintro rfl; exact HV.out hh
              have hr : x.tmod 16 = x % 16 := Int.tmod_eq_emod_of_nonneg (by omega)
              clear hh
              go_wp2_with fail
              refine HH.out.mono ?_
              rintro e w5 ⟨rfl, hb5⟩
              have h5 := h4.below hb5
              clear HH h4 d0 hb5
              go_wp2
              go_roundw
              case rel => exact ⟨x % 16 + 1, by go_num, by omega, h5⟩
              case measure => exact far_less ⟨hv1, hv2⟩ hx hne
            · have HH := Lib.hid (has_any p 51 false L _ h4.sq.2 hlen x false (by simpa using hh))
              by_cases c0 : 0 < c
              · have hw : wait ⟨false, L, c, 65535⟩ x 1 = (⟨false, L, c - 1, 65535⟩, true, 0) := by unfold wait; simp only; rw [if_pos c0]
                have HF' := Lib.hid (HF.out.wait hw)
                have HW := Lib.hid (fun W (hW : At w s p _ W) => wait_at x 1 hW HF.out hw)
                clear hw hh HF c0
                go_wp2_with fail
                refine HH.out.mono ?_
                rintro e w5 ⟨rfl, hb5⟩
                have h5 := h4.below hb5
                clear HH h4 d0 hb5
                go_wp2_with fail
                refine (HW.out _ h5).mono ?_
                rintro e w6 ⟨rfl, h6⟩
                clear h5 HW
                go_wp2
                go_roundw
                case rel => exact ⟨t + 1, L, c - 1, g + 1, sg, x, by omega, by go_num, rfl, rfl, rfl, hx, by omega, by omega, by have := HS.out; omega, HF'.out, h6⟩
                case measure => simp [intOf]; omega
              · have hC0 : addC L x 1 = 0 := by unfold addC; rw [if_pos ⟨hx, by omega⟩, if_neg hh]
                have hw : wait ⟨false, L, c, 65535⟩ x 1 = (⟨false, addL false L x 1, c, 65535⟩, false, 0) := by unfold wait; simp only; rw [if_neg c0, hC0]
                have HF' := Lib.hid (HF.out.wait hw)
                have HW := Lib.hid (fun W (hW : At w s p _ W) => wait_at x 1 hW HF.out hw)
                clear hw hh HF c0 hC0
                go_wp2_with fail
                refine HH.out.mono ?_
                rintro e w5 ⟨rfl, hb5⟩
                have h5 := h4.below hb5
                clear HH h4 d0 hb5
                go_wp2_with fail
                refine (HW.out _ h5).mono ?_
                rintro e w6 ⟨rfl, h6⟩
                clear h5 HW
                go_wp2
                go_roundw
                case rel => exact ⟨t + 1, addL false L x 1, c, g, sg, x, by omega, by go_num, rfl, rfl, rfl, hx, by omega, by omega, HS.out, HF'.out, h6⟩
                case measure => simp [intOf]; omega
    · obtain rfl : t = n := by omega
      clear hlt
      have d0 := h2.c0
      have d1 := h2.c1
      simp only at d1
      have hc : c = sg + a0 - g := by have := HS.out; omega
      have HN := Lib.hid HF.out.nobody
      have e1 : (g + c == sg + a0) = true := by simp; omega
      have hclo := HF.out.lo
      simp only at hclo
      clear HS
      by_cases c0 : c = 0
      · have e0 : (c == 0) = true := by simpa using c0
        go_wp2
        go_ret
        exact ⟨rfl, h2.b⟩
      · have hL : L = [] := HN.out (by have := HF.out.lo; simp only at this ⊢; omega)
        subst hL
        have HL := Lib.hid (len_at h2 (n := 0) rfl)
        have e0 : (c == 0) = false := by simpa using c0
        go_wp2_with fail
        refine HL.out.mono ?_
        rintro e w5 ⟨rfl, rfl⟩
        go_wp2
        go_ret
        exact ⟨rfl, h2.b⟩

set_option maxRecDepth 100000 in
theorem lifted (os : Os) (started : os.Started) (H : Type) (enc : TypeId × Value → H) :
    ReturnsInHanded {} Try.checked os 4 .any (Rows.semKeepsSpec.pre6 enc Try.prog Try.f4 Rows.semKeepsRow.domain false) (Rows.semKeepsSpec.post enc Try.prog Try.f4 false true false false) := by
  refine returnsInHanded_of_change (C := Try.checked) own started (by kernel_rfl) Try.func4
    (ChangeSpec.witness6 (enc := enc) (C := Try.checked) false ⟨#[], #[.int .u8 0, .slice none 0 0], []⟩ 8 (by kernel_rfl) (by kernel_rfl) (by kernel_rfl) (by kernel_rfl)) ?_
  intro W base args ds gs before hval0 hW hcnd _
  have hval : ∀ (j : Nat) t v, Try.f4.params[j]? = some t → args[j]? = some v → Value.okWide Try.prog W .any base t v := hval0
  have hW' := hW
  obtain ⟨p, q, hA0, hV, rfl, hfz, hnd⟩ := hW
  have hA : DataW.TrodAll enc Try.prog W 0 (fun _ => true) true Try.f4.params.toList args.toList ds p := hA0
  rw [Try.params4] at hA hval
  obtain ⟨v0, vs0, d0, ds0, p0, q0, hargs, rfl, rfl, h0, r0⟩ := trodAll_cons hA
  obtain ⟨v1, vs1, d1, ds1, p1, q1, rfl, rfl, rfl, h1, r1⟩ := trodAll_cons r0
  obtain ⟨rfl, rfl, rfl⟩ := trodAll_nil r1
  obtain rfl : args = #[v0, v1] := by cases args; simp_all
  obtain ⟨rfl, rfl⟩ := trodVars_none hV
  obtain ⟨a0, rfl, rfl, rfl, w0⟩ := open_int Try.underlying5 (hval 0 5 v0 rfl rfl) h0
  obtain ⟨a1, len1, cap1, rfl⟩ := okWide_slice Try.underlying60 (hval 1 60 v1 rfl rfl)
  have k1 := h1
  have lt1 : ∀ x ∈ p1, x.block < W.heap.size := by obtain ⟨m, hm⟩ := k1; exact DataW.trod_lt m _ _ _ hm
  obtain ⟨hl1, C, hC⟩ : len1 ≤ 9223372036854775807 ∧ ∃ C, Bin W a1 len1 C := by
    obtain ⟨fuel, hf⟩ := h1
    rcases Go.Deep.open_bools Try.underlying60 Try.underlying4 (by kernel_rfl) hf with ⟨hcs, _⟩ | ⟨x, l, c, B, hcs, _, hl, hm, _, hcell⟩
    · simp [Value.cells] at hcs
      obtain ⟨rfl, rfl, rfl⟩ := hcs
      exact ⟨by omega, fun _ => false, fun h => absurd h (by omega)⟩
    · simp [Value.cells] at hcs
      obtain ⟨rfl, rfl, rfl⟩ := hcs
      refine ⟨by unfold maxLen at hm; omega, B, fun h0 => ?_⟩
      obtain ⟨b, o, s⟩ := x
      have hc0 := hcell 0 (by omega)
      have hs : s = none := by
        cases s with
        | none => rfl
        | some q => simp [Addr.add, World.cell?] at hc0; split at hc0 <;> simp at hc0
      subst hs
      have hb : b < W.heap.size := by have := block_lt_of_cell hc0; simpa [Addr.add] using this
      exact ⟨b, o, rfl, hb, fun j hj => by have := hcell j (by omega); rw [addr_add] at this; exact this⟩
  clear hA0 hval0
  have h8 : 0 ≤ a0 ∧ a0 ≤ 255 := by have := bounds_u8 w0; omega
  have hwalk : Calls Try.prog 4 #[.int .u8 a0, .slice a1 len1 cap1] W fun e w' => e = .returned (.bool true) ∧ Below W.heap.size W w' := by
    by_cases h : len1 ≤ 200
    · exact walkIn a0 a1 len1 cap1 C W h8 hC h
    · exact walkOut a0 a1 len1 cap1 W hl1 h
  refine hwalk.mono fun e W' ⟨he, bel⟩ => ?_
  subst he
  exact ⟨_, rfl, _, _, _, [], _, [], hW', trodAll_mk1 (shut_bool Try.underlying4 _), (trodAll_cons_mk (shut_int Try.underlying5 w0) (trodAll_cons_mk (Below.trod laidOut (by kernel_rfl) (of_decide_eq_true (by kernel_rfl)) k1 bel lt1) trodAll_mk0)), rfl, bel.frame _, fun h => by cases h⟩

theorem over : Rows.semKeepsRow.holds Try.pinned (OpenSpec.ofChange Rows.semKeepsSpec) :=
  OpenClaim.holds_of_wide 4 Try.f4 rfl rfl rfl rfl rfl rfl rfl ⟨rfl, rfl, rfl, rfl, rfl⟩ rfl rfl rfl rfl rfl (by kernel_rfl) Try.func4 (by kernel_rfl)
    (of_decide_eq_true (by kernel_rfl)) (by unfold Func.isWrapper; first | (rw [if_pos (by decide +kernel)]; kernel_rfl) | (rw [if_neg (by decide +kernel)]; exact ⟨rfl, rfl⟩))
    (fun os started H enc _ => lifted os started H enc)

theorem proved : Rows.SemKeepsSaid := over
#print axioms proved
end Go.Proofs.Ytpkfdlmfcmiabaa.semKeeps
namespace Go.Proofs.Ytpkfdlmfcmiabaa
theorem semKeeps_holds : Rows.SemKeepsSaid := semKeeps.proved
end Go.Proofs.Ytpkfdlmfcmiabaa
