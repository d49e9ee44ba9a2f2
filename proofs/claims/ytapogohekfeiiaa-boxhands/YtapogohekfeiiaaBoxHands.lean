/-
  PROVED: the Go function detentlaw14.BoxHands returns true for every input, and each argument reads behind the call as it read before (Rows.BoxHandsSaid). No condition.
-/
import Derived.Test.YtapogohekfeiiaaRows
import Derived.Test.YtapogohekfeiiaaMxK
import Derived.WalkKit
import Derived.ProofKit
import Derived.OpenShut
import Derived.ShutString
import Derived.ChangeOld
import Derived.Below
namespace Go.Proofs.Ytapogohekfeiiaa.boxHands
open Go.ChangeShapes Go.WideShapes Go.ChangeAt Go.RowKit
open Go.ChangeMaps (open_string shut_string)
set_option linter.unusedVariables false      -- a walk need not use every 'w<i>' (that an integer argument fits its kind)

theorem own : ownKnob Try.prog.godebug = none := by kernel_rfl

/-- who waits: 1 to t, as they came; by priority the last one first -/
def fwd (t : Nat) : List It := (List.range t).map fun j : Nat => ((j : Int) + 1, 16 - (j : Int))
def wq (b : Bool) (t : Nat) : List It := if b = true then (fwd t).reverse else fwd t
theorem fwd_succ (t : Nat) : fwd (t + 1) = fwd t ++ [((t : Int) + 1, 16 - (t : Int))] := by simp [fwd, List.range_succ]
theorem fwd_mem {t : Nat} {y : It} (h : y ∈ fwd t) : ∃ j : Nat, j < t ∧ y = ((j : Int) + 1, 16 - (j : Int)) := by
  unfold fwd at h
  obtain ⟨j, hj, rfl⟩ := List.mem_map.1 h
  exact ⟨j, List.mem_range.1 hj, rfl⟩
theorem fwd_len (t : Nat) : (fwd t).length = t := by simp [fwd]
theorem fwd_get {t i : Nat} (h : i < t) : (fwd t)[i]? = some ((i : Int) + 1, 16 - (i : Int)) := by unfold fwd; rw [List.getElem?_map, List.getElem?_range h]; rfl
theorem wq_len (b : Bool) (t : Nat) : (wq b t).length = t := by cases b <;> simp [wq, fwd_len]
theorem wq_mem {b : Bool} {t : Nat} {y : It} (h : y ∈ wq b t) : ∃ j : Nat, j < t ∧ y = ((j : Int) + 1, 16 - (j : Int)) := by
  cases b
  · exact fwd_mem (by simpa [wq] using h)
  · exact fwd_mem (by simpa [wq] using h)
theorem wq_put {b : Bool} {t : Nat} (h : t < 16) : addC (wq b t) ((t : Int) + 1) (16 - (t : Int)) = 0 ∧ addL b (wq b t) ((t : Int) + 1) (16 - (t : Int)) = wq b (t + 1) := by
  have hp : ¬ pos (wq b t) ((t : Int) + 1) < (wq b t).length := fun hp => by
    obtain ⟨y, hy, e⟩ := pos_lt.1 hp
    obtain ⟨j, hj, rfl⟩ := wq_mem hy
    simp only at e; omega
  unfold addC addL
  rw [if_pos ⟨by omega, by omega⟩, if_neg hp, if_pos ⟨by omega, by omega, hp⟩]
  refine ⟨rfl, ?_⟩
  cases b with
  | false =>
    unfold ins plc wq
    simp [fwd_succ]
  | true =>
    have e : plc true (wq true t) (16 - (t : Int)) = 0 := by
      by_cases h0 : t = 0
      · subst h0; rfl
      · obtain ⟨y, hy⟩ : ∃ y, (wq true t)[0]? = some y := ⟨_, List.getElem?_eq_getElem (by rw [wq_len]; omega)⟩
        obtain ⟨j, hj, e2⟩ := wq_mem (List.mem_of_getElem? hy)
        exact plc_eq hy (by rw [e2]; simp only; omega) (fun j y hj => absurd hj (by omega))
    rw [e]
    unfold ins wq
    simp [fwd_succ]
/-- whose turn it is -/
def hd (b : Bool) (N t : Nat) : Int := if b = true then (N : Int) - (t : Int) else (t : Int) + 1
theorem wq_drop {b : Bool} {N t : Nat} (h : t < N) : ∃ p : Int, (wq b N).drop t = (hd b N t, p) :: (wq b N).drop (t + 1) := by
  have hl : t < (wq b N).length := by rw [wq_len]; exact h
  have h2 : (wq b N)[t]? = some (wq b N)[t] := List.getElem?_eq_getElem hl
  have h1 : ∃ p, (wq b N)[t]? = some (hd b N t, p) := by
    cases b with
    | false =>
      refine ⟨16 - (t : Int), ?_⟩
      show (fwd N)[t]? = _
      rw [fwd_get h]; rfl
    | true =>
      refine ⟨16 - ((N - 1 - t : Nat) : Int), ?_⟩
      show (fwd N).reverse[t]? = _
      rw [List.getElem?_reverse (by rw [fwd_len]; exact h), fwd_len, fwd_get (by omega)]
      have e : ((N - 1 - t : Nat) : Int) + 1 = (N : Int) - (t : Int) := by omega
      rw [e]; rfl
  obtain ⟨p, h1⟩ := h1
  refine ⟨p, ?_⟩
  rw [h2] at h1
  injection h1 with h1
  rw [List.drop_eq_getElem_cons hl, h1]
/-- what is in the box: those behind the N-th -/
def mb (N t : Nat) : List It := (List.range (t - N)).map fun j : Nat => ((N : Int) + (j : Int) + 1, 0)
theorem mb_none {N t : Nat} (h : t ≤ N) : mb N t = [] := by unfold mb; rw [Nat.sub_eq_zero_of_le h]; rfl
theorem mb_succ {N t : Nat} (h : N ≤ t) : mb N (t + 1) = mb N t ++ [((t : Int) + 1, 0)] := by
  unfold mb
  rw [Nat.succ_sub h, List.range_succ, List.map_append, List.map_cons, List.map_nil]
  have e : (N : Int) + ((t - N : Nat) : Int) + 1 = (t : Int) + 1 := by omega
  rw [e]
theorem mb_len (N t : Nat) : (mb N t).length = t - N := by simp [mb]
theorem mb_new {N t : Nat} : (t : Int) + 1 ∉ ids (mb N t) := fun h => by
  obtain ⟨y, hy, e⟩ := mem_ids.1 h
  unfold mb at hy
  obtain ⟨j, hj, rfl⟩ := List.mem_map.1 hy
  have := List.mem_range.1 hj
  simp only at e; omega
theorem recv_wq {b : Bool} {t : Nat} (h : t < 16) : recv ⟨b, wq b t, false, 1, []⟩ ((t : Int) + 1) (16 - (t : Int)) = (⟨b, wq b (t + 1), false, 1, []⟩, 0, false, 0) := by
  unfold recv
  simp only [(wq_put h).1, (wq_put h).2]
theorem send_wq {b : Bool} {N t : Nat} (h : t < N) : send ⟨b, (wq b N).drop t, false, 1, mb N t⟩ ((t : Int) + 1) 0 = (⟨b, (wq b N).drop (t + 1), false, 1, mb N (t + 1)⟩, hd b N t, 0) := by
  obtain ⟨p, hp⟩ := wq_drop (b := b) h
  unfold send
  rw [if_neg (by rintro (h | ⟨h, _⟩); omega; cases h), if_neg mb_new]
  simp only [hp]
  rw [mb_none (by omega), mb_none (by omega)]
theorem send_mb {b : Bool} {N t : Nat} (h : N ≤ t) : send ⟨b, (wq b N).drop t, false, 1, mb N t⟩ ((t : Int) + 1) 0 = (⟨b, (wq b N).drop (t + 1), false, 1, mb N (t + 1)⟩, 0, 0) := by
  unfold send
  rw [if_neg (by rintro (h | ⟨h, _⟩); omega; cases h), if_neg mb_new, List.drop_of_length_le (by rw [wq_len]; exact h), List.drop_of_length_le (by rw [wq_len]; omega)]
  have e : ins (mb N t) (plc false (mb N t) 0) ((t : Int) + 1, 0) = mb N (t + 1) := by
    rw [mb_succ h]; unfold ins plc; simp
  simp only [e]
theorem recv_to {w w1 : World} {s q n c : Nat} {S S' : St} {id pri r k : Int} {o : Bool} (h : At w s q n c S w1) (hc : c < 90000) (hs : recv S id pri = (S', r, o, k)) (i2 p2 : Int) (e1 : i2 = id) (e2 : p2 = pri) :
    Calls Try.prog 12 #[.pointer (some ⟨s, 0, none⟩), .int .i64 i2, .int .i64 p2] w1 fun e w' => e = .returned (.tuple #[.int .i64 r, .bool o, .int .i64 k]) ∧ At w s q n (c + 1) S' w' := by
  subst e1 e2; exact recv_at h hc hs
set_option maxHeartbeats 4000000 in
set_option maxRecDepth 100000 in
theorem walkIn (N K : Nat) (b : Bool) (w : World) (hN : N ≤ 16) (hK : K ≤ 40) : Calls Try.prog 5 #[.int .i64 (N : Int), .int .i64 (K : Int), .bool b] w fun e w' => e = .returned (.bool true) ∧ Below w.heap.size w w' := by
  have t1 : decide ((N : Int) < 0) = false := by simp
  have t2 : decide ((16 : Int) < (N : Int)) = false := by simp; omega
  have t3 : decide ((K : Int) < 0) = false := by simp
  have t4 : decide ((40 : Int) < (K : Int)) = false := by simp; omega
  have t5 : decide (16 < N) = false := by simp; omega
  have t6 : decide (40 < K) = false := by simp; omega
  go_enter Try.func5, Try.ntmps5
  go_wp2_with fail
  refine (known_ok w).mono ?_
  rintro e w1 ⟨rfl, hb⟩
  have HNW := Lib.hid (new_at w w1 b false 1 (by omega) (by omega) hb)
  clear hb
  go_wp2_with fail
  refine HNW.out.mono ?_
  rintro e w2 ⟨s, q, n, rfl, ha⟩
  have HA := Lib.hid ha
  clear ha HNW t1 t2 t3 t4 t5 t6
  go_wp2
  go_loopw [9] (fun i wr => ∃ t : Nat, t ≤ N ∧ i = .int .i64 ((t : Int) + 1) ∧ At w s q n t ⟨b, wq b t, false, 1, []⟩ wr) (fun i _ => N + 1 - (intOf i).toNat)
  case atStart => exact ⟨0, Nat.zero_le _, rfl, by rw [show wq b 0 = [] by cases b <;> rfl]; exact HA.out⟩
  case round =>
    obtain ⟨t, ht, rfl, ha⟩ := hrel
    by_cases hlt : t < N
    · have u1 : (t : Int) + 1 ≤ (N : Int) := by omega
      have u2 : t + 1 ≤ N := by omega
      have u3 : (t : Int) + 1 ≤ 16 := by omega
      have HR := Lib.hid (recv_to ha (by omega) (recv_wq (b := b) (t := t) (by omega)))
      clear ha
      go_wp2_with fail
      refine (HR.out _ _ (by omega) (by omega)).mono ?_
      rintro e w3 ⟨rfl, ha⟩
      have HA3 := Lib.hid ha
      clear ha HR
      go_wp2
      exact ⟨⟨t + 1, by omega, by go_num, HA3.out⟩, by simp [intOf]; omega⟩
    · have e : t = N := by omega
      have v1 : decide ((t : Int) + 1 ≤ (N : Int)) = false := by simp; omega
      have v2 : ¬ t + 1 ≤ N := by omega
      have v3 : decide (t + 1 ≤ N) = false := by simp; omega
      have v4 : N ≤ t := by omega
      have v5 : ¬ t < N := by omega
      have HE := Lib.hid e
      rw [e] at ha
      have HA2 := Lib.hid (show At w s q n (N + 2 * 0) ⟨b, (wq b N).drop 0, false, 1, mb N 0⟩ wr by rw [mb_none (Nat.zero_le _)]; exact ha)
      clear ha e hlt HA
      go_wp2
      go_loopw [13] (fun i wr => ∃ t : Nat, t ≤ K ∧ i = .int .i64 ((t : Int) + 1) ∧ At w s q n (N + 2 * t) ⟨b, (wq b N).drop t, false, 1, mb N t⟩ wr) (fun i _ => K + 1 - (intOf i).toNat)
      case atStart => exact ⟨0, Nat.zero_le _, rfl, HA2.out⟩
      case round =>
        obtain ⟨u, hu, rfl, ha⟩ := hrel
        clear v1 v2 v3 v4 v5
        by_cases hlt : u < K
        · have u1 : (u : Int) + 1 ≤ (K : Int) := by omega
          have u2 : u + 1 ≤ K := by omega
          by_cases hm : u < N
          · have x1 : (u : Int) + 1 ≤ (N : Int) := by omega
            have x2 : u + 1 ≤ N := by omega
            have HS := Lib.hid (send_at ha (msg := (u : Int) + 1) (in64 (by omega) (by omega)) (by omega) (send_wq hm))
            clear ha
            cases b with
            | true =>
              obtain ⟨v, hv⟩ : ∃ v, hd true N u = v := ⟨_, rfl⟩
              rw [hv] at HS
              have hv2 : v = (N : Int) - (u : Int) := by rw [← hv]; rfl
              clear hv
              go_wp2_with fail
              refine HS.out.mono ?_
              rintro e w3 ⟨rfl, ha⟩
              have HA3 := Lib.hid ha
              clear ha HS
              go_wp2
              exact ⟨⟨u + 1, by omega, by go_num, HA3.out⟩, by simp [intOf]; omega⟩
            | false =>
              obtain ⟨v, hv⟩ : ∃ v, hd false N u = v := ⟨_, rfl⟩
              rw [hv] at HS
              have hv2 : v = (u : Int) + 1 := by rw [← hv]; rfl
              clear hv
              go_wp2_with fail
              refine HS.out.mono ?_
              rintro e w3 ⟨rfl, ha⟩
              have HA3 := Lib.hid ha
              clear ha HS
              go_wp2
              exact ⟨⟨u + 1, by omega, by go_num, HA3.out⟩, by simp [intOf]; omega⟩
          · have x1 : decide ((u : Int) + 1 ≤ (N : Int)) = false := by simp; omega
            have x2 : ¬ u + 1 ≤ N := by omega
            have x3 : decide (u + 1 ≤ N) = false := by simp; omega
            have x4 : ¬ u < N := hm
            have x5 : N ≤ u := by omega
            have HS := Lib.hid (send_at ha (msg := (u : Int) + 1) (in64 (by omega) (by omega)) (by omega) (send_mb x5))
            clear ha hm
            go_wp2_with fail
            refine HS.out.mono ?_
            rintro e w3 ⟨rfl, ha⟩
            have HA3 := Lib.hid ha
            clear ha HS
            go_wp2
            exact ⟨⟨u + 1, by omega, by go_num, HA3.out⟩, by simp [intOf]; omega⟩
        · have e : u = K := by omega
          have v1 : decide ((u : Int) + 1 ≤ (K : Int)) = false := by simp; omega
          have v2 : ¬ u + 1 ≤ K := by omega
          have v3 : decide (u + 1 ≤ K) = false := by simp; omega
          have v4 : K ≤ u := by omega
          have v5 : ¬ u < K := hlt
          have HE2 := Lib.hid e
          rw [e] at ha
          have HM := Lib.hid (messages_at ha (by rw [mb_len]; omega))
          have e1 : IntKind.i64.wrap ((K : Int) - (N : Int)) = (K : Int) - (N : Int) := IntWalk.i64_in _ (by omega)
          clear ha e hlt HA2
          by_cases c1 : K < N
          · have y1 : (K : Int) - (N : Int) < 0 := by omega
            have y2 : K < N := c1
            have y3 : (K : Int) < (N : Int) := by omega
            go_wp2_with fail
            refine HM.out.mono ?_
            rintro e w5 ⟨X, k, rfl, _, ha⟩
            have HB := Lib.hid ha.b
            have hz : (mb N K).length = 0 := by rw [mb_len]; omega
            rw [hz]
            clear ha HM
            go_wp2
            go_ret
            exact ⟨rfl, HB.out⟩
          · have y1 : decide ((K : Int) - (N : Int) < 0) = false := by simp; omega
            have y2 : ¬ K < N := c1
            have y3 : decide (K < N) = false := by simpa using c1
            have y4 : N ≤ K := by omega
            have y5 : decide ((K : Int) < (N : Int)) = false := by simp; omega
            have HY := Lib.hid c1
            clear c1
            by_cases c2 : K = N
            · go_wp2_with fail
              refine HM.out.mono ?_
              rintro e w5 ⟨X, k, rfl, _, ha⟩
              have HB := Lib.hid ha.b
              have hz : (mb N K).length = 0 := by rw [mb_len]; omega
              rw [hz]
              clear ha HM
              have z1 : (K : Int) - (N : Int) = 0 := by omega
              go_wp2
              go_ret
              exact ⟨rfl, HB.out⟩
            · go_wp2_with fail
              refine HM.out.mono ?_
              rintro e w5 ⟨X, k, rfl, _, ha⟩
              have HB := Lib.hid ha.b
              obtain ⟨l, hl⟩ : ∃ l, (mb N K).length = l := ⟨_, rfl⟩
              have hz : (l : Int) = (K : Int) - (N : Int) := by rw [← hl, mb_len]; omega
              have hz2 : ((l : Int) == (K : Int) - (N : Int)) = true := by simpa using hz
              rw [hl]
              clear hl
              have z1 : ((K : Int) - (N : Int) == 0) = false := by simp; omega
              have d0 := ha.c0
              have HL := Lib.hid (len_at ha (k := 0) (by show ((List.drop K (wq b N)).length : Int) = 0; rw [List.length_drop, wq_len]; omega))
              clear ha HM c2
              go_wp2_with fail
              refine HL.out.mono ?_
              rintro e w6 ⟨rfl, rfl⟩
              go_wp2
              go_ret
              exact ⟨rfl, HB.out⟩

/-! ### the walk -/
set_option maxRecDepth 100000 in
set_option maxHeartbeats 4000000 in
theorem walk (a0 : Int) (a1 : Int) (a2 : Bool) (w0 : (Lit.int .i64 a0).wf = true) (w1 : (Lit.int .i64 a1).wf = true) (w : World) :
    Calls Try.prog 5 #[.int .i64 a0, .int .i64 a1, .bool a2] w fun e w' => e = .returned (.bool true) ∧ Below w.heap.size w w' := by
  by_cases c : (0 ≤ a0 ∧ a0 ≤ 16) ∧ 0 ≤ a1 ∧ a1 ≤ 40
  · obtain ⟨N, rfl⟩ : ∃ N : Nat, a0 = (N : Int) := ⟨a0.toNat, by omega⟩
    obtain ⟨K, rfl⟩ : ∃ K : Nat, a1 = (K : Int) := ⟨a1.toNat, by omega⟩
    exact walkIn N K a2 w (by omega) (by omega)
  have HC := Lib.hid c
  clear c w0 w1
  by_cases c1 : a0 < 0
  · have t1 : decide (a0 < 0) = true := by simpa using c1
    clear c1
    go_enter Try.func5, Try.ntmps5
    go_wp2_with fail
    refine (known_ok w).mono ?_
    rintro e w1 ⟨rfl, hb⟩
    go_wp2
    go_ret
    exact ⟨rfl, hb⟩
  have t1 : decide (a0 < 0) = false := by simpa using c1
  by_cases c2 : 16 < a0
  · have t2 : decide (16 < a0) = true := by simpa using c2
    clear c1 c2
    go_enter Try.func5, Try.ntmps5
    go_wp2_with fail
    refine (known_ok w).mono ?_
    rintro e w1 ⟨rfl, hb⟩
    go_wp2
    go_ret
    exact ⟨rfl, hb⟩
  have t2 : decide (16 < a0) = false := by simpa using c2
  by_cases c3 : a1 < 0
  · have t3 : decide (a1 < 0) = true := by simpa using c3
    clear c1 c2 c3
    go_enter Try.func5, Try.ntmps5
    go_wp2_with fail
    refine (known_ok w).mono ?_
    rintro e w1 ⟨rfl, hb⟩
    go_wp2
    go_ret
    exact ⟨rfl, hb⟩
  have t3 : decide (a1 < 0) = false := by simpa using c3
  have c4 : 40 < a1 := by have := HC.out; omega
  have t4 : decide (40 < a1) = true := by simpa using c4
  clear c1 c2 c3 c4
  go_enter Try.func5, Try.ntmps5
  go_wp2_with fail
  refine (known_ok w).mono ?_
  rintro e w1 ⟨rfl, hb⟩
  go_wp2
  go_ret
  exact ⟨rfl, hb⟩

/-! ### THE ROW's STEP: WRITTEN OUT: LEAVE IT -/
set_option maxRecDepth 100000 in
theorem lifted (os : Os) (started : os.Started) (H : Type) (enc : TypeId × Value → H) :
    ReturnsInHanded {} Try.checked os 5 .any (Rows.boxHandsSpec.pre6 enc Try.prog Try.f5 Rows.boxHandsRow.domain false) (Rows.boxHandsSpec.post enc Try.prog Try.f5 false true false false) := by
  refine returnsInHanded_of_change (C := Try.checked) own started (by kernel_rfl) Try.func5
    (ChangeSpec.witness6 (enc := enc) (C := Try.checked) false ⟨#[], #[.int .i64 0, .int .i64 0, .bool false], []⟩ 8 (by kernel_rfl) (by kernel_rfl) (by kernel_rfl) (by kernel_rfl)) ?_
  intro W base args ds gs before hval0 hW hcnd _
  have hval : ∀ (j : Nat) t v, Try.f5.params[j]? = some t → args[j]? = some v → Value.okWide Try.prog W .any base t v := hval0
  have hW' := hW
  obtain ⟨p, q, hA0, hV, rfl, hfz, hnd⟩ := hW
  have hA : DataW.TrodAll enc Try.prog W 0 (fun _ => true) true Try.f5.params.toList args.toList ds p := hA0
  rw [Try.params5] at hA hval
  obtain ⟨v0, vs0, d0, ds0, p0, q0, hargs, rfl, rfl, h0, r0⟩ := trodAll_cons hA
  obtain ⟨v1, vs1, d1, ds1, p1, q1, rfl, rfl, rfl, h1, r1⟩ := trodAll_cons r0
  obtain ⟨v2, vs2, d2, ds2, p2, q2, rfl, rfl, rfl, h2, r2⟩ := trodAll_cons r1
  obtain ⟨rfl, rfl, rfl⟩ := trodAll_nil r2
  obtain rfl : args = #[v0, v1, v2] := by cases args; simp_all
  obtain ⟨rfl, rfl⟩ := trodVars_none hV
  obtain ⟨a0, rfl, rfl, rfl, w0⟩ := open_int Try.underlying3 (hval 0 3 v0 rfl rfl) h0
  obtain ⟨a1, rfl, rfl, rfl, w1⟩ := open_int Try.underlying3 (hval 1 3 v1 rfl rfl) h1
  obtain ⟨a2, rfl, rfl, rfl⟩ := open_bool Try.underlying4 (hval 2 4 v2 rfl rfl) h2
  clear hA0 hval0
  simp only [List.append_nil] at hW'
  refine (walk a0 a1 a2 w0 w1 W).mono fun e W' ⟨he, hg⟩ => ?_
  subst he
  exact ⟨_, rfl, _, _, _, [], [], [], hW', (trodAll_cons_mk (shut_bool Try.underlying4 _) trodAll_mk0), (trodAll_cons_mk (shut_int Try.underlying3 w0) (trodAll_cons_mk (shut_int Try.underlying3 w1) (trodAll_cons_mk (shut_bool Try.underlying4 _) trodAll_mk0))), rfl, hg.frame _, fun h => by cases h⟩

theorem over : Rows.boxHandsRow.holds Try.pinned (OpenSpec.ofChange Rows.boxHandsSpec) :=
  OpenClaim.holds_of_wide 5 Try.f5 rfl rfl rfl rfl rfl rfl rfl ⟨rfl, rfl, rfl, rfl, rfl⟩ rfl rfl rfl rfl rfl (by kernel_rfl) Try.func5 (by kernel_rfl)
    (of_decide_eq_true (by kernel_rfl)) (by unfold Func.isWrapper; first | (rw [if_pos (by decide +kernel)]; kernel_rfl) | (rw [if_neg (by decide +kernel)]; exact ⟨rfl, rfl⟩))
    (fun os started H enc _ => lifted os started H enc)

/-- ████ THE STATEMENT ████ -/
theorem proved : Rows.BoxHandsSaid :=
  over
#print axioms proved
end Go.Proofs.Ytapogohekfeiiaa.boxHands
namespace Go.Proofs.Ytapogohekfeiiaa
theorem boxHands_holds : Rows.BoxHandsSaid := boxHands.proved
end Go.Proofs.Ytapogohekfeiiaa
