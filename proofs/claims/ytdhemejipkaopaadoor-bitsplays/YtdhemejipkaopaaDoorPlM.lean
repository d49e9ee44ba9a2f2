/-
  The walk of detentlaw5.BitsPlays.
-/
import Derived.Test.YtdhemejipkaopaaDoorPlO
namespace Go.Proofs.YtdhemejipkaopaaDoor.bitsPlays
open Go.ChangeShapes Go.WideShapes Go.ChangeAt Go.RowKit Go.Deep
set_option linter.unusedVariables false

set_option maxRecDepth 100000 in
set_option maxHeartbeats 6400000 in
theorem big (A : Option Addr) (n cap : Nat) (x : Int) (w : World) (hn : 40 < n) (hT : Tab w) : Calls Tryd.prog 3 #[.slice A n cap, .int .i64 x] w fun e w' => e = .returned (.bool true) ∧ Below w.heap.size w w' := by
  have h' : decide ((40 : Int) < (n : Int)) = true := by simp; omega
  have HKn := Lib.hid (known_any w hT)
  clear hn hT
  go_enter Tryd.func3, Tryd.ntmps3
  go_wp2_with fail
  refine HKn.out.mono ?_
  rintro e w0 ⟨rfl, hb⟩
  go_wp2
  go_ret
  exact ⟨rfl, hb⟩

def zer : Array Value := Array.replicate 258 (.bool false)
theorem info28 : (Tryd.prog.info? 28).map (·.zero) = some (some (.agg zer)) := by kernel_rfl
theorem zero28 (W : World) : (zeroValue 28).run Tryd.prog W = .ok (.agg zer) W := by
  have h := info28
  cases hq : Tryd.prog.info? 28 with
  | none => simp [hq] at h
  | some i =>
    have hi : i.zero = some (.agg zer) := by simpa [hq] using h
    simp [zeroValue, typeInfo, hq, hi]
theorem ps_new {w w0 : World} (hb : Below w.heap.size w w0) (hT : Tab w) :
    Ps w w0.heap.size (w0.heap.size + 1) none' none' ((w0.alloc (.cells #[.int .u64 0, .int .u64 0, .int .u64 0, .int .u64 0] 27)).alloc (.cells zer 28)) := by
  have hz : (w0.alloc (.cells #[.int .u64 0, .int .u64 0, .int .u64 0, .int .u64 0] 27)).heap.size = w0.heap.size + 1 := by simp
  have hT0 := hT.below hb
  have hs := hb.size
  have ho : On ((w0.alloc (.cells #[.int .u64 0, .int .u64 0, .int .u64 0, .int .u64 0] 27)).alloc (.cells zer 28)) (w0.heap.size + 1) none' := by
    refine ⟨zer, ?_, fun j hj => ?_⟩
    · have := heap_alloc_new (w0.alloc (.cells #[.int .u64 0, .int .u64 0, .int .u64 0, .int .u64 0] 27)) (.cells zer 28)
      rwa [hz] at this
    · unfold zer; rw [Array.getElem?_replicate, if_pos hj]; rfl
  exact ⟨(Mp.new w0 hT0.pos).alloc _, ⟨_, ho, fun _ _ _ => rfl⟩, by omega, hs, by omega, (hT0.alloc _).alloc _, (hb.alloc hs _).alloc (by omega) _, hT.pos⟩

theorem upd_step {B : Nat → Bool} {L : List Int} {u : Nat} {q : Nat} {d : Bool} (h : L[u]? = some (q : Int)) : ∀ r, 1 ≤ r → r ≤ 256 → upd B (L.take (u + 1)) d r = if r = q then d else upd B (L.take u) d r := fun r _ _ => by
  rw [take_one h, upd_snoc]
  by_cases e : r = q
  · rw [if_pos e, if_pos (by omega)]
  · rw [if_neg e, if_neg (by omega)]
theorem ps_out {w : World} {p g : Nat} {B A : Nat → Bool} {L : List Int} {u : Nat} {x : Int} {d : Bool} {v : World} (h : Ps w p g A (upd B (L.take u) d) v) (hx : L[u]? = some x) (ho : ¬ (1 ≤ x ∧ x ≤ 256)) : Ps w p g A (upd B (L.take (u + 1)) d) v := by
  obtain ⟨a, ⟨f, h1, h2⟩, r1, r2, r3, r4, r5, r6⟩ := h
  exact ⟨a, ⟨f, h1, fun q h3 h4 => by rw [h2 q h3 h4, take_one hx, upd_snoc, if_neg (by omega)]⟩, r1, r2, r3, r4, r5, r6⟩

/-- the loop over all numbers: those below k were looked at -/
def RelB (B : Nat → Bool) (x : Int) (wb : World) (r f a i : Value) (wr : World) : Prop :=
  ∃ k : Nat, 1 ≤ k ∧ k ≤ 257 ∧ i = .int .i64 (k : Int) ∧ f = .int .i64 (nx B (k - 1) 1 : Int) ∧ a = .int .i64 (nx (aft B x) (k - 1) 1 : Int) ∧
    wr.ownsRow wb.heap.size 3 1 r (rowF B (k - 1) 1).length (vals (rowF B (k - 1) 1)) ∧ Below wb.heap.size wb wr
theorem step_no {B : Nat → Bool} {k : Nat} (x : Int) (h1 : 1 ≤ k) (hB : B k = false) : rowF B (k + 1 - 1) 1 = rowF B (k - 1) 1 ∧ nx B (k + 1 - 1) 1 = nx B (k - 1) 1 ∧ nx (aft B x) (k + 1 - 1) 1 = nx (aft B x) (k - 1) 1 := by
  obtain ⟨j, rfl⟩ : ∃ j, k = j + 1 := ⟨k - 1, by omega⟩
  have e : 1 + j = j + 1 := by omega
  have hA : aft B x (j + 1) = false := by simp [aft, hB]
  refine ⟨?_, ?_, ?_⟩
  · show rowF B (j + 1) 1 = rowF B j 1
    rw [rowF_snoc, e, hB]; simp
  · show nx B (j + 1) 1 = nx B j 1
    rw [nx_snoc _ _ _ (by omega), e, hB]
    split <;> simp [*]
  · show nx (aft B x) (j + 1) 1 = nx (aft B x) j 1
    rw [nx_snoc _ _ _ (by omega), e, hA]
    split <;> simp [*]
theorem step_yes {B : Nat → Bool} {k : Nat} (x : Int) (h1 : 1 ≤ k) (hB : B k = true) : rowF B (k + 1 - 1) 1 = rowF B (k - 1) 1 ++ [k] ∧ (nx B (k + 1 - 1) 1 = if nx B (k - 1) 1 = 0 then k else nx B (k - 1) 1) ∧
    (nx (aft B x) (k + 1 - 1) 1 = if nx (aft B x) (k - 1) 1 = 0 then (if x < (k : Int) then k else 0) else nx (aft B x) (k - 1) 1) := by
  obtain ⟨j, rfl⟩ : ∃ j, k = j + 1 := ⟨k - 1, by omega⟩
  have e : 1 + j = j + 1 := by omega
  refine ⟨?_, ?_, ?_⟩
  · show rowF B (j + 1) 1 = rowF B j 1 ++ [j + 1]
    rw [rowF_snoc, e, hB]; simp
  · show nx B (j + 1) 1 = if nx B j 1 = 0 then j + 1 else nx B j 1
    rw [nx_snoc _ _ _ (by omega), e, hB]; simp
  · show nx (aft B x) (j + 1) 1 = if nx (aft B x) j 1 = 0 then (if x < ((j + 1 : Nat) : Int) then j + 1 else 0) else nx (aft B x) j 1
    rw [nx_snoc _ _ _ (by omega), e]
    simp only [aft, hB, Bool.true_and, decide_eq_true_eq]
theorem rowF_le (B : Nat → Bool) (k : Nat) : (rowF B k 1).length ≤ k := by rw [rowF_len]; exact cn_le _ _ _

set_option maxRecDepth 100000 in
set_option maxHeartbeats 6400000 in
theorem walkIn (A : Option Addr) (n cap b o : Nat) (op : Nat → Int) (PB : Nat → Option Addr) (PK : Nat → Nat) (ns : Nat → List Int) (x : Int) (w : World) (hn : n ≤ 40)
    (hA : 0 < n → A = some ⟨b, o, none⟩ ∧ Acts w.heap.size w b o n op PB PK ns) (hT : Tab w) : Calls Tryd.prog 3 #[.slice A n cap, .int .i64 x] w fun e w' => e = .returned (.bool true) ∧ Below w.heap.size w w' := by
  have h' : decide ((40 : Int) < (n : Int)) = false := by simp; omega
  have HKn := Lib.hid (known_any w hT)
  have HT := Lib.hid hT
  have HA := Lib.hid hA
  have HN := Lib.hid hn
  have hz28 := zero28
  clear hn hT hA
  go_enter Tryd.func3, Tryd.ntmps3
  go_wp2_with fail
  refine HKn.out.mono ?_
  rintro e w0 ⟨rfl, hb⟩
  have hp1 := Lib.hid (ps_new hb HT.out)
  clear hb HKn
  go_wp2
  generalize (w0.alloc (.cells #[.int .u64 0, .int .u64 0, .int .u64 0, .int .u64 0] 27)).alloc (.cells zer 28) = w1 at *
  generalize w0.heap.size + 1 = g at *
  generalize w0.heap.size = p at *
  clear hz28
  go_loopw [7] (fun i wr => ∃ (t : Nat) (B : Nat → Bool), t ≤ n ∧ i = .int .i64 (t : Int) ∧ Ps w p g B B wr) (fun i _ => n - (intOf i).toNat)
  case atStart => exact ⟨0, none', Nat.zero_le _, rfl, hp1.out⟩
  case round =>
    obtain ⟨t, B, ht, rfl, h1⟩ := hrel
    have hp := Lib.hid h1
    clear h1 hp1
    by_cases hlt : t < n
    · obtain ⟨rfl, hac⟩ := HA.out (by omega)
      have HC := Lib.hid hac
      have hac2 := hac.below hp.out.bel
      have hti : (t : Int) < (n : Int) := by omega
      have ht40 : (t : Int) < 40 := by have := HN.out; omega
      have c0 := hac2.c0 t hlt
      have c1 := hac2.c1 t hlt
      have hb0 := hac.c0 t hlt
      have hb1 := hac.c1 t hlt
      have hsr := Lib.hid (hac.hp t hlt)
      have hbS := hac.hlt
      clear hac hac2 HC
      generalize op t = d at *
      generalize PB t = X at *
      generalize PK t = K at *
      generalize ns t = L at *
      obtain ⟨m, hm⟩ : ∃ m, L.length = m := ⟨_, rfl⟩
      rw [hm] at c1 hb1
      have HM := Lib.hid hm
      have H0 := Lib.hid hb0
      have H1 := Lib.hid hb1
      clear hm hb0 hb1
      by_cases hm40 : 40 < m
      · have tm : decide ((40 : Int) < (m : Int)) = true := by simp; omega
        go_wp2
        go_ret
        exact ⟨rfl, hp.out.bel⟩
      · have tm : decide ((40 : Int) < (m : Int)) = false := by simp; omega
        by_cases hd : d = 1
        · have td : (d == 1) = true := by simp [hd]
          clear hd
          go_wp2_with fail
          refine (set_any p B X L K m wr hp.out.a ((hsr.out.below hp.out.bel).src hp.out.bel.size hp.out.lp) HM.out (by omega)).mono ?_
          rintro e w2 ⟨rfl, h1, h2⟩
          have hq := Lib.hid (hp.out.map h2 h1)
          clear h1 h2 hp c0 c1
          go_wp2
          go_loopw [8] (fun i wr => ∃ u : Nat, u ≤ m ∧ i = .int .i64 (u : Int) ∧ Ps w p g (upd B L true) (upd B (L.take u) true) wr) (fun i _ => m - (intOf i).toNat)
          case atStart => exact ⟨0, Nat.zero_le _, rfl, by rw [List.take_zero, upd_nil]; exact hq.out⟩
          case round =>
            obtain ⟨u, hu, rfl, h1⟩ := hrel
            have hr := Lib.hid h1
            clear h1 hq
            have c0 := (hr.out.bel.cell (p := ⟨b, o + t * 2, none⟩) hbS).trans H0.out
            have c1 := (hr.out.bel.cell (p := ⟨b, o + t * 2 + 1, none⟩) hbS).trans H1.out
            by_cases hlu : u < m
            · have hui : (u : Int) < (m : Int) := by omega
              have hu40 : (u : Int) < 40 := by omega
              obtain ⟨v, hv⟩ : ∃ v, L[u]? = some v := ⟨_, List.getElem?_eq_getElem (by rw [HM.out]; exact hlu)⟩
              obtain ⟨b2, o2, rfl, _, hcv⟩ := (hsr.out.below hr.out.bel) (by rw [HM.out]; omega)
              have c2 := hcv u v hv
              clear hcv
              by_cases h1 : 1 ≤ v
              · have t1 : decide (1 ≤ v) = true := by simp; omega
                by_cases h2 : v ≤ 256
                · have t2 : decide (v ≤ 256) = true := by simp; omega
                  obtain ⟨q, rfl⟩ : ∃ q : Nat, v = (q : Int) := ⟨v.toNat, by omega⟩
                  have hq258 : (q : Int) < 258 := by omega
                  obtain ⟨f, ho, _⟩ := hr.out.o
                  have c3 := ho.at_ (j := q) (by omega)
                  have c4 := ho.frozen q
                  have HP := Lib.hid (hr.out.put q true (by omega) (upd B (L.take (u + 1)) true) (upd_step hv))
                  clear ho hv h1 h2
                  go_wp2
                  go_roundw
                  case rel => exact ⟨u + 1, by omega, by go_num, HP.out⟩
                  case measure => simp [intOf]; omega
                · have t2 : decide (v ≤ 256) = false := by simp; omega
                  have HP := Lib.hid (ps_out hr.out hv (by omega))
                  clear hv h1 h2
                  go_wp2
                  go_roundw
                  case rel => exact ⟨u + 1, by omega, by go_num, HP.out⟩
                  case measure => simp [intOf]; omega
              · have t1 : decide (1 ≤ v) = false := by simp; omega
                have HP := Lib.hid (ps_out hr.out hv (by omega))
                clear hv h1
                go_wp2
                go_roundw
                case rel => exact ⟨u + 1, by omega, by go_num, HP.out⟩
                case measure => simp [intOf]; omega
            · obtain rfl : u = m := by omega
              have h1 := hr.out
              rw [List.take_of_length_le (by rw [HM.out]; omega)] at h1
              have hr2 := Lib.hid h1
              clear h1
              go_wp2
              go_roundw
              case rel => exact ⟨t + 1, _, by omega, by go_num, hr2.out⟩
              case measure => simp [intOf]; omega
        · have td : (d == 1) = false := by simp [hd]
          clear hd
          go_wp2_with fail
          refine (clear_any p B X L K m wr hp.out.a ((hsr.out.below hp.out.bel).src hp.out.bel.size hp.out.lp) HM.out (by omega)).mono ?_
          rintro e w2 ⟨rfl, h1, h2⟩
          have hq := Lib.hid (hp.out.map h2 h1)
          clear h1 h2 hp c0 c1
          go_wp2
          go_loopw [8] (fun i wr => ∃ u : Nat, u ≤ m ∧ i = .int .i64 (u : Int) ∧ Ps w p g (upd B L false) (upd B (L.take u) false) wr) (fun i _ => m - (intOf i).toNat)
          case atStart => exact ⟨0, Nat.zero_le _, rfl, by rw [List.take_zero, upd_nil]; exact hq.out⟩
          case round =>
            obtain ⟨u, hu, rfl, h1⟩ := hrel
            have hr := Lib.hid h1
            clear h1 hq
            have c0 := (hr.out.bel.cell (p := ⟨b, o + t * 2, none⟩) hbS).trans H0.out
            have c1 := (hr.out.bel.cell (p := ⟨b, o + t * 2 + 1, none⟩) hbS).trans H1.out
            by_cases hlu : u < m
            · have hui : (u : Int) < (m : Int) := by omega
              have hu40 : (u : Int) < 40 := by omega
              obtain ⟨v, hv⟩ : ∃ v, L[u]? = some v := ⟨_, List.getElem?_eq_getElem (by rw [HM.out]; exact hlu)⟩
              obtain ⟨b2, o2, rfl, _, hcv⟩ := (hsr.out.below hr.out.bel) (by rw [HM.out]; omega)
              have c2 := hcv u v hv
              clear hcv
              by_cases h1 : 1 ≤ v
              · have t1 : decide (1 ≤ v) = true := by simp; omega
                by_cases h2 : v ≤ 256
                · have t2 : decide (v ≤ 256) = true := by simp; omega
                  obtain ⟨q, rfl⟩ : ∃ q : Nat, v = (q : Int) := ⟨v.toNat, by omega⟩
                  have hq258 : (q : Int) < 258 := by omega
                  obtain ⟨f, ho, _⟩ := hr.out.o
                  have c3 := ho.at_ (j := q) (by omega)
                  have c4 := ho.frozen q
                  have HP := Lib.hid (hr.out.put q false (by omega) (upd B (L.take (u + 1)) false) (upd_step hv))
                  clear ho hv h1 h2
                  go_wp2
                  go_roundw
                  case rel => exact ⟨u + 1, by omega, by go_num, HP.out⟩
                  case measure => simp [intOf]; omega
                · have t2 : decide (v ≤ 256) = false := by simp; omega
                  have HP := Lib.hid (ps_out hr.out hv (by omega))
                  clear hv h1 h2
                  go_wp2
                  go_roundw
                  case rel => exact ⟨u + 1, by omega, by go_num, HP.out⟩
                  case measure => simp [intOf]; omega
              · have t1 : decide (1 ≤ v) = false := by simp; omega
                have HP := Lib.hid (ps_out hr.out hv (by omega))
                clear hv h1
                go_wp2
                go_roundw
                case rel => exact ⟨u + 1, by omega, by go_num, HP.out⟩
                case measure => simp [intOf]; omega
            · obtain rfl : u = m := by omega
              have h1 := hr.out
              rw [List.take_of_length_le (by rw [HM.out]; omega)] at h1
              have hr2 := Lib.hid h1
              clear h1
              go_wp2
              go_roundw
              case rel => exact ⟨t + 1, _, by omega, by go_num, hr2.out⟩
              case measure => simp [intOf]; omega
    · obtain rfl : t = n := by omega
      clear HA
      obtain ⟨i0, hi, hz0, hz1, hz2⟩ := info_parts info3
      go_wp2
      generalize hwb : wr = wb at *
      clear hwb
      go_loopw [10, 11, 12, 13] (fun r f a i wr => RelB B x wb r f a i wr) (fun _ _ _ i _ => 257 - (intOf i).toNat)
      case atStart => exact ⟨1, by omega, by omega, rfl, rfl, rfl, World.ownsRow_nil _ _ _ _, Below.refl _ _⟩
      case round =>
        obtain ⟨k, hk1, hk2, rfl, rfl, rfl, hown, hb⟩ := hrel
        have hps := Lib.hid (hp.out.below hb)
        have hrl := rowF_le B (k - 1)
        by_cases hk : k ≤ 256
        · have tk : decide ((k : Int) ≤ 256) = true := by simp; omega
          have hk258 : (k : Int) < 258 := by omega
          obtain ⟨f, ho, hf⟩ := hps.out.o
          have c1 := ho.at_ (j := k) (by omega)
          rw [hf k hk1 hk] at c1
          clear ho hf
          by_cases hB : B k = true
          · have HH := Lib.hid (fun N => has_any p B (k : Int) (wr.drewN N) (hps.out.a.drewN N) true (by rw [has_in (by omega) (by omega), Int.toNat_natCast]; exact hB))
            have HS := Lib.hid (step_yes x hk1 hB)
            rw [hB] at c1
            clear hB
            generalize nx B (k - 1) 1 = F at *
            generalize nx (aft B x) (k - 1) 1 = G at *
            generalize rowF B (k - 1) 1 = D at *
            obtain ⟨m, hm⟩ : ∃ m, D.length = m := ⟨_, rfl⟩
            rw [hm] at hown hrl
            have HM := Lib.hid hm
            have HOWN := Lib.hid hown
            have HB := Lib.hid hb
            clear hm hown hb
            by_cases hF : F = 0 <;> by_cases hG : G = 0 <;> by_cases hx : x < (k : Int)
            all_goals
              first | (have tF : ((F : Int) == 0) = true := by simp [hF]) | (have tF : ((F : Int) == 0) = false := by simp [hF])
              first | (have tG : ((G : Int) == 0) = true := by simp [hG]) | (have tG : ((G : Int) == 0) = false := by simp [hG])
              first | (have tx : decide (x < (k : Int)) = true := by simp [hx]) | (have tx : decide (x < (k : Int)) = false := by simp [hx])
              have HF := Lib.hid hF
              have HG := Lib.hid hG
              have HX := Lib.hid hx
              clear hF hG hx
              go_wp2
              go_quiet ((go_at_call 10; exact Calls.quiet_of (HH.out _)))
              have hownq : (wr.drewN nq).ownsRow wb.heap.size 3 1 _ m (vals D) := HOWN.out
              have hbq : Below wb.heap.size wb (wr.drewN nq) := HB.out.trans (below_drewN _ _ _)
              have hszq := hbq.size
              have c1q : (wr.drewN nq).cell? ⟨g, k, none⟩ = some (.bool true) := c1
              generalize wr.drewN nq = wq at *
              go_wp2_with (at_builtin; refine wpList_append_own _ rfl _ _ 29 rfl wb.heap.size 3 i0 (.int .i64 0) 1 8 Tryd.underlying29 hi hz0 hz1 hz2 rfl (by decide) _ _ _ rfl (hownq.alloc _) ⟨wq.heap.size, 0, none⟩ 1 1 [.int .i64 (k : Int)] rfl rfl (cell_one_new _ _ _) (by intro u hu; simp at hu; subst hu; rfl) (by unfold maxLen; omega) (by omega) (by simp; omega) ?_; intro v1 w1 hown1 hgrow1 hnil1)
              have hb2 : Below wb.heap.size wb w1 := (hbq.alloc hbq.size _).grown hgrow1 (by simp; omega) (fun k hk => (hownq.lt k hk).1)
              clear hnil1 hgrow1 hownq hbq
              go_wp2
              go_roundw
              case rel =>
                refine ⟨k + 1, by omega, by omega, by go_num, ?_, ?_, ?_, hb2⟩
                · rw [HS.out.2.1]; first | rw [if_pos HF.out] | rw [if_neg HF.out]
                · rw [HS.out.2.2]; first | rw [if_neg HG.out] | rw [if_pos HG.out, if_pos HX.out] | (rw [if_pos HG.out, if_neg (by have := HX.out; omega), HG.out])
                · rw [HS.out.1, List.length_append, HM.out]
                  simpa [vals] using hown1
              case measure => simp [intOf]; omega
          · have hB' : B k = false := by simpa using hB
            have HH := Lib.hid (fun N => has_any p B (k : Int) (wr.drewN N) (hps.out.a.drewN N) false (by rw [has_in (by omega) (by omega), Int.toNat_natCast]; exact hB'))
            have HS := Lib.hid (step_no x hk1 hB')
            rw [hB'] at c1
            have HOWN := Lib.hid hown
            have HB := Lib.hid hb
            clear hB hB' hown hb
            go_wp2
            go_quiet ((go_at_call 10; exact Calls.quiet_of (HH.out _)))
            go_wp2
            go_roundw
            case rel =>
              refine ⟨k + 1, by omega, by omega, by go_num, by rw [HS.out.2.1], by rw [HS.out.2.2], ?_, HB.out.trans (below_drewN _ _ _)⟩
              rw [HS.out.1]
              exact HOWN.out
            case measure => simp [intOf]; omega
        · obtain rfl : k = 257 := by omega
          have tk : decide (((257 : Nat) : Int) ≤ 256) = false := by decide
          have HF := Lib.hid (first_any p B wr hps.out.a hps.out.tab (nx B (257 - 1) 1) rfl)
          have HG := Lib.hid (after_any p B x wr hps.out.a hps.out.tab (nx (aft B x) (257 - 1) 1) (by rw [show (257 - 1 : Nat) = 256 from rfl, aft_nxt]))
          have HD := Lib.hid (show row B 0 = rowF B (257 - 1) 1 from rfl)
          generalize nx B (257 - 1) 1 = F at *
          generalize nx (aft B x) (257 - 1) 1 = G at *
          generalize rowF B (257 - 1) 1 = D at *
          obtain ⟨m, hm⟩ : ∃ m, D.length = m := ⟨_, rfl⟩
          rw [hm] at hown hrl
          have HM := Lib.hid hm
          obtain ⟨X, kX, rfl, hX⟩ := own_rw hm hown
          have HX := Lib.hid hX
          clear hm hown hb hX
          unfold tell at HF HG
          go_wp2_with fail
          refine HF.out.mono ?_
          rintro e w' ⟨rfl, rfl⟩
          go_wp2_with fail
          refine HG.out.mono ?_
          rintro e w' ⟨rfl, rfl⟩
          go_wp2_with fail
          refine (row_any p B wr hps.out.a hps.out.tab m (by rw [HD.out]; exact HM.out)).mono ?_
          rintro e w3 ⟨Y, kY, rfl, h1, h2⟩
          have hp3 := Lib.hid (hps.out.below h2)
          have HX3 := Lib.hid (HX.out.below h2)
          rw [HD.out] at h1
          have HY := Lib.hid h1
          clear h1 h2 hps HX HF HG
          have eF : decide ((0 : Int) < (F : Int)) = decide (0 < F) := by simp
          have eG : decide ((0 : Int) < (G : Int)) = decide (0 < G) := by simp
          go_wp2_with fail
          refine (len_any p B w3 hp3.out.a m (by rw [HD.out]; exact HM.out)).mono ?_
          rintro e w' ⟨rfl, rfl⟩
          go_wp2_with fail
          refine (has_any p B 0 w3 hp3.out.a false (has_out (by omega))).mono ?_
          rintro e w' ⟨rfl, d1, rfl⟩
          go_wp2_with fail
          refine (has_any p B 257 (w3.drewN d1) (hp3.out.a.drewN d1) false (has_out (by omega))).mono ?_
          rintro e w' ⟨rfl, d2, rfl⟩
          go_wp2_with fail
          refine (has_any p B (-1) (w3.drewN (d1 + d2)) (hp3.out.a.drewN _) false (has_out (by omega))).mono ?_
          rintro e w' ⟨rfl, d3, rfl⟩
          go_wp2
          go_loopw [19] (fun i wr => ∃ u : Nat, u ≤ m ∧ i = .int .i64 (u : Int) ∧ Below w.heap.size w wr ∧ Rw wr X D ∧ Rw wr Y D) (fun i _ => m - (intOf i).toNat)
          case atStart => exact ⟨0, Nat.zero_le _, rfl, (hp3.out.drewN _).bel, HX3.out.below (below_drewN _ _ _), HY.out.below (below_drewN _ _ _)⟩
          case round =>
            obtain ⟨u, hu, rfl, h1, h2, h3⟩ := hrel
            have hbz := Lib.hid h1
            have hx := Lib.hid h2
            have hy := Lib.hid h3
            clear h1 h2 h3 hp3 HX3 HY
            by_cases hlt : u < m
            · have hti : (u : Int) < (m : Int) := by omega
              have hu256 : (u : Int) < 256 := by omega
              obtain ⟨v, hv⟩ : ∃ v, D[u]? = some v := ⟨_, List.getElem?_eq_getElem (by rw [HM.out]; exact hlt)⟩
              obtain ⟨b1, rfl, _, hg⟩ := hx.out (by rw [HM.out]; omega)
              obtain ⟨b2, rfl, _, hg'⟩ := hy.out (by rw [HM.out]; omega)
              have c1 := hg u v hv
              have c2 := hg' u v hv
              clear hg hg' hv
              go_wp2
              go_quiet (fail)
              go_wp2
              go_roundw
              case rel => exact ⟨u + 1, by omega, by go_num, hbz.out.trans (below_drewN _ _ _), hx.out.below (below_drewN _ _ _), hy.out.below (below_drewN _ _ _)⟩
              case measure => simp [intOf]; omega
            · obtain rfl : u = m := by omega
              go_wp2
              go_ret
              exact ⟨rfl, hbz.out⟩
end Go.Proofs.YtdhemejipkaopaaDoor.bitsPlays
