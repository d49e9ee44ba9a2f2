/- The document's own timers: Due; the two rows of args held against each other; Same. -/
import Derived.Test.YtpnhpgdidineaaaRefC
namespace Go.Proofs.Ytpnhpgdidineaaa
open Go.RowKit

theorem del_head {s : En} {S : List En} (h : (s :: S).Pairwise fun x y => x.2.1 ≠ y.2.1) : del (s :: S) s.2.1 = S := by
  have := del_none (S := S) (h := s.2.1) fun y hy => Ne.symm ((List.pairwise_cons.1 h).1 y hy)
  unfold del at *
  rw [List.filter_cons, if_neg (by simp)]; exact this
/-- the document's timers stay where no block but one of numbers turned -/
theorem Rf.num {w w' : World} {q : Nat} {S : List En} {last : Int} (h : Rf w q S last) (k : ∀ i, i < w.heap.size → (∀ cs fr, w.heap[i]? ≠ some (.cells cs 3 fr)) → w'.heap[i]? = w.heap[i]?) : Rf w' q S last := by
  obtain ⟨⟨L, v, a1, a2, a3, a4⟩, hG⟩ := h
  refine ⟨⟨L, v, a1, a2, (k q (lt_of_heap a3) fun cs fr h2 => ?_).trans a3, own_keep a4 fun g cs hg _ => k g (lt_of_heap hg) fun cs2 fr h2 => ?_⟩, hG⟩
  · rw [a3] at h2; injection h2 with h2; injection h2 with _ h3; cases h3
  · rw [hg] at h2; injection h2 with h2; injection h2 with _ h3; cases h3

/-- what Due has done when it has taken D -/
structure RDue1 (w : World) (q : Nat) (S : List En) (last now : Int) (v : Value) (wr : World) (D S1 : List En) : Prop where
  app : S = D ++ S1
  le : ∀ x, x ∈ D → x.1 ≤ now
  rf : Rf wr q S1 last
  only : Only q q w wr
  own : wr.ownsRow w.heap.size 3 1 v D.length (vals ci (args D))
theorem RDue1.next {w : World} {q : Nat} {S : List En} {last now : Int} {v v' : Value} {wr w' : World} {D S1 S2 : List En} {s : En} (h : RDue1 w q S last now v wr D S1) (e : S1 = s :: S2) (hs : s.1 ≤ now) (ht : Rf w' q S2 last) (ho : Only q q w w') (hn : w'.ownsRow w.heap.size 3 1 v' (D.length + 1) (vals ci (args D ++ [s.2.2]))) : RDue1 w q S last now v' w' (D ++ [s]) S2 := by
  refine ⟨by rw [h.app, e]; simp, fun x hx => ?_, ht, ho, ?_⟩
  · rcases List.mem_append.1 hx with hx | hx
    · exact h.le x hx
    · simp at hx; subst hx; exact hs
  · have e1 : args (D ++ [s]) = args D ++ [s.2.2] := by simp [args]
    rw [e1, List.length_append]; exact hn

set_option maxHeartbeats 3200000 in
theorem rdue_any (w : World) (q : Nat) (S : List En) (last : Int) (h : Rf w q S last) (now : Int) (n : Nat) (hn : (due S now).length = n) :
    Calls Try.prog 35 #[.pointer (some ⟨q, 0, none⟩), .int .u64 now] w fun e w' => ∃ X k, e = .returned (.slice X n k) ∧ w'.ownsRow w.heap.size 3 1 (.slice X n k) n (vals ci (args (due S now))) ∧ Rf w' q (rst S now) last ∧ Only q q w w' := by
  have hlen := h.good.len
  have hql := h.lt
  have HT := Lib.hid h
  have HN := Lib.hid hn
  obtain ⟨N, hN⟩ : ∃ N, S.length = N := ⟨_, rfl⟩
  rw [hN] at hlen
  have HNN := Lib.hid hN
  clear h hn hN
  go_enter Try.func35, Try.ntmps35
  go_wp2_with fail
  go_loopw [5] (fun v wr => ∃ (D S1 : List En), Hid (RDue1 w q S last now v wr D S1)) (fun v _ => N - sln v)
  case atStart => exact ⟨[], S, ⟨rfl, fun x hx => by simp at hx, HT.out, Only.refl _ _ _, World.ownsRow_nil _ _ _ _⟩⟩
  case round =>
    obtain ⟨D, S1, hI⟩ := hrel
    obtain ⟨X0, k0, hv0, _⟩ := own_form hI.out.own
    obtain ⟨L, X, k, hp, hL, hl, hh, hE, hk1, hk2⟩ := hI.out.rf.open
    have hDS : D.length + S1.length = N := by rw [← HNN.out, hI.out.app, List.length_append]
    obtain ⟨m, hm⟩ : ∃ m, S1.length = m := ⟨_, rfl⟩
    rw [hm] at hh hl hE hk1 hDS
    have HF := Lib.hid (least_any q m k X L (.int .i64 last) wr hh hE hl (by omega))
    have HV := Lib.hid hv0
    have HM := Lib.hid hm
    have HHH := Lib.hid hh
    have HE := Lib.hid hE
    have HL := Lib.hid hl
    have HP := Lib.hid hp
    have HLL := Lib.hid hL
    clear hh hE hl hp hL hv0 hm
    go_wp2_with fail
    refine HF.out.mono ?_
    rintro e w1 ⟨⟨dr, hdr⟩, hr⟩
    clear HF
    have ho1 : Only q q w w1 := by rw [hdr]; exact hI.out.only.drewN dr
    have own1 : w1.ownsRow w.heap.size 3 1 u5 D.length (vals ci (args D)) := by rw [hdr]; exact hI.out.own
    have rf1 : Rf w1 q S1 last := by rw [hdr]; exact hI.out.rf.drewN dr
    have hh1 : w1.heap[q]? = some (.cells #[.slice X m k, .int .i64 last] 64 (0, 0)) := by rw [hdr]; exact HHH.out
    have hE1 : w1.ownsRow 0 89 3 (.slice X m k) m (vals cr L) := by rw [hdr]; exact HE.out
    clear hdr
    have HO1 := Lib.hid ho1
    have HOWN1 := Lib.hid own1
    have HRF1 := Lib.hid rf1
    rcases hr with ⟨h0, rfl⟩ | ⟨r, rfl, hls⟩
    · have hS1 : S1 = [] := List.eq_nil_of_length_eq_zero (by rw [HM.out]; exact h0)
      have HS1 := Lib.hid hS1
      clear hh1 hE1 ho1 own1 rf1 hS1
      go_wp2
      go_ret
      obtain ⟨e1, e2⟩ := due_end hI.out.app hI.out.le (fun s S2 h => by rw [HS1.out] at h; cases h)
      have hDn : D.length = n := by rw [← e1]; exact HN.out
      refine ⟨X0, k0, ?_, ?_, by rw [e2]; exact HRF1.out, HO1.out⟩
      · show Ending.returned _ = _
        rw [← hDn]; exact congrArg Ending.returned HV.out
      · rw [e1]
        have := HOWN1.out
        rw [HV.out, hDn] at this; exact this
    · cases hS1 : S1 with
      | nil => have h1 := HM.out; rw [hS1] at h1; simp at h1; have h2 := hls.1; omega
      | cons s S2 =>
        have hrs : ix L r = s := ls_end (by have := HP.out; rw [hS1] at this; exact this) (by have := HRF1.out.good.srt; rw [hS1] at this; exact this) HLL.out (by rw [HL.out]; exact hls)
        have HS1 := Lib.hid hS1
        obtain ⟨b, rfl, hc⟩ := own_cr hE1 HL.out (by have := hls.1; omega)
        have hrm : r < m := hls.1
        obtain ⟨d0, d1, d2⟩ := hc r hrm
        rw [hrs] at d0 d1 d2
        have c0 : w1.cell? ⟨q, 0, none⟩ = some (.slice (some ⟨b, 0, none⟩) m k) := by rw [cell_of_row w1 q 0 _ 64 (0, 0) hh1]; rfl
        have i0 : decide ((r : Int) < 0) = false := by simp <;> omega
        have i1 : (r : Int) < (m : Int) := by omega
        have HRS := Lib.hid hrs
        have HHH1 := Lib.hid hh1
        have HE1 := Lib.hid hE1
        clear hh1 hE1 ho1 own1 rf1 hc hls hS1 hrs
        by_cases c : s.1 ≤ now
        · have i2 : decide (now < s.1) = false := by simp; omega
          have HCC := Lib.hid c
          have b63 : D.length + 1 ≤ 100000 := by omega
          have own2a : (w1.alloc (.cells (ci s.2.2).toArray 3)).ownsRow w.heap.size 3 1 u5 D.length (vals ci (args D)) := HOWN1.out.alloc _
          have src := sr_one ci w1 3 s.2.2
          have hba : w.heap.size ≤ (w1.alloc (.cells (ci s.2.2).toArray 3)).heap.size := by have := HO1.out.size; simp; omega
          have HAL := Lib.hid (args_len D)
          obtain ⟨dn, hdn⟩ : ∃ dn, D.length = dn := ⟨_, rfl⟩
          rw [hdn] at own2a b63 hDS HAL
          have HDN := Lib.hid hdn
          have hvb : ∀ i, u5.ownBlock = some i → w.heap.size ≤ i := fun i hi => (HOWN1.out.lt i hi).1
          have hv3 : ∀ i, u5.ownBlock = some i → ∃ cs, w1.heap[i]? = some (.cells cs 3 (0, 0)) := fun i hi => by
            rcases HOWN1.out.2 with ⟨e1, _⟩ | ⟨g', cap, cur, e1, _, e2, _⟩
            · rw [e1] at hi; cases hi
            · rw [e1] at hi; injection hi with hi; subst hi; exact ⟨_, e2⟩
          have HVB := Lib.hid hvb
          have HV3 := Lib.hid hv3
          clear c hdn hvb hv3
          go_wp2_with (first
            | (at_builtin; refine wpList_append_row ki (by omega) rfl _ _ rfl w.heap.size u5 (args D) [s.2.2] dn HAL.out rfl own2a _ 1 1 rfl rfl src b63 hba (dn + 1) rfl ?_; intro X5 k5 w5 hown5 hgrow5; have hk : ∀ i, i < w1.heap.size → (∀ cs fr, w1.heap[i]? ≠ some (.cells cs 3 fr)) → w5.heap[i]? = w1.heap[i]? := (fun i hi hc => (hgrow5.block i (by simp; omega) (fun e => by obtain ⟨cs, h3⟩ := HV3.out i e.symm; exact hc _ _ h3)).trans (Below.heap_alloc w1 _ i hi)); have hq5 := (hk q (lt_of_heap HHH1.out) (fun cs fr h2 => by rw [HHH1.out] at h2; injection h2 with h2; injection h2 with _ h3; cases h3)).trans HHH1.out; have c5 : w5.cell? ⟨q, 0, none⟩ = some (.slice (some ⟨b, 0, none⟩) m k) := (cell_of_row w5 q 0 _ 64 (0, 0) hq5).trans rfl; have hE5 := own_keep HE1.out (w' := w5) (fun g cs hg _ => hk g (lt_of_heap hg) (fun cs2 fr h2 => by rw [hg] at h2; injection h2 with h2; injection h2 with _ h3; cases h3)); obtain ⟨b', hb', hc5⟩ := own_cr hE5 HL.out (by omega); injection hb' with hb'; injection hb' with hb'; subst hb'; have hd5 := (hc5 r hrm).1; rw [HRS.out] at hd5; have HK := Lib.hid hk; have HQ5 := Lib.hid hq5; have HOWN5 := Lib.hid hown5; have HGR := Lib.hid hgrow5; clear hk hc5 hE5 hq5 hown5 hgrow5))
          have rf5 : Rf w5 q S1 last := HRF1.out.num HK.out
          have hgd := HRF1.out.good
          rw [HS1.out] at rf5 hgd
          have HRC := Lib.hid (rcancel_any w5 q (s :: S2) last rf5 s.2.1 true (by rw [fnd_some hgd.apart List.mem_cons_self]; rfl))
          have ho5 : Only q q w w5 := by
            refine ⟨HGR.out.os.trans HO1.out.os, HGR.out.tape.trans HO1.out.tape, HGR.out.output.trans HO1.out.output, Nat.le_trans hba HGR.out.size, fun i hi h1 h2 => ?_⟩
            have h3 := HO1.out.size
            exact (HGR.out.block i (by simp; omega) (fun e => by have := HVB.out i e.symm; omega)).trans ((Below.heap_alloc w1 _ i (by omega)).trans (HO1.out.block i hi h1 h2))
          have HO5 := Lib.hid ho5
          have HGD := Lib.hid hgd
          clear hd5 c5 rf5 ho5 hgd own2a src hba d0 d1 d2 c0
          refine HRC.out.mono ?_
          rintro e w6 ⟨rfl, rf6, ho6⟩
          rw [del_head HGD.out.apart] at rf6
          have own6 := own_keep HOWN5.out (w' := w6) (fun g cs hg _ => ho6.block g (lt_of_heap hg) (by rintro rfl; rw [HQ5.out] at hg; injection hg with h2; injection h2 with _ h3; cases h3) (by rintro rfl; rw [HQ5.out] at hg; injection hg with h2; injection h2 with _ h3; cases h3))
          have HRF6 := Lib.hid rf6
          have HO6 := Lib.hid (HO5.out.trans ho6)
          have HOWN6 := Lib.hid own6
          clear rf6 ho6 own6 HRC
          go_wp2
          go_roundw
          case rel =>
            refine ⟨D ++ [s], S2, hI.out.next HS1.out HCC.out HRF6.out HO6.out ?_⟩
            rw [HDN.out]; exact HOWN6.out
          case measure =>
            have e1 : sln u5 = dn := by rw [HV.out]; exact HDN.out
            have h2 := HS1.out
            rw [e1]; simp [sln]; omega
        · have i2 : decide (now < s.1) = true := by simp; omega
          have HCC := Lib.hid c
          clear c
          go_wp2
          go_ret
          obtain ⟨e1, e2⟩ := due_end hI.out.app hI.out.le (fun s' S2' h => by rw [HS1.out] at h; injection h with h _; subst h; have := HCC.out; omega)
          have hDn : D.length = n := by rw [← e1]; exact HN.out
          refine ⟨X0, k0, ?_, ?_, by rw [e2]; exact HRF1.out, HO1.out⟩
          · show Ending.returned _ = _
            rw [← hDn]; exact congrArg Ending.returned HV.out
          · rw [e1]
            have := HOWN1.out
            rw [HV.out, hDn] at this; exact this

set_option maxHeartbeats 800000 in
theorem lsame_any (w : World) (B1 B2 : Nat) (X Y : Option Addr) (n k j : Nat) (M : List Int) (hX : w.ownsRow B1 3 1 (.slice X n k) n (vals ci M)) (hY : w.ownsRow B2 3 1 (.slice Y n j) n (vals ci M)) (hn : M.length = n) (hn2 : n ≤ 256) :
    Calls Try.prog 15 #[.slice X n k, .slice Y n j] w fun e w' => e = .returned (.bool true) ∧ ∃ d, w' = w.drewN d := by
  have HX := Lib.hid hX
  have HY := Lib.hid hY
  have HN := Lib.hid hn
  clear hX hY hn
  go_enter Try.func15, Try.ntmps15
  go_wp2
  go_loopw [5] (fun i wr => ∃ t : Nat, t ≤ n ∧ i = .int .i64 (t : Int) ∧ Hid (∃ d, wr = w.drewN d)) (fun i _ => n - (intOf i).toNat)
  case atStart => exact ⟨0, by omega, rfl, ⟨0, rfl⟩⟩
  case round =>
    obtain ⟨t, ht, rfl, hD⟩ := hrel
    by_cases hlt : t < n
    · have i1 : (t : Int) < (n : Int) := by omega
      obtain ⟨dr, hdr⟩ := hD.out
      obtain ⟨b, rfl, _, _, hb⟩ := own_int HX.out HN.out (by omega)
      obtain ⟨c, rfl, _, _, hc⟩ := own_int HY.out HN.out (by omega)
      obtain ⟨x, hx⟩ : ∃ x, M[t]? = some x := ⟨_, List.getElem?_eq_getElem (by rw [HN.out]; exact hlt)⟩
      have d1 : wr.cell? ⟨b, t, none⟩ = some (.int .i64 x) := by rw [hdr]; exact hb t x hx
      have d2 : wr.cell? ⟨c, t, none⟩ = some (.int .i64 x) := by rw [hdr]; exact hc t x hx
      have HD2 : Hid (∃ d, wr = w.drewN d) := ⟨dr, hdr⟩
      clear hb hc hx hdr hD
      go_wp2
      go_big_quiet (fail)
      go_wp2
      go_roundw
      case rel =>
        obtain ⟨d9, e9⟩ := HD2.out
        exact ⟨t + 1, by omega, by go_num, ⟨d9 + nq, by rw [e9]; simp [World.drewN, Nat.add_assoc]⟩⟩
      case measure => simp [intOf]; omega
    · have i1 : decide ((t : Int) < (n : Int)) = false := by simp; omega
      go_wp2
      go_ret
      exact ⟨rfl, hD.out⟩

/-- what both tell of the least time, of one handle -/
theorem next_both (w : World) (B p g q : Nat) (S : List En) (last : Int) (h : Tm w B p g S last) (hr : Rf w q S last) : ∃ (r : Int) (ok : Bool),
    (Calls Try.prog 40 #[.pointer (some ⟨p, 0, none⟩)] w fun e w' => e = .returned (.tuple #[.int .u64 r, .bool ok]) ∧ w = w') ∧ (Calls Try.prog 41 #[.pointer (some ⟨q, 0, none⟩)] w fun e w' => e = .returned (.tuple #[.int .u64 r, .bool ok]) ∧ ∃ d, w' = w.drewN d) := by
  cases S with
  | nil => exact ⟨0, false, next_none w B p g last h, rnext_none w q last hr⟩
  | cons s S => exact ⟨s.1, true, next_some w B p g s S last h, rnext_some w q s S last hr⟩
theorem left_both (w : World) (B p g : Nat) (S : List En) (last : Int) (h : Tm w B p g S last) (hd now : Int) : ∃ (r : Int) (ok : Bool),
    (Calls Try.prog 42 #[.pointer (some ⟨p, 0, none⟩), .int .i64 hd, .int .u64 now] w fun e w' => e = .returned (.tuple #[.int .i64 r, .bool ok]) ∧ Below w.heap.size w w') ∧ ∀ (w1 : World) (q : Nat), Rf w1 q S last → (Calls Try.prog 43 #[.pointer (some ⟨q, 0, none⟩), .int .i64 hd, .int .u64 now] w1 fun e w' => e = .returned (.tuple #[.int .i64 r, .bool ok]) ∧ w1 = w') := by
  cases hf : fnd S hd with
  | none => exact ⟨0, false, left_none w B p g S last h hd now hf, fun w1 q hr => rleft_none w1 q S last hr hd now hf⟩
  | some x => exact ⟨_, true, left_some w B p g S last h hd now x hf _ rfl, fun w1 q hr => rleft_some w1 q S last hr hd now x hf _ rfl⟩

theorem call_sym {P : Program} {f : FuncId} {args : Array Value} {w : World} {v : Value} (h : Calls P f args w fun e w' => e = .returned v ∧ w = w') : Calls P f args w fun e w' => e = .returned v ∧ w' = w := h.mono fun _ _ ⟨h1, h2⟩ => ⟨h1, h2.symm⟩

end Go.Proofs.Ytpnhpgdidineaaa
