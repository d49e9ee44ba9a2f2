/- Contracts of package mbx: Poll, add. -/
import Derived.Test.YtapogohekfeiiaaMxA
import Derived.StillTailTactics
namespace Go.Proofs.Ytapogohekfeiiaa
open Go.RowKit
set_option maxRecDepth 100000

theorem in0 : In64 0 := ⟨by omega, by omega⟩
/-- the ring without its first message -/
theorem Mr.poll {w : World} {n c : Nat} {x : It} {M : List It} {u : Int} {hh : Int → Bool} (hn : (0 :: ids (x :: M)).Nodup) (hu : nxt (0 :: ids (x :: M)) x.1 = u) (h4 : ∀ k, k ≠ 0 → hh k = decide (k ∈ ids (x :: M)))
    (h : Mp w n c (fun j => if j = x.1 then 0 else if j = 0 then u else nxt (0 :: ids (x :: M)) j) (fun j => if j = x.1 then false else if j = 0 then true else hh j)) : Mr w n c M := by
  refine ⟨_, h.congr fun k => ?_, fun k hk => ?_⟩
  · rw [← hu]; exact nxt_del (t := ids M) hn k
  · by_cases e : k = x.1
    · subst e
      simp only [ids, List.map_cons, List.nodup_cons] at hn
      rw [if_pos rfl, eq_comm, decide_eq_false_iff_not]
      exact hn.2.1
    · rw [if_neg e, if_neg hk, h4 k hk]
      congr 1
      simp [ids, e]

set_option maxHeartbeats 1600000 in
theorem poll_any (s q n c : Nat) (S S' : St) (r : Int) (o : Bool) (w : World) (h : Bx w s q n c S) (hf : Fine S) (hc : c < 90000) (hs : poll S = (S', r, o)) :
    Calls Try.prog 14 #[.pointer (some ⟨s, 0, none⟩)] w fun e w' => e = .returned (.tuple #[.int .i64 r, .bool o]) ∧ Bx w' s q n (c + 1) S' ∧ On3 s q n w w' := by
  obtain ⟨b, L, mp, m, M⟩ := S
  have hsn := h.sn
  have hqn := h.qn
  have hsq := h.sq
  have hg := hf.g
  have HX := Lib.hid h
  obtain ⟨h1, h2, hh, h3, h4⟩ := h
  simp only at h1 h2 h3 h4 hg
  have d3 := h1.c3
  unfold poll at hs
  cases M with
  | nil =>
    simp only [Prod.mk.injEq] at hs
    obtain ⟨rfl, rfl, rfl⟩ := hs
    have l0 := h3.look (k := 0) in0
    rw [show nxt (0 :: ids []) 0 = 0 from rfl] at l0
    clear h1 h2 h3 h4 hf hg
    go_enter Try.func14, Try.ntmps14
    go_wp2
    go_ret2
    exact ⟨rfl, HX.out.mono (by omega), On3.refl _ _ _ _⟩
  | cons x M =>
    simp only [Prod.mk.injEq] at hs
    obtain ⟨rfl, rfl, rfl⟩ := hs
    have hnd := hg.nd
    have hx0 : x.1 ≠ 0 := fun e => (List.nodup_cons.1 hnd).1 (mem_ids.2 ⟨x, by simp, e⟩)
    have hxw : In64 x.1 := hg.wf x (by simp)
    have l0 := h3.look (k := 0) in0
    rw [show nxt (0 :: ids (x :: M)) 0 = x.1 from by simp [ids, nxt]] at l0
    have lx := h3.look (k := x.1) hxw
    have huw : In64 (nxt (0 :: ids (x :: M)) x.1) := nxt_wf hg
    obtain ⟨u, hu⟩ : ∃ u, nxt (0 :: ids (x :: M)) x.1 = u := ⟨_, rfl⟩
    rw [hu] at lx huw
    have lx2 : ∀ W : World, W.heap = w.heap → (Instr.lookup 45 (.map (some n)) (.int .i64 x.1) false).run Try.prog W = .ok (.int .i64 u) W := fun W hW => by
      have := (h3.keep (w' := W) (by rw [hW])).look (k := x.1) hxw
      rw [hu] at this; exact this
    have lx := lx2 w.drew rfl
    have HU := Lib.hid hu
    have HG := Lib.hid hg
    have HND := Lib.hid hnd
    have HW := Lib.hid hxw
    have HV := Lib.hid huw
    have H4 := Lib.hid h4
    have H2 := Lib.hid h2
    have t0 : (x.1 == 0) = false := by simpa using hx0
    have H3 := Lib.hid h3
    have K1 := Lib.hid h1
    have HX0 := Lib.hid hx0
    clear hf hg hnd hu hx0 h1 h2 h3 h4 HX huw hxw
    go_enter Try.func14, Try.ntmps14
    go_wp2
    go_still_tail 10, (by kernel_rfl)
    change wpList _ _ _ _ _ w.drew
    have K2 : Bk w.drew s q n mp m (lst mp (x :: M)) := K1.out
    have M2 : Mp w.drew n c (nxt (0 :: ids (x :: M))) hh := H3.out
    have L2 : Ln w.drew q 55 b L := H2.out
    have O2 : On3 s q n w w.drew := (On3.refl _ _ _ _).drew
    clear d3 l0 lx
    generalize w.drew = w1 at *
    have KH := Lib.hid K2
    have LH := Lib.hid L2
    have OH := Lib.hid O2
    have MH := Lib.hid M2
    clear K2 L2 O2 M2
    go_wp2_with (first
      | (refine wpList_put_mp rfl _ _ _ rfl (n := n) rfl MH.out (by omega) (k := 0) (d := u) rfl rfl in0 HV.out ?_
         intro w2 MH2 ho2
         have d3 := (KH.out.only ho2 hsn).c3)
      | (refine wpList_del_mp rfl _ _ rfl (n := n) rfl MH2 (k := x.1) rfl HW.out ?_
         intro w3 MH3 ho3
         have z3 := (KH.out.only ho2 hsn).only ho3 hsn))
    have HI := Lib.hid (index_any s (lst mp (x :: M)) x.1 w3 (fun i hi => z3.cl hi))
    have O3 := Lib.hid ((OH.out.trans (.at_n ho2)).trans (.at_n ho3))
    have L3 := Lib.hid ((LH.out.only ho2 hqn).only ho3 hqn)
    have M3 := Lib.hid (Mr.poll HND.out HU.out H4.out MH3)
    have K3 := Lib.hid z3
    clear MH2 MH3 ho2 ho3 z3 d3 lx lx2
    refine HI.out.mono ?_
    rintro e w4 ⟨rfl, hr⟩
    clear HI
    rcases hr with ⟨rfl, hr⟩ | ⟨i, hi, rfl, hr⟩
    · have HR := Lib.hid hr
      clear hr
      go_wp2
      go_ret2
      exact ⟨rfl, ⟨K3.out.congr fun i hi => lst_lost HND.out (HR.out i hi), L3.out, M3.out⟩, O3.out⟩
    · have t1 : (0 : Int) ≤ (i : Int) := by omega
      have t2 : (i : Int) < 256 := by omega
      have z5 := K3.out.fz (4 + i)
      have c5 := K3.out.cl hi
      have HR := Lib.hid hr
      have K5 := Lib.hid (K3.out.set (g := lst mp M) i 0 hi fun j hj => lst_found HND.out hr (j : Int))
      clear hr
      go_wp2
      go_ret2
      exact ⟨rfl, ⟨K5.out, L3.out.keep (Below.heap_setCell _ _ _ _ (Ne.symm hsq)), M3.out.keep (Below.heap_setCell _ _ _ _ (Ne.symm hsn))⟩, O3.out.trans (.at_s ((Only.refl _ _).setCell (q := ⟨s, 4 + i, none⟩) (.inl rfl) _))⟩

/-- the ring with one message more -/
theorem Mr.put {w : World} {n c : Nat} {mp : Bool} {m : Int} {M : List It} {msg pri bf u : Int} {hh : Int → Bool} {A C : List Int} (hg : Gm mp m M) (hni : msg ∉ ids M) (h0 : msg ≠ 0) (h1 : 0 :: ids M = A ++ bf :: C)
    (h2 : 0 :: ids (ins M (plc mp M pri) (msg, pri)) = A ++ bf :: msg :: C) (hu : nxt (0 :: ids M) bf = u) (h4 : ∀ k, k ≠ 0 → hh k = decide (k ∈ ids M))
    (h : Mp w n c (fun j => if j = bf then msg else if j = msg then u else nxt (0 :: ids M) j) (fun j => if j = bf then true else if j = msg then true else hh j)) : Mr w n c (ins M (plc mp M pri) (msg, pri)) := by
  have hx : msg ∉ A ++ bf :: C := by rw [← h1]; simp only [List.mem_cons, not_or]; exact ⟨h0, hni⟩
  refine ⟨_, h.congr fun k => ?_, fun k hk => ?_⟩
  · rw [h2, nxt_ins k (by rw [← h1]; exact hg.nd) hx, ← h1, hu]
  · by_cases e : k = bf
    · subst e
      rw [if_pos rfl, eq_comm, decide_eq_true_iff, mem_ids_ins]
      have : k ∈ 0 :: ids M := by rw [h1]; simp
      rcases List.mem_cons.1 this with h | h
      · exact absurd h hk
      · exact .inr h
    · rw [if_neg e]
      by_cases e2 : k = msg
      · subst e2
        rw [if_pos rfl, eq_comm, decide_eq_true_iff, mem_ids_ins]
        exact .inl rfl
      · rw [if_neg e2, h4 k hk]
        congr 1
        rw [mem_ids_ins]
        simp [e2]

set_option maxHeartbeats 1600000 in
theorem madd_any (s q n c : Nat) (b : Bool) (L : List It) (mp : Bool) (m : Int) (M : List It) (w : World) (h : Bx w s q n c ⟨b, L, mp, m, M⟩) (hg : Gm mp m M) (hc : c < 90000) (msg pri : Int) (e : Nat) (he : (e : Int) = if mp = true then pri else 1) (he2 : e < 256)
    (h0 : msg ≠ 0) (hw : In64 msg) (hni : msg ∉ ids M) :
    Calls Try.prog 28 #[.pointer (some ⟨s, 0, none⟩), .int .i64 msg, .int .i64 (e : Int)] w fun r w' => r = .returned (.tuple #[]) ∧ Bx w' s q n (c + 2) ⟨b, L, mp, m, ins M (plc mp M pri) (msg, pri)⟩ ∧ On3 s q n w w' := by
  have hsn := h.sn
  have hqn := h.qn
  have hsq := h.sq
  obtain ⟨h1, h2, hh, h3, h4⟩ := h
  simp only at h1 h2 h3 h4
  have HU := Lib.hid (upto_any s q n mp m (lst mp M) e he2 w h1)
  have HG := Lib.hid hg
  have HE := Lib.hid he
  have H0 := Lib.hid h0
  have HW := Lib.hid hw
  have HN := Lib.hid hni
  have H1 := Lib.hid h1
  have H2 := Lib.hid h2
  have H3 := Lib.hid h3
  have H4 := Lib.hid h4
  have d3 := h1.c3
  have t2 : (e : Int) < 256 := by omega
  clear hg he h0 hw hni h1 h2 h3 h4
  go_enter Try.func28, Try.ntmps28
  go_wp2_with fail
  refine HU.out.mono ?_
  rintro r w1 ⟨rfl, p, rfl, hp, hp0, hz⟩
  obtain ⟨A, C, hA, hC⟩ := before_ok HG.out (p := (p : Int)) HE.out (by omega) (by rcases hp0 with rfl | h; exact .inl rfl; exact .inr h) (fun j h1 h2 => by
    obtain ⟨j', rfl⟩ : ∃ j' : Nat, j = (j' : Int) := ⟨j.toNat, by omega⟩
    exact hz j' (by omega) (by omega)) msg
  have hbw : In64 (lst mp M (p : Int)) := lst_wf HG.out
  generalize lst mp M (p : Int) = bf at *
  have huw : In64 (nxt (0 :: ids M) bf) := nxt_wf HG.out
  obtain ⟨u, hu⟩ : ∃ u, nxt (0 :: ids M) bf = u := ⟨_, rfl⟩
  rw [hu] at huw
  have lx2 : ∀ W : World, W.heap = w.heap → (Instr.lookup 45 (.map (some n)) (.int .i64 bf) false).run Try.prog W = .ok (.int .i64 u) W := fun W hW => by
    have := (H3.out.keep (w' := W) (by rw [hW])).look (k := bf) hbw
    rw [hu] at this; exact this
  have lx := lx2 w.drew rfl
  have HA := Lib.hid hA
  have HC := Lib.hid hC
  have HB := Lib.hid hbw
  have HV := Lib.hid huw
  have HUU := Lib.hid hu
  clear hp hp0 hz hA hC hbw huw hu HU
  go_wp2
  go_still_tail 11, (by kernel_rfl)
  change wpList _ _ _ _ _ w.drew
  have K2 : Bk w.drew s q n mp m (lst mp M) := H1.out
  have M2 : Mp w.drew n c (nxt (0 :: ids M)) hh := H3.out
  have L2 : Ln w.drew q 55 b L := H2.out
  have O2 : On3 s q n w w.drew := (On3.refl _ _ _ _).drew
  clear d3 lx lx2
  generalize w.drew = w1 at *
  have KH := Lib.hid K2
  have LH := Lib.hid L2
  have OH := Lib.hid O2
  have MH := Lib.hid M2
  clear K2 L2 O2 M2
  go_wp2_with (first
    | (refine wpList_put_mp rfl _ _ _ rfl (n := n) rfl MH.out (by omega) (k := msg) (d := u) rfl rfl HW.out HV.out ?_
       intro w2 MH2 ho2
       have d3 := (KH.out.only ho2 hsn).c3)
    | (refine wpList_put_mp rfl _ _ _ rfl (n := n) rfl MH2 (by omega) (k := bf) (d := msg) rfl rfl HB.out HW.out ?_
       intro w3 MH3 ho3
       have K3 := Lib.hid ((KH.out.only ho2 hsn).only ho3 hsn)
       have z3 := K3.out.fz (4 + e)
       have c3 := K3.out.cl he2))
  have O3 := Lib.hid ((OH.out.trans (.at_n ho2)).trans (.at_n ho3))
  have L3 := Lib.hid ((LH.out.only ho2 hqn).only ho3 hqn)
  have M3 := Lib.hid (Mr.put HG.out HN.out H0.out HA.out HC.out HUU.out H4.out MH3)
  have K5 := Lib.hid (K3.out.set (g := lst mp (ins M (plc mp M pri) (msg, pri))) e msg he2 fun j hj => by rw [lst_put HG.out HE.out H0.out])
  clear MH2 MH3 ho2 ho3 d3
  go_end0
  exact ⟨rfl, ⟨K5.out, L3.out.keep (Below.heap_setCell _ _ _ _ (Ne.symm hsq)), M3.out.keep (Below.heap_setCell _ _ _ _ (Ne.symm hsn))⟩, O3.out.trans (.at_s ((Only.refl _ _).setCell (q := ⟨s, 4 + e, none⟩) (.inl rfl) _))⟩
end Go.Proofs.Ytapogohekfeiiaa
