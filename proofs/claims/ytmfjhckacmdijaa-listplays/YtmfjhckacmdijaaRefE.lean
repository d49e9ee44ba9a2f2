/- The document's own rows (detentref3): Back. -/
import Derived.Test.YtmfjhckacmdijaaRefD
namespace Go.Proofs.Ytmfjhckacmdijaa
open Go.RowKit

def RBRel (q r m N H h : Nat) (R : Nat → List Nat) (ns : List Int) (w1 : World) (i : Value) (wr : World) : Prop :=
  ∃ t : Nat, t ≤ ns.length ∧ i = .int .i64 (t : Int) ∧ Rf wr q r m N H (setR R h (R h ++ (ns.take t).map Int.toNat)) ∧ Only r r w1 wr

theorem nth_ne {ns : List Int} {t s : Nat} (h : nth ns t ∉ ns.take s) : ∀ j, j < s → j < ns.length → nth ns j ≠ nth ns t := by
  intro j hj hl e
  apply h
  rw [← e]
  unfold nth
  rw [List.getD_eq_getElem?_getD, List.getElem?_eq_getElem hl]
  simp only [Option.getD_some]
  rw [List.mem_take_iff_getElem]
  exact ⟨j, by omega, rfl⟩

set_option maxHeartbeats 3200000 in
theorem rback_any (q r m N H : Nat) (h : Int) (A : Option Addr) (cap : Nat) (ns : List Int) (R R' : Nat → List Nat) (w : World) (hl : Rf w q r m N H R) (hwf : Wf N H R) (hN : N ≤ 1024) (hH : H ≤ 64) (hm : m < w.heap.size)
    (hs : Nd w r A ns) (hn : ns.length ≤ 1000) (c : Int) (hc : AddSpec N H R h ns c) (hc1 : c ≠ 0 → R' = R) (hc2 : c = 0 → ∀ k : Nat, h = k → R' = setR R k (R k ++ ns.map Int.toNat)) :
    Calls Try.prog 13 #[.pointer (some ⟨q, 0, none⟩), .int .i64 h, .slice A ns.length cap] w (DidR q r m N H R' c w) := by
  have HC := Lib.hid hc
  have HC1 := Lib.hid hc1
  have HC2 := Lib.hid hc2
  clear hc hc1 hc2
  by_cases hh : 0 ≤ h ∧ h < H
  · have HK0 := Lib.hid (rhead_any q r m N H h R w hl true (by simpa using hh))
    go_enter Try.func13, Try.ntmps13
    go_wp2_with fail
    refine HK0.out.mono ?_
    rintro e wx ⟨rfl, rfl⟩
    clear HK0
    go_wp2
    go_loop [7] (fun i => AddRel1 N ns i) (fun i => ns.length - (intOf i).toNat)
    case atStart => exact ⟨0, Nat.zero_le _, rfl, by simp⟩
    case round =>
      obtain ⟨t, ht, rfl, hv⟩ := hrel
      have HV := Lib.hid hv
      clear hv
      by_cases hlt : t < ns.length
      · obtain ⟨b, o, rfl, hbm, hcl⟩ := hs (by omega)
        have hct := hcl t hlt
        clear hcl
        by_cases hx : 0 ≤ nth ns t ∧ nth ns t < N
        · have HB := Lib.hid (rnode_any q r m N H (nth ns t) R w hl true (by simpa using hx))
          have HX := Lib.hid hx
          clear hx
          go_wp2_with fail
          refine HB.out.mono ?_
          rintro e w2 ⟨rfl, rfl⟩
          go_wp2
          go_round
          case rel =>
            refine ⟨t + 1, by omega, by go_num, fun n hm => ?_⟩
            rw [take_succ_getD hlt, List.mem_append] at hm
            rcases hm with hm | hm
            · exact HV.out n hm
            · rw [List.mem_singleton.1 hm]; exact HX.out
          case measure => simp [intOf]; omega
        · have HB := Lib.hid (rnode_any q r m N H (nth ns t) R w hl false (by simpa using hx))
          have HX := Lib.hid hx
          have HM := Lib.hid (getD_mem hlt)
          clear hx
          go_wp2_with fail
          refine HB.out.mono ?_
          rintro e w2 ⟨rfl, rfl⟩
          go_wp2
          go_ret
          have e17 : c = -17 := by
            rcases HC.out with ⟨_, e⟩ | ⟨_, _, e⟩ | ⟨_, h2, _⟩ | ⟨h2, _⟩
            · exact e
            · exact e
            · exact absurd (h2 _ HM.out) HX.out
            · exact absurd (h2.nd _ HM.out) HX.out
          subst e17
          rw [HC1.out (by omega)]
          exact ⟨rfl, hl, Only.refl _ _ _⟩
      · obtain rfl : t = ns.length := by omega
        rw [List.take_length] at HV
        clear hlt
        go_wp2
        go_loopw [8] (fun i wr => ∃ t d : Nat, t ≤ ns.length ∧ i = .int .i64 (t : Int) ∧ (∀ n, n ∈ ns.take t → ¬ Inn H R n.toNat) ∧ (ns.take t).Nodup ∧ wr = w.drewN d) (fun i _ => ns.length - (intOf i).toNat)
        case atStart => exact ⟨0, 0, Nat.zero_le _, rfl, by simp, by simp, rfl⟩
        case round =>
          obtain ⟨t, d, ht, rfl, hu1, hu2, rfl⟩ := hrel
          have HU1 := Lib.hid hu1
          have HU2 := Lib.hid hu2
          clear hu1 hu2
          by_cases hlt : t < ns.length
          · have HM := Lib.hid (getD_mem hlt)
            obtain ⟨hx0, hx1⟩ := HV.out _ HM.out
            obtain ⟨x, hx⟩ : ∃ x : Nat, nth ns t = x := ⟨(nth ns t).toNat, by omega⟩
            rw [hx] at hx0 hx1
            have hxN : x < N := by omega
            obtain ⟨b, o, rfl, hbm, hcl⟩ := hs (by omega)
            have HCL : Hid (∀ j, j < ns.length → ∀ d', (w.drewN d').cell? ⟨b, o + j, none⟩ = some (.int .i64 (nth ns j))) := fun j hj d' => hcl j hj
            have hct := HCL.out t hlt d
            rw [hx] at hct
            have HX := Lib.hid hx
            clear hx hcl
            by_cases hin : Inn H R x
            · obtain ⟨k, L1, L2, hk, hR⟩ := inn_part hin
              have HB := Lib.hid (rof_any q r m N H x R (w.drewN d) (hl.drewN d) hH (fun k hk => by have := hwf.len k hk; omega) _ _ (ofAt_mem hwf hk hR))
              have ik : (0 : Int) ≤ (k : Int) := by omega
              clear hR
              go_wp2_with fail
              refine HB.out.mono ?_
              rintro e w4 ⟨rfl, rfl⟩
              go_wp2
              go_ret
              have e41 : c = -41 := by
                rcases HC.out with ⟨g, _⟩ | ⟨_, ⟨n, hn1, hn2⟩, _⟩ | ⟨_, _, _, e⟩ | ⟨h2, _⟩
                · exact absurd hh g
                · exact absurd (HV.out n hn1) hn2
                · exact e
                · exact absurd (show Inn H R (nth ns t).toNat by rw [HX.out]; simpa using hin) (h2.out _ HM.out)
              subst e41
              rw [HC1.out (by omega)]
              exact ⟨rfl, hl.drewN d, (Only.refl _ _ _).drewN d⟩
            · have HB := Lib.hid (rof_any q r m N H x R (w.drewN d) (hl.drewN d) hH (fun k hk => by have := hwf.len k hk; omega) _ _ (ofAt_no hin))
              have HIN := Lib.hid hin
              clear hin
              go_wp2_with fail
              refine HB.out.mono ?_
              rintro e w4 ⟨rfl, rfl⟩
              go_wp2
              go_loopw [11] (fun j w' => ∃ s d' : Nat, s ≤ t ∧ j = .int .i64 (s : Int) ∧ nth ns t ∉ ns.take s ∧ w' = w.drewN d') (fun j _ => t - (intOf j).toNat)
              case atStart => exact ⟨0, d, Nat.zero_le _, rfl, by simp, rfl⟩
              case round =>
                obtain ⟨s, d', hs2, rfl, hno, rfl⟩ := hrel
                have HNO := Lib.hid hno
                clear hno
                by_cases hlt2 : s < t
                · have h1 := HCL.out s (by omega) d'
                  have h2 := HCL.out t hlt d'
                  rw [HX.out] at h2
                  have i1 : (s : Int) < (ns.length : Int) := by omega
                  have i2 : (t : Int) < (ns.length : Int) := by omega
                  have HW := Lib.hid (drewN_drewN w d')
                  by_cases hsx : nth ns s = x
                  · rw [hsx] at h1
                    have hb3 := (Only.refl r r w).drewN d'
                    have hl3 := hl.drewN d'
                    generalize w.drewN d' = w5 at *
                    go_wp2
                    go_quiet (fail)
                    go_wp2
                    go_ret
                    have e41 : c = -41 := by
                      rcases HC.out with ⟨g, _⟩ | ⟨_, ⟨n, hn1, hn2⟩, _⟩ | ⟨_, _, _, e⟩ | ⟨h2, _⟩
                      · exact absurd hh g
                      · exact absurd (HV.out n hn1) hn2
                      · exact e
                      · exfalso
                        have h3 := h2.one
                        rw [← List.take_append_drop (t + 1) ns, take_succ_getD hlt] at h3
                        refine (List.nodup_append.1 (List.nodup_append.1 h3).1).2.2 (nth ns s) ?_ (nth ns t) (by simp) (by rw [hsx, HX.out])
                        have := take_succ_getD (ns := ns) (t := s) (by omega)
                        exact List.take_subset_take_left ns (show s + 1 ≤ t by omega) (by rw [this]; simp)
                    subst e41
                    rw [HC1.out (by omega)]
                    exact ⟨rfl, hl3.drewN _, hb3.drewN _⟩
                  · have f1 : (nth ns s == (x : Int)) = false := by simpa using hsx
                    generalize w.drewN d' = w5 at *
                    go_wp2
                    go_quiet (fail)
                    go_wp2
                    go_roundw
                    case rel =>
                      refine ⟨s + 1, _, by omega, by go_num, ?_, HW.out _⟩
                      rw [take_succ_getD (by omega), List.mem_append, HX.out]
                      rintro (g | g)
                      · exact HNO.out (by rw [HX.out]; exact g)
                      · exact hsx (List.mem_singleton.1 g).symm
                    case measure => simp [intOf]; omega
                · obtain rfl : s = t := by omega
                  go_wp2
                  go_roundw
                  case rel =>
                    refine ⟨s + 1, d', by omega, by go_num, fun n hm => ?_, ?_, rfl⟩
                    · rw [take_succ_getD hlt, List.mem_append] at hm
                      rcases hm with hm | hm
                      · exact HU1.out n hm
                      · rw [List.mem_singleton.1 hm, HX.out]; simpa using HIN.out
                    · rw [take_succ_getD hlt]
                      refine List.nodup_append.2 ⟨HU2.out, by simp, fun a ha b hb => ?_⟩
                      rw [List.mem_singleton.1 hb]; rintro rfl; exact HNO.out ha
                  case measure => simp [intOf]; omega
          · obtain rfl : t = ns.length := by omega
            rw [List.take_length] at HU1 HU2
            have e0 : c = 0 := by
              rcases HC.out with ⟨g, _⟩ | ⟨_, ⟨n, hn1, hn2⟩, _⟩ | ⟨_, _, h3, e⟩ | ⟨_, e⟩
              · exact absurd hh g
              · exact absurd (HV.out n hn1) hn2
              · rcases h3 with ⟨n, hn1, hn2⟩ | h3
                · exact absurd hn2 (HU1.out n hn1)
                · exact absurd HU2.out h3
              · exact e
            subst e0
            obtain ⟨k, rfl⟩ : ∃ k : Nat, h = k := ⟨h.toNat, by omega⟩
            have HRR := Lib.hid (HC2.out rfl k rfl)
            clear HC2
            have hk : k < H := by omega
            have hRl := hwf.len k hk
            have hl2 := hl.drewN d
            have hs2 : Nd (w.drewN d) r A ns := hs
            have ho2 := (Only.refl r r w).drewN d
            have hm2 : m < (w.drewN d).heap.size := hm
            generalize w.drewN d = w2 at *
            clear hs hl hlt HU1 HU2 hm
            go_wp2
            go_loopw [12] (fun i wr => RBRel q r m N H k R ns w2 i wr) (fun i _ => ns.length - (intOf i).toNat)
            case atStart => exact ⟨0, Nat.zero_le _, rfl, hl2.congr fun j _ => by by_cases e : j = k <;> simp [setR, e], Only.refl _ _ _⟩
            case round =>
              obtain ⟨t, ht, rfl, hl3, ho3⟩ := hrel
              by_cases hlt : t < ns.length
              · obtain ⟨hx0, hx1⟩ := HV.out _ (getD_mem hlt)
                obtain ⟨x, hx⟩ : ∃ x : Nat, nth ns t = x := ⟨(nth ns t).toNat, by omega⟩
                have HX := Lib.hid hx
                have hs3 := hs2.only ho3 (.inl rfl) (.inl rfl)
                obtain ⟨b, o, rfl, hbm, hcl⟩ := hs3 (by omega)
                have hct := hcl t hlt
                rw [hx] at hct
                obtain ⟨kq, h0, h1, hk1, hk2⟩ := hl3.cells
                obtain ⟨v, hv, hsl⟩ := hl3.row hk
                rw [setR_same] at hsl
                obtain ⟨Z, kz, rfl, hz1, hz2, _⟩ := hsl.nd
                have hlen3 : (R k ++ (ns.take t).map Int.toNat).length ≤ 50000 := by simp; omega
                have HP := Lib.hid (put_ok q r m N H k x _ wr.drew hl3 (by have := ho3.size; show m < wr.heap.size; omega) hk hH (R k ++ (ns.take t).map Int.toNat) [] (by rw [setR_same, List.append_nil]) (by rw [setR_same]; exact hlen3) _ rfl)
                have ik : (k : Int) < (H : Int) := by omega
                have it : (t : Int) < (ns.length : Int) := by omega
                clear hs3 hcl hsl hx hx0 hx1
                generalize (R k ++ (ns.take t).map Int.toNat).length = nl at *
                go_wp2
                go_still_tail 14, (by kernel_rfl)
                change wpList _ _ _ _ _ wr.drew
                go_wp2_with fail
                refine HP.out.mono ?_
                rintro e w5 ⟨rfl, hl5, ho5⟩
                have ho6 := (ho3.drew).trans ho5
                clear HP hl3 ho3 ho5
                go_wp2
                go_roundw
                case rel =>
                  refine ⟨t + 1, by omega, by go_num, ?_, ho6⟩
                  rw [setR_setR] at hl5
                  rw [take_succ_getD hlt, HX.out]
                  simpa using hl5
                case measure => simp [intOf]; omega
              · obtain rfl : t = ns.length := by omega
                rw [List.take_length] at hl3
                go_wp2
                go_ret
                exact ⟨rfl, by rw [HRR.out]; exact hl3, ho2.trans ho3⟩
  · have HK0 := Lib.hid (rhead_any q r m N H h R w hl false (by simpa using hh))
    go_enter Try.func13, Try.ntmps13
    go_wp2_with fail
    refine HK0.out.mono ?_
    rintro e wx ⟨rfl, rfl⟩
    go_wp2
    go_ret
    have e17 : c = -17 := by
      rcases HC.out with ⟨_, e⟩ | ⟨h1, _⟩ | ⟨h1, _⟩ | ⟨h1, _⟩
      · exact e
      · exact absurd h1 hh
      · exact absurd h1 hh
      · exact absurd h1.hd hh
    subst e17
    rw [HC1.out (by omega)]
    exact ⟨rfl, hl, Only.refl _ _ _⟩
end Go.Proofs.Ytmfjhckacmdijaa
