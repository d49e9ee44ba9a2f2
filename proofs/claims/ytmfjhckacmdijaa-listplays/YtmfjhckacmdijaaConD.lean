/- Contracts of package list: insert by rows, checkAdd. -/
import Derived.Test.YtmfjhckacmdijaaConC
import Derived.Deep.OwnRows
namespace Go.Proofs.Ytmfjhckacmdijaa
open Go.RowKit

theorem insert_row (p m N H x h : Nat) (R : Nat → List Nat) (w : World) (hl : Lst w p m N H R) (hh : h < H) (L1 L2 : List Nat) (hR : R h = L1 ++ L2) (hx : x < N) (hi : ¬ Inn H R x) (a : Nat) (ha : L2.headD (N + h) = a) :
    Calls Try.prog 29 #[.pointer (some ⟨p, 0, none⟩), .int .i64 (x : Int), .int .i64 (a : Int)] w fun e w' => e = .returned (.tuple #[]) ∧ Lst w' p m N H (setR R h (L1 ++ x :: L2)) ∧ Only m m w w' := by
  subst ha
  obtain ⟨f, hl, r⟩ := hl
  have hv := r.prev hh hR
  have m1 : lst (N + h) L1 ∈ (N + h) :: R h := by
    rcases List.mem_cons.1 (lst_mem (N + h) L1) with e | e
    · rw [e]; simp
    · rw [hR]; exact List.mem_cons_of_mem _ (List.mem_append_left _ e)
  have m2 : L2.headD (N + h) ∈ (N + h) :: R h := by
    rcases List.mem_cons.1 (headD_mem (N + h) L2) with e | e
    · rw [e]; simp
    · rw [hR]; exact List.mem_cons_of_mem _ (List.mem_append_right _ e)
  refine (insert_ok p m N H x _ _ h f w hl (by omega) (r.lt hh m2) (r.lt hh m1) hv (r.hd hh m2)).mono ?_
  rintro e w' ⟨he, hl', ho⟩
  exact ⟨he, ⟨_, hl', r.insert hh hR hx hi⟩, ho⟩

/-- the element at t -/
def nth (ns : List Int) (t : Nat) : Int := ns.getD t 0

/-- A slice of integers that is read: ns at A, in a block that is not m. -/
def Nd (w : World) (m : Nat) (A : Option Addr) (ns : List Int) : Prop :=
  0 < ns.length → ∃ b o : Nat, A = some ⟨b, o, none⟩ ∧ b ≠ m ∧ ∀ j, j < ns.length → w.cell? ⟨b, o + j, none⟩ = some (.int .i64 (nth ns j))
theorem Nd.only {w w' : World} {m q r : Nat} {A : Option Addr} {ns : List Int} (h : Nd w m A ns) (k : Only q r w w') (hq : q = m ∨ w.heap.size ≤ q) (hr : r = m ∨ w.heap.size ≤ r) : Nd w' m A ns := by
  intro hn
  obtain ⟨b, o, hA, h1, hc⟩ := h hn
  have hb : b < w.heap.size := block_lt_of_cell (hc 0 hn)
  refine ⟨b, o, hA, h1, fun j hj => ?_⟩
  rw [k.cell (q := ⟨b, o + j, none⟩) hb (by simp only; omega) (by simp only; omega)]; exact hc j hj
theorem Nd.below {w w' : World} {m : Nat} {A : Option Addr} {ns : List Int} (h : Nd w m A ns) (k : Below w.heap.size w w') : Nd w' m A ns :=
  h.only (q := m) (r := m) (Only.of_below k) (.inl rfl) (.inl rfl)

structure AddOk (N H : Nat) (R : Nat → List Nat) (h : Int) (ns : List Int) : Prop where
  hd : 0 ≤ h ∧ h < H
  nd : ∀ n, n ∈ ns → 0 ≤ n ∧ n < N
  out : ∀ n, n ∈ ns → ¬ Inn H R n.toNat
  one : ns.Nodup
/-- what checkAdd answers -/
def AddSpec (N H : Nat) (R : Nat → List Nat) (h : Int) (ns : List Int) (c : Int) : Prop :=
  (¬ (0 ≤ h ∧ h < H) ∧ c = -17) ∨ ((0 ≤ h ∧ h < H) ∧ (∃ n, n ∈ ns ∧ ¬ (0 ≤ n ∧ n < N)) ∧ c = -17) ∨
  ((0 ≤ h ∧ h < H) ∧ (∀ n, n ∈ ns → 0 ≤ n ∧ n < N) ∧ ((∃ n, n ∈ ns ∧ Inn H R n.toNat) ∨ ¬ ns.Nodup) ∧ c = -41) ∨ (AddOk N H R h ns ∧ c = 0)

theorem getD_mem {ns : List Int} {t : Nat} (h : t < ns.length) : nth ns t ∈ ns := by
  unfold nth; rw [List.getD_eq_getElem?_getD, List.getElem?_eq_getElem h]; simp
theorem mem_getD {ns : List Int} {n : Int} (h : n ∈ ns) : ∃ t, t < ns.length ∧ nth ns t = n := by
  obtain ⟨t, ht, e⟩ := List.getElem_of_mem h
  exact ⟨t, ht, by unfold nth; rw [List.getD_eq_getElem?_getD, List.getElem?_eq_getElem ht]; simpa using e⟩
theorem take_succ_getD {ns : List Int} {t : Nat} (h : t < ns.length) : ns.take (t + 1) = ns.take t ++ [nth ns t] := by
  unfold nth; rw [List.take_add_one, List.getElem?_eq_getElem h, List.getD_eq_getElem?_getD, List.getElem?_eq_getElem h]; simp

def AddRel1 (N : Nat) (ns : List Int) (i : Value) : Prop := ∃ t : Nat, t ≤ ns.length ∧ i = .int .i64 t ∧ ∀ n, n ∈ ns.take t → 0 ≤ n ∧ n < N
def AddRel2 (N H : Nat) (R : Nat → List Nat) (ns : List Int) (g : Nat) (w2 : World) (i : Value) (wr : World) : Prop :=
  ∃ t : Nat, t ≤ ns.length ∧ i = .int .i64 t ∧ (∀ n, n ∈ ns.take t → ¬ Inn H R n.toNat) ∧ (ns.take t).Nodup ∧
    wr.rowIs g 4 N (fun x => .bool (decide ((x : Int) ∈ ns.take t))) ∧ Only g g w2 wr

theorem info4 : (Try.prog.info? 4).map (fun i => (i.zero, i.size, i.bytes)) = some (some (.bool false), 1, 1) := by kernel_rfl

set_option maxHeartbeats 1600000 in
theorem add_any (p m N H : Nat) (h : Int) (A : Option Addr) (cap : Nat) (ns : List Int) (R : Nat → List Nat) (w : World) (hl : Lst w p m N H R) (hN : N ≤ 1024) (hH : H ≤ 64) (hs : Nd w m A ns) (hn : ns.length ≤ 1000000000000) (c : Int) (hc : AddSpec N H R h ns c) :
    Calls Try.prog 28 #[.pointer (some ⟨p, 0, none⟩), .int .i64 h, .slice A ns.length cap] w fun e w' => e = .returned (.int .i64 c) ∧ Below w.heap.size w w' := by
  obtain ⟨f, hl, r⟩ := hl
  have HC := Lib.hid hc
  clear hc
  by_cases hh : 0 ≤ h ∧ h < H
  · have HA := Lib.hid (hasHead_any p m N H h f w hl hN hH true (by simpa using hh))
    go_enter Try.func28, Try.ntmps28
    go_wp2_with fail
    refine HA.out.mono ?_
    rintro e w1 ⟨rfl, n1, rfl⟩
    have hl1 := hl.drewN n1
    have hs1 : Nd (w.drewN n1) m A ns := hs
    have hb1 : Below w.heap.size w (w.drewN n1) := ⟨rfl, rfl, rfl, Nat.le_refl _, fun _ _ => rfl⟩
    generalize w.drewN n1 = w1 at *
    clear HA hl hs
    go_wp2
    go_loop [18] (fun i => AddRel1 N ns i) (fun i => ns.length - (intOf i).toNat)
    case atStart => exact ⟨0, Nat.zero_le _, rfl, by simp⟩
    case round =>
      obtain ⟨t, ht, rfl, hv⟩ := hrel
      have HV := Lib.hid hv
      clear hv
      by_cases hlt : t < ns.length
      · obtain ⟨b, o, rfl, hbm, hcl⟩ := hs1 (by omega)
        have hct := hcl t hlt
        clear hcl
        by_cases hx : 0 ≤ nth ns t ∧ nth ns t < N
        · have HB := Lib.hid (hasNode_any p m N H (nth ns t) f w1 hl1 true (by simpa using hx))
          have HX := Lib.hid hx
          clear hx
          go_wp2_with fail
          refine HB.out.mono ?_
          rintro e w2 ⟨rfl, rfl⟩
          go_wp2
          go_round
          case rel =>
            refine ⟨t + 1, by omega, by go_num, fun n hm => ?_⟩
            rw [take_succ_getD hlt, List.mem_append] at hm
            rcases hm with hm | hm
            · exact HV.out n hm
            · rw [List.mem_singleton.1 hm]; exact HX.out
          case measure => simp [intOf]; omega
        · have HB := Lib.hid (hasNode_any p m N H (nth ns t) f w1 hl1 false (by simpa using hx))
          have HX := Lib.hid hx
          have HM := Lib.hid (getD_mem hlt)
          clear hx
          go_wp2_with fail
          refine HB.out.mono ?_
          rintro e w2 ⟨rfl, rfl⟩
          go_wp2
          go_ret
          refine ⟨?_, hb1⟩
          rcases HC.out with ⟨_, rfl⟩ | ⟨_, _, rfl⟩ | ⟨_, h2, _⟩ | ⟨h2, _⟩
          · rfl
          · rfl
          · exact absurd (h2 _ HM.out) HX.out
          · exact absurd (h2.nd _ HM.out) HX.out
      · obtain rfl : t = ns.length := by omega
        rw [List.take_length] at HV
        clear hlt
        obtain ⟨k, h0, h1, hk1, hk2⟩ := hl1.cells
        have hmk := run_make_row' (P := Try.prog) 62 4 (.bool false) 1 Try.underlying62 info4 rfl .i64 .i64 N (by omega) (by omega) w1
        go_wp2
        clear hmk h0 h1
        have hl2 := hl1.alloc (.cells (madeCells #[.bool false] N) 4)
        have hs2 : Nd (w1.alloc (.cells (madeCells #[.bool false] N) 4)) m A ns := hs1.below ((Below.refl _ _).alloc (Nat.le_refl _) _)
        have hb2 := hb1.alloc (by have := hb1.size; omega) (.cells (madeCells #[.bool false] N) 4)
        have hr2 := World.rowIs_made w1 (.bool false) N 4
        have gm : m ≠ w1.heap.size := by have := hl1.ltm; omega
        have gp : p ≠ w1.heap.size := by have := hl1.ltp; omega
        have gw : w.heap.size ≤ w1.heap.size := hb1.size
        have gl : ∀ b o : Nat, A = some ⟨b, o, none⟩ → 0 < ns.length → b ≠ w1.heap.size := by
          intro b o hA h0
          obtain ⟨b', o', hA', _, hcl⟩ := hs1 h0
          have := block_lt_of_cell (hcl 0 h0)
          rw [hA'] at hA; injection hA with hA; injection hA with hA _
          simp only at this; omega
        have HGL := Lib.hid gl
        generalize w1.alloc (.cells (madeCells #[.bool false] N) 4) = w2 at *
        generalize w1.heap.size = g at *
        clear hl1 hs1 hb1 gl
        go_loopw [34] (fun i wr => AddRel2 N H R ns g w2 i wr) (fun i _ => ns.length - (intOf i).toNat)
        case atStart => exact ⟨0, Nat.zero_le _, rfl, by simp, by simp, hr2.congr fun i _ => by simp, Only.refl _ _ _⟩
        case round =>
          obtain ⟨t, ht, rfl, hu1, hu2, hr, ho⟩ := hrel
          have HU1 := Lib.hid hu1
          have HU2 := Lib.hid hu2
          clear hu1 hu2 hr2
          by_cases hlt : t < ns.length
          · have HM := Lib.hid (getD_mem hlt)
            obtain ⟨hx0, hx1⟩ := HV.out _ HM.out
            obtain ⟨x, hx⟩ : ∃ x : Nat, nth ns t = x := ⟨(nth ns t).toNat, by omega⟩
            rw [hx] at hx0 hx1
            have hxN : x < N := by omega
            have hl3 := hl2.only ho gp gp gm gm
            obtain ⟨b, o, rfl, hbm, hcl⟩ := hs2 (by omega)
            have hct := hcl t hlt
            have hbl := block_lt_of_cell hct
            rw [← ho.cell (q := ⟨b, o + t, none⟩) hbl (HGL.out b o rfl (by omega)) (HGL.out b o rfl (by omega)), hx] at hct
            have HX := Lib.hid hx
            clear hx hcl
            by_cases hin : Inn H R x
            · have HB := Lib.hid (isIn_ok p m N H x f wr hl3 (by omega) true (by simpa using (r.inn hxN).2 hin))
              go_wp2_with fail
              refine HB.out.mono ?_
              rintro e w4 ⟨rfl, rfl⟩
              go_wp2
              go_ret
              refine ⟨?_, hb2.trans (ho.below hb2.size (by omega) (by omega))⟩
              rcases HC.out with ⟨_, rfl⟩ | ⟨_, ⟨n, hn1, hn2⟩, _⟩ | ⟨_, _, _, rfl⟩ | ⟨h2, _⟩
              · contradiction
              · exact absurd (HV.out n hn1) hn2
              · rfl
              · exact absurd (show Inn H R (nth ns t).toNat by rw [HX.out]; simpa using hin) (h2.out _ HM.out)
            · have HB := Lib.hid (isIn_ok p m N H x f wr hl3 (by omega) false (by simpa using mt (r.inn hxN).1 hin))
              have hcx := hr.cell (i := x) hxN
              by_cases hmt : (x : Int) ∈ ns.take t
              · have hd : decide ((x : Int) ∈ ns.take t) = true := by simpa using hmt
                rw [hd] at hcx
                go_wp2_with fail
                refine HB.out.mono ?_
                rintro e w4 ⟨rfl, rfl⟩
                go_wp2
                go_ret
                refine ⟨?_, hb2.trans (ho.below hb2.size (by omega) (by omega))⟩
                rcases HC.out with ⟨_, rfl⟩ | ⟨_, ⟨n, hn1, hn2⟩, _⟩ | ⟨_, _, _, rfl⟩ | ⟨h2, _⟩
                · contradiction
                · exact absurd (HV.out n hn1) hn2
                · rfl
                · exfalso
                  have h3 := h2.one
                  rw [← List.take_append_drop (t + 1) ns, take_succ_getD hlt, HX.out] at h3
                  exact (List.nodup_append.1 (List.nodup_append.1 h3).1).2.2 _ hmt _ (by simp) rfl
              · have hd : decide ((x : Int) ∈ ns.take t) = false := by simpa using hmt
                rw [hd] at hcx
                have hzx := hr.frozen x
                have HR := Lib.hid (hr.set x (.bool true))
                have HO := Lib.hid (ho.setCell (q := ⟨g, x, none⟩) (.inl rfl) (.bool true))
                clear hr ho hd
                go_wp2_with fail
                refine HB.out.mono ?_
                rintro e w4 ⟨rfl, rfl⟩
                go_wp2
                go_roundw
                case rel =>
                  refine ⟨t + 1, by omega, by go_num, fun n hm => ?_, ?_, HR.out.congr fun i _ => ?_, HO.out⟩
                  · rw [take_succ_getD hlt, List.mem_append] at hm
                    rcases hm with hm | hm
                    · exact HU1.out n hm
                    · rw [List.mem_singleton.1 hm, HX.out]; simpa using hin
                  · rw [take_succ_getD hlt, HX.out]
                    refine List.nodup_append.2 ⟨HU2.out, by simp, fun a ha b hb => ?_⟩
                    rw [List.mem_singleton.1 hb]; rintro rfl; exact hmt ha
                  · rw [take_succ_getD hlt, HX.out]
                    by_cases e : i = x
                    · subst e; simp
                    · rw [if_neg e]
                      congr 1
                      have : ¬ (i : Int) = (x : Int) := by omega
                      simp [this]
                case measure => simp [intOf]; omega
          · obtain rfl : t = ns.length := by omega
            rw [List.take_length] at HU1 HU2
            go_wp2
            go_ret
            refine ⟨?_, hb2.trans (ho.below hb2.size (by omega) (by omega))⟩
            rcases HC.out with ⟨_, rfl⟩ | ⟨_, ⟨n, hn1, hn2⟩, _⟩ | ⟨_, _, h3, rfl⟩ | ⟨_, rfl⟩
            · contradiction
            · exact absurd (HV.out n hn1) hn2
            · rcases h3 with ⟨n, hn1, hn2⟩ | h3
              · exact absurd hn2 (HU1.out n hn1)
              · exact absurd HU2.out h3
            · rfl
  · have HA := Lib.hid (hasHead_any p m N H h f w hl hN hH false (by simpa using hh))
    go_enter Try.func28, Try.ntmps28
    go_wp2_with fail
    refine HA.out.mono ?_
    rintro e w1 ⟨rfl, n1, rfl⟩
    go_wp2
    go_ret
    refine ⟨?_, rfl, rfl, rfl, Nat.le_refl _, fun _ _ => rfl⟩
    rcases HC.out with ⟨_, rfl⟩ | ⟨h1, _⟩ | ⟨h1, _⟩ | ⟨h1, _⟩
    · rfl
    · exact absurd h1 hh
    · exact absurd h1 hh
    · exact absurd h1.hd hh
end Go.Proofs.Ytmfjhckacmdijaa
