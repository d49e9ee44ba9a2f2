/-
  PROVED: the Go function detentlaw7.TimerOnce returns true for every input, and each argument reads behind the call as it read before (Rows.TimerOnceSaid). No condition.
-/
import Derived.Test.YtbaljeehbcjdoaaRows
import Derived.Test.YtbaljeehbcjdoaaConO
import Derived.WalkKit
import Derived.ProofKit
import Derived.OpenShut
import Derived.ShutString
import Derived.ChangeOld
import Derived.Below
import Derived.Deep.Grids
namespace Go.Proofs.Ytbaljeehbcjdoaa.timerOnce
open Go.ChangeShapes Go.WideShapes Go.ChangeAt Go.RowKit
open Go.ChangeMaps (open_string shut_string)
set_option linter.unusedVariables false

theorem own : ownKnob Try.prog.godebug = none := by kernel_rfl
theorem laidOut : laidOutB Try.prog = true := by kernel_rfl

/-- bools that came in -/
def Bin (w : World) (A : Option Addr) (n : Nat) (C : Nat → Bool) : Prop :=
  0 < n → ∃ b o : Nat, A = some ⟨b, o, none⟩ ∧ b < w.heap.size ∧ ∀ j, j < n → w.cell? ⟨b, o + j, none⟩ = some (.bool (C j))

set_option maxRecDepth 100000 in
set_option maxHeartbeats 6400000 in
theorem walkIn (A : Option Addr) (n cap : Nat) (q : Nat → Int) (A1 : Option Addr) (m cap1 : Nat) (C : Nat → Bool) (w : World) (hA : Inp .u8 w A n q) (hC : Bin w A1 m C) (hn : n ≤ 100) (hnm : n ≤ m) (hm : m ≤ 9223372036854775807) :
    Calls Try.prog 7 #[.slice A n cap, .slice A1 m cap1] w fun e w' => e = .returned (.bool true) ∧ Below w.heap.size w w' := by
  have HA := Lib.hid hA
  have HC := Lib.hid hC
  have t2 : decide ((100 : Int) < (n : Int)) = false := by simp; omega
  have t2' : decide (100 < n) = false := by simp; omega
  have t3 : decide ((m : Int) < (n : Int)) = false := by simp; omega
  have t3' : decide (m < n) = false := by simp; omega
  clear hA hC
  go_enter Try.func7, Try.ntmps7
  go_wp2_with fail
  refine (known_any w).mono ?_
  rintro e w0 ⟨rfl, hb0⟩
  go_wp2_with fail
  refine (new_then w w0 hb0).mono ?_
  rintro e w1 ⟨p, rfl, ht, hb1⟩
  have HT := Lib.hid ht
  have HB := Lib.hid hb1
  clear ht hb1 hb0 t2 t2' t3 t3'
  go_wp2
  go_loopw [6] (fun i wr => ∃ t g : Nat, t ≤ n ∧ i = .int .i64 (t : Int) ∧ Hid (Tm wr w.heap.size p g (fil q t) (t : Int)) ∧ Below w.heap.size w wr) (fun i _ => n - (intOf i).toNat)
  case atStart => exact ⟨0, p, by omega, rfl, HT.out, HB.out⟩
  case round =>
    clear HT HB
    obtain ⟨t, g, ht, rfl, hT, hw⟩ := hrel
    by_cases hlt : t < n
    · have i1 : (t : Int) < (n : Int) := by omega
      obtain ⟨b, o, rfl, hb, hc⟩ := HA.out (by omega)
      have d1 := (hw.cell (p := ⟨b, o + t, none⟩) hb).trans ((hc t hlt).1)
      have hbd := bounds_u8 (hc t hlt).2
      obtain ⟨x, hx⟩ : ∃ x, q t = x := ⟨_, rfl⟩
      rw [hx] at d1 hbd
      have hS : ins (x, (t : Int) + 1, (t : Int)) (fil q t) = fil q (t + 1) := by rw [← hx]; rfl
      have HI := Lib.hid (insert_at wr w.heap.size p g _ _ hT.out (by rw [fil_len]; omega) (by omega) x (t : Int) ((t : Int) + 1) rfl _ hS)
      have cx : IntKind.u64.wrap x = x := IntWalk.u64_in _ (by omega)
      clear hx hS hc
      go_wp2_with fail
      refine HI.out.mono ?_
      rintro e w3 ⟨rfl, ⟨g2, h2⟩, hb2⟩
      have HT2 := Lib.hid h2
      have HW2 := Lib.hid (hw.trans hb2)
      clear h2 hb2 HI d1 hbd cx
      go_wp2
      go_roundw
      case rel => exact ⟨t + 1, g2, by omega, by go_num, HT2.out, HW2.out⟩
      case measure => simp [intOf]; omega
    · have i1 : decide ((t : Int) < (n : Int)) = false := by simp; omega
      have etn : t = n := by omega
      have HT2 : Hid (∃ S, Ch q n (fun i => i < 0 → C i = false) S ∧ Tm wr w.heap.size p g S (n : Int)) := ⟨fil q n, (ch_fil q n).congr (fun i _ => ⟨fun _ h => absurd h (by omega), fun _ => trivial⟩), by have := hT.out; rw [etn] at this; exact this⟩
      have HW2 := Lib.hid hw
      clear hT hw etn
      go_wp2
      go_loopw [9] (fun i wr => ∃ t : Nat, t ≤ n ∧ i = .int .i64 (t : Int) ∧ Hid (∃ S, Ch q n (fun i => i < t → C i = false) S ∧ Tm wr w.heap.size p g S (n : Int)) ∧ Below w.heap.size w wr) (fun i _ => n - (intOf i).toNat)
      case atStart => exact ⟨0, by omega, rfl, HT2.out, HW2.out⟩
      case round =>
        clear HT2 HW2
        obtain ⟨s, hs, rfl, hS, hw⟩ := hrel
        obtain ⟨S, hch, hT⟩ := hS.out
        have HCH := Lib.hid hch
        have HT := Lib.hid hT
        clear hS hch hT
        by_cases hls : s < n
        · have i2 : (s : Int) < (n : Int) := by omega
          have i3 : (s : Int) < (m : Int) := by omega
          obtain ⟨b, o, rfl, hb, hc⟩ := HC.out (by omega)
          have d1 := (hw.cell (p := ⟨b, o + s, none⟩) hb).trans (hc s (by omega))
          clear hc
          cases hcs : C s with
          | true =>
            rw [hcs] at d1
            have HI := Lib.hid (cancel_at wr w.heap.size p g S _ HT.out ((s : Int) + 1) true (ch_has HCH.out HT.out.good.apart hls (fun h => absurd h (by omega))) _ rfl)
            have HCS := Lib.hid hcs
            clear hcs
            go_wp2_with fail
            refine HI.out.mono ?_
            rintro e w3 ⟨rfl, ht3, hb3⟩
            have HT3 := Lib.hid ht3
            have HW3 := Lib.hid (hw.trans hb3)
            clear ht3 hb3 HI d1 HT hw
            go_wp2
            go_roundw
            case rel =>
              refine ⟨s + 1, by omega, by go_num, ⟨_, (HCH.out.del s).congr (fun i _ => ⟨?_, ?_⟩), HT3.out⟩, HW3.out⟩
              · rintro ⟨h1, h2⟩ h3; exact h1 (by omega)
              · intro h1; refine ⟨fun h2 => h1 (by omega), ?_⟩
                rintro rfl
                have := h1 (by omega)
                rw [HCS.out] at this; cases this
            case measure => simp [intOf]; omega
          | false =>
            rw [hcs] at d1
            have HCS := Lib.hid hcs
            clear hcs
            go_wp2
            go_roundw
            case rel =>
              refine ⟨s + 1, by omega, by go_num, ⟨S, HCH.out.congr (fun i _ => ⟨?_, ?_⟩), HT.out⟩, hw⟩
              · intro h1 h2
                by_cases e : i = s
                · subst e; exact HCS.out
                · exact h1 (by omega)
              · intro h1 h2; exact h1 (by omega)
            case measure => simp [intOf]; omega
        · have i2 : decide ((s : Int) < (n : Int)) = false := by simp; omega
          have hz57 := zero57
          have hsn : s = n := by omega
          have hp0 := HT.out.ltp
          have hg0 := HT.out.ltg
          have HT3 : Hid (Tm (wr.alloc (.cells zer 57)) w.heap.size p g S (n : Int)) := HT.out.below ((Below.refl _ _).alloc (Nat.le_refl _) _)
          have HON : Hid (On (wr.alloc (.cells zer 57)) wr.heap.size (fun _ => false)) := on_new wr
          have HW3 : Hid (Below w.heap.size w (wr.alloc (.cells zer 57))) := hw.alloc hw.size _
          have hq0 : ∀ i, i < n → 0 ≤ q i ∧ q i ≤ 255 := fun i hi => by
            obtain ⟨b, o, _, _, hc⟩ := HA.out (by omega)
            exact bounds_u8 (hc i hi).2
          have HQ := Lib.hid hq0
          have HC3 : Hid (Ch q n (fun i => C i = false ∧ ((0 : Nat) : Int) ≤ q i) S) := HCH.out.congr (fun i hi => ⟨fun h => ⟨h (by omega), by have := HQ.out i hi; omega⟩, fun h _ => h.1⟩)
          have HS3 : Hid (Sn n (fun j => C j = false ∧ q j < ((0 : Nat) : Int)) (fun _ => false)) := fun j hj => ⟨fun h => (by cases h), fun h => (by have := HQ.out j hj; omega)⟩
          obtain ⟨z, hz⟩ : ∃ z, wr.heap.size = z := ⟨_, rfl⟩
          have hzw : w.heap.size ≤ z := by rw [← hz]; exact hw.size
          rw [hz] at HON
          generalize hW3 : wr.alloc (.cells zer 57) = w3 at *
          clear HT HCH hw hsn hq0
          go_wp2
          go_loopw [11] (fun i wr => ∃ v : Nat, v ≤ 256 ∧ i = .int .u64 (v : Int) ∧ Hid (∃ (S : List En) (f : Nat → Bool), Ch q n (fun i => C i = false ∧ (v : Int) ≤ q i) S ∧ Sn n (fun j => C j = false ∧ q j < (v : Int)) f ∧ Tm wr w.heap.size p g S (n : Int) ∧ On wr z f) ∧ Below w.heap.size w wr) (fun i _ => 256 - (intOf i).toNat)
          case atStart => exact ⟨0, by omega, rfl, ⟨S, _, HC3.out, HS3.out, HT3.out, HON.out⟩, HW3.out⟩
          case round =>
            clear HT3 HON HW3 HC3 HS3
            obtain ⟨v, hv, rfl, hI, hw⟩ := hrel
            obtain ⟨S, f, hch, hsn, hT, hon⟩ := hI.out
            have HCH := Lib.hid hch
            have HSN := Lib.hid hsn
            have HT := Lib.hid hT
            have HON := Lib.hid hon
            clear hI hch hsn hT hon
            by_cases hlv : v < 256
            · have i3 : (v : Int) < 256 := by omega
              obtain ⟨d, hd⟩ : ∃ d, (due S (v : Int)).length = d := ⟨_, rfl⟩
              have HD := Lib.hid hd
              have HDU := Lib.hid (due_any _ w.heap.size p g S _ HT.out (v : Int) d hd)
              have hdl : d ≤ 256 := by have := due_len S (v : Int); have := HT.out.good.len; omega
              clear hd
              go_wp2_with fail
              refine HDU.out.mono ?_
              rintro e w4 ⟨X, kk, rfl, hown, ht4, ho4⟩
              have HT4 := Lib.hid ht4
              have HW4 := Lib.hid (hw.trans (HT.out.bel ho4))
              have hne := HON.out.ne HT.out
              have HON4 : Hid (On w4 z f) := HON.out.keep (ho4.block z HON.out.lt hne.1 hne.2)
              have HOWN := Lib.hid hown
              have HG := Lib.hid HT.out.good.srt
              clear hown ht4 ho4 hw HDU HON HT hne
              go_wp2
              go_loopw [13] (fun i wr => ∃ t : Nat, t ≤ d ∧ i = .int .i64 (t : Int) ∧ Hid (∃ f', Sn n (fun j => (C j = false ∧ q j < (v : Int)) ∨ (j : Int) ∈ (args (due S (v : Int))).take t) f' ∧ On wr z f') ∧ Only z z w4 wr) (fun i _ => d - (intOf i).toNat)
              case atStart => exact ⟨0, by omega, rfl, ⟨f, fun j hj => (by rw [HSN.out j hj]; simp), HON4.out⟩, Only.refl _ _ _⟩
              case round =>
                obtain ⟨t, ht, rfl, hI, ho⟩ := hrel
                obtain ⟨f', hsn, hon⟩ := hI.out
                have HSN2 := Lib.hid hsn
                have HON2 := Lib.hid hon
                have HO2 := Lib.hid ho
                clear hI hsn hon ho
                by_cases hlt : t < d
                · obtain ⟨i, hi, hq, hCi, hg, hnot⟩ := due_once HG.out HCH.out (t := t) (by rw [HD.out]; exact hlt)
                  have hfi : f' i = false := by
                    cases hf : f' i with
                    | false => rfl
                    | true =>
                      rcases (HSN2.out i hi).1 hf with h | h
                      · omega
                      · exact absurd h hnot
                  have own5 := own_keep HOWN.out (w' := wr) fun b cs hb _ => HO2.out.block b (lt_of_heap hb) (by rintro rfl; exact HON4.out.type (e := 3) (by decide) _ _ hb) (by rintro rfl; exact HON4.out.type (e := 3) (by decide) _ _ hb)
                  obtain ⟨b2, rfl, hb2, _, hc2⟩ := own_int own5 (by rw [args_len, HD.out]) (by omega)
                  have e1 := hc2 t _ hg
                  obtain ⟨b, o, rfl, hb, hc⟩ := HA.out (by omega)
                  obtain ⟨bc, oc, rfl, hbc, hcc⟩ := HC.out (by omega)
                  have e2 : wr.cell? ⟨b, o + i, none⟩ = some (.int .u8 (v : Int)) := by
                    rw [HO2.out.cell (q := ⟨b, o + i, none⟩) (by have := HW4.out.size; show b < _; omega) (by show b ≠ z; omega) (by show b ≠ z; omega), HW4.out.cell (p := ⟨b, o + i, none⟩) hb, (hc i hi).1, hq]
                  have e3 : wr.cell? ⟨bc, oc + i, none⟩ = some (.bool false) := by
                    rw [HO2.out.cell (q := ⟨bc, oc + i, none⟩) (by have := HW4.out.size; show bc < _; omega) (by show bc ≠ z; omega) (by show bc ≠ z; omega), HW4.out.cell (p := ⟨bc, oc + i, none⟩) hbc, hcc i (by omega), hCi]
                  have e4 := HON2.out.at_ (j := i) (by omega)
                  rw [hfi] at e4
                  have e5 := HON2.out.frozen i
                  have cx : IntKind.u64.wrap (v : Int) = (v : Int) := IntWalk.u64_in _ (by omega)
                  have j1 : (t : Int) < (d : Int) := by omega
                  have j2 : (i : Int) < (n : Int) := by omega
                  have j3 : (i : Int) < (m : Int) := by omega
                  have j4 : (i : Int) < 100 := by omega
                  have j5 : decide ((i : Int) < 0) = false := by simp <;> omega
                  have j6 : decide ((n : Int) ≤ (i : Int)) = false := by simp; omega
                  have j7 : decide (n ≤ i) = false := by simp; omega
                  have HST := Lib.hid (sn_step HSN2.out hg)
                  have HON3 := Lib.hid (HON2.out.set i true (by omega))
                  have HO3 := Lib.hid (HO2.out.setCell (q := ⟨z, i, none⟩) (.inl rfl) (.bool true))
                  clear own5 hc2 hc hcc hg hnot hfi hq hCi
                  go_wp2
                  go_roundw
                  case rel => exact ⟨t + 1, by omega, by go_num, ⟨_, HST.out, HON3.out⟩, HO3.out⟩
                  case measure => simp [intOf]; omega
                · have j1 : decide ((t : Int) < (d : Int)) = false := by simp; omega
                  have etd : t = d := by omega
                  have hne := HON4.out.ne HT4.out
                  have ht5 : Tm wr w.heap.size p g (rst S (v : Int)) (n : Int) := HT4.out.only HO2.out (Ne.symm hne.1) (Ne.symm hne.1) (Ne.symm hne.2) (Ne.symm hne.2)
                  have HT5 := Lib.hid ht5
                  have HSE : Hid (Sn n (fun j => C j = false ∧ q j < ((v + 1 : Nat) : Int)) f') := fun j hj => by
                    have h1 : f' j = true ↔ (C j = false ∧ q j < (v : Int)) ∨ (j : Int) ∈ (args (due S (v : Int))).take t := HSN2.out j hj
                    rw [etd, List.take_of_length_le (by rw [args_len, HD.out]; exact Nat.le_refl _)] at h1
                    rw [h1, args_due HG.out HCH.out hj]
                    show (C j = false ∧ q j < (v : Int)) ∨ (C j = false ∧ q j = (v : Int)) ↔ C j = false ∧ q j < ((v + 1 : Nat) : Int)
                    constructor
                    · rintro (h | h)
                      · exact ⟨h.1, by omega⟩
                      · exact ⟨h.1, by omega⟩
                    · rintro ⟨h1, h2⟩
                      by_cases c : q j < (v : Int)
                      · exact .inl ⟨h1, c⟩
                      · exact .inr ⟨h1, by omega⟩
                  have HCE : Hid (Ch q n (fun i => C i = false ∧ ((v + 1 : Nat) : Int) ≤ q i) (rst S (v : Int))) := (HCH.out.rst HG.out (v : Int)).congr (fun i _ => ⟨fun h => ⟨h.1.1, by omega⟩, fun h => ⟨⟨h.1, by omega⟩, by omega⟩⟩)
                  have HW5 := Lib.hid (HW4.out.trans (HO2.out.below HW4.out.size hzw hzw))
                  clear ht5 hne etd
                  go_wp2
                  go_roundw
                  case rel => exact ⟨v + 1, by omega, by go_num, ⟨_, f', HCE.out, HSE.out, HT5.out, HON2.out⟩, HW5.out⟩
                  case measure => simp [intOf]; omega
            · have i3 : decide ((v : Int) < 256) = false := by simp; omega
              have ev : v = 256 := by omega
              have HSE : Hid (∀ j, j < n → f j = !C j) := fun j hj => by
                have h1 : f j = true ↔ C j = false ∧ q j < (v : Int) := HSN.out j hj
                have h2 := HQ.out j hj
                cases hc : C j with
                | false => rw [hc] at h1; exact h1.2 ⟨rfl, by omega⟩
                | true =>
                  rw [hc] at h1
                  cases hf : f j with
                  | false => rfl
                  | true => exact absurd (h1.1 hf).1 (by simp)
              have hSn : S = [] := by
                cases S with
                | nil => rfl
                | cons x S =>
                  obtain ⟨i, hi, _, h⟩ := (HCH.out x).1 List.mem_cons_self
                  have := HQ.out i hi; omega
              have HT9 : Hid (Tm wr w.heap.size p g [] (n : Int)) := by have := HT.out; rw [hSn] at this; exact this
              have HW9 := Lib.hid hw
              clear hSn ev HCH HSN HT hw
              obtain ⟨w5, hw5⟩ : ∃ w5, wr = w5 := ⟨_, rfl⟩
              rw [hw5] at HT9 HW9 HON
              go_wp2
              go_loopw [14] (fun i wr => ∃ t : Nat, t ≤ n ∧ i = .int .i64 (t : Int) ∧ Hid (∃ dr, wr = w5.drewN dr)) (fun i _ => n - (intOf i).toNat)
              case atStart => exact ⟨0, by omega, rfl, ⟨0, by first | rfl | exact hw5⟩⟩
              case round =>
                obtain ⟨t, ht, rfl, hD⟩ := hrel
                by_cases hlt : t < n
                · have j1 : (t : Int) < (n : Int) := by omega
                  have j2 : (t : Int) < (m : Int) := by omega
                  have j3 : (t : Int) < 100 := by omega
                  obtain ⟨dr, hdr⟩ := hD.out
                  obtain ⟨bc, oc, rfl, hbc, hcc⟩ := HC.out (by omega)
                  have e3 : wr.cell? ⟨bc, oc + t, none⟩ = some (.bool (C t)) := by rw [hdr]; exact (HW9.out.cell (p := ⟨bc, oc + t, none⟩) hbc).trans (hcc t (by omega))
                  have e4 : wr.cell? ⟨z, t, none⟩ = some (.bool (!C t)) := by rw [hdr, ← HSE.out t hlt]; exact HON.out.at_ (j := t) (by omega)
                  have HD2 : Hid (∃ dr, wr = w5.drewN dr) := ⟨dr, hdr⟩
                  clear hcc hdr hD
                  cases hct : C t with
                  | false =>
                    rw [hct] at e3 e4
                    simp only [Bool.not_false] at e4
                    clear hct
                    go_wp2
                    go_big_quiet (fail)
                    go_wp2
                    go_roundw
                    case rel =>
                      obtain ⟨d9, e9⟩ := HD2.out
                      exact ⟨t + 1, by omega, by go_num, ⟨d9 + nq, by rw [e9]; simp [World.drewN, Nat.add_assoc]⟩⟩
                    case measure => simp [intOf]; omega
                  | true =>
                    rw [hct] at e3 e4
                    simp only [Bool.not_true] at e4
                    clear hct
                    go_wp2
                    go_big_quiet (fail)
                    go_wp2
                    go_roundw
                    case rel =>
                      obtain ⟨d9, e9⟩ := HD2.out
                      exact ⟨t + 1, by omega, by go_num, ⟨d9 + nq, by rw [e9]; simp [World.drewN, Nat.add_assoc]⟩⟩
                    case measure => simp [intOf]; omega
                · have j1 : decide ((t : Int) < (n : Int)) = false := by simp; omega
                  obtain ⟨dr, hdr⟩ := hD.out
                  have ht6 : Tm wr w.heap.size p g [] (n : Int) := by rw [hdr]; exact HT9.out.drewN dr
                  have HW6 : Hid (Below w.heap.size w wr) := by rw [hdr]; exact ⟨HW9.out.os, HW9.out.tape, HW9.out.output, HW9.out.size, HW9.out.block⟩
                  have HLN := Lib.hid (len_any _ w.heap.size p g _ _ ht6 0 rfl)
                  clear hdr hD ht6
                  go_wp2_with fail
                  refine HLN.out.mono ?_
                  rintro e w6 ⟨rfl, rfl⟩
                  go_wp2
                  go_ret
                  exact ⟨by first | rfl | simp, HW6.out⟩

theorem walkOut (A : Option Addr) (n cap : Nat) (A1 : Option Addr) (m cap1 : Nat) (w : World) (h : 100 < n ∨ m < n) :
    Calls Try.prog 7 #[.slice A n cap, .slice A1 m cap1] w fun e w' => e = .returned (.bool true) ∧ Below w.heap.size w w' := by
  by_cases h1 : 100 < n
  · have t2 : decide ((100 : Int) < (n : Int)) = true := by simp; omega
    have t2' : decide (100 < n) = true := by simp; omega
    go_enter Try.func7, Try.ntmps7
    go_wp2_with fail
    refine (known_any w).mono ?_
    rintro e w0 ⟨rfl, hb0⟩
    go_wp2
    go_ret
    exact ⟨rfl, hb0⟩
  · have t2 : decide ((100 : Int) < (n : Int)) = false := by simp; omega
    have t2' : decide (100 < n) = false := by simp; omega
    have t3 : decide ((m : Int) < (n : Int)) = true := by simp; omega
    have t3' : decide (m < n) = true := by simp; omega
    go_enter Try.func7, Try.ntmps7
    go_wp2_with fail
    refine (known_any w).mono ?_
    rintro e w0 ⟨rfl, hb0⟩
    go_wp2
    go_ret
    exact ⟨rfl, hb0⟩

/-! ### the row's step -/
set_option maxRecDepth 100000 in
theorem lifted (os : Os) (started : os.Started) (H : Type) (enc : TypeId × Value → H) :
    ReturnsInHanded {} Try.checked os 7 .any (Rows.timerOnceSpec.pre6 enc Try.prog Try.f7 Rows.timerOnceRow.domain false) (Rows.timerOnceSpec.post enc Try.prog Try.f7 false true false false) := by
  refine returnsInHanded_of_change (C := Try.checked) own started (by kernel_rfl) Try.func7
    (ChangeSpec.witness6 (enc := enc) (C := Try.checked) false ⟨#[], #[.slice none 0 0, .slice none 0 0], []⟩ 8 (by kernel_rfl) (by kernel_rfl) (by kernel_rfl) (by kernel_rfl)) ?_
  intro W base args ds gs before hval0 hW hcnd _
  have hval : ∀ (j : Nat) t v, Try.f7.params[j]? = some t → args[j]? = some v → Value.okWide Try.prog W .any base t v := hval0
  have hW' := hW
  obtain ⟨p, q, hA0, hV, rfl, hfz, hnd⟩ := hW
  have hA : DataW.TrodAll enc Try.prog W 0 (fun _ => true) true Try.f7.params.toList args.toList ds p := hA0
  rw [Try.params7] at hA hval
  obtain ⟨v0, vs0, d0, ds0, p0, q0, hargs, rfl, rfl, h0, r0⟩ := trodAll_cons hA
  obtain ⟨v1, vs1, d1, ds1, p1, q1, rfl, rfl, rfl, h1, r1⟩ := trodAll_cons r0
  obtain ⟨rfl, rfl, rfl⟩ := trodAll_nil r1
  obtain rfl : args = #[v0, v1] := by cases args; simp_all
  obtain ⟨rfl, rfl⟩ := trodVars_none hV
  obtain ⟨a0, len0, cap0, rfl⟩ := okWide_slice Try.underlying55 (hval 0 55 v0 rfl rfl)
  obtain ⟨a1, len1, cap1, rfl⟩ := okWide_slice Try.underlying56 (hval 1 56 v1 rfl rfl)
  have k0 := h0
  have k1 := h1
  have lt0 : ∀ x ∈ p0, x.block < W.heap.size := by obtain ⟨m, hm⟩ := k0; exact DataW.trod_lt m _ _ _ hm
  have lt1 : ∀ x ∈ p1, x.block < W.heap.size := by obtain ⟨m, hm⟩ := k1; exact DataW.trod_lt m _ _ _ hm
  obtain ⟨hl0, q, hA⟩ : len0 ≤ 9223372036854775807 ∧ ∃ q, Inp .u8 W a0 len0 q := by
    obtain ⟨fuel, hf⟩ := h0
    rcases open_ints Try.underlying55 Try.underlying5 (by kernel_rfl) hf with ⟨hcs, _⟩ | ⟨x, l, c, zs, hcs, _, hl, hm, hz, _, hcell, hwz⟩
    · simp [Value.cells] at hcs
      obtain ⟨rfl, rfl, rfl⟩ := hcs
      exact inp_of (zs := []) (.inl ⟨rfl, rfl, rfl, rfl⟩)
    · simp [Value.cells] at hcs
      obtain ⟨rfl, rfl, rfl⟩ := hcs
      exact inp_of (zs := zs) (.inr ⟨_, rfl, hl, hm, by simpa using hz, hcell, hwz⟩)
  obtain ⟨hl1, C, hC⟩ : len1 ≤ 9223372036854775807 ∧ ∃ C, Bin W a1 len1 C := by
    obtain ⟨fuel, hf⟩ := h1
    rcases Go.Deep.open_bools Try.underlying56 Try.underlying4 (by kernel_rfl) hf with ⟨hcs, _⟩ | ⟨x, l, c, B, hcs, _, hl, hm, _, hcell⟩
    · simp [Value.cells] at hcs
      obtain ⟨rfl, rfl, rfl⟩ := hcs
      exact ⟨by omega, fun _ => false, fun h => absurd h (by omega)⟩
    · simp [Value.cells] at hcs
      obtain ⟨rfl, rfl, rfl⟩ := hcs
      refine ⟨by unfold maxLen at hm; omega, B, fun h0 => ?_⟩
      obtain ⟨b, o, s⟩ := x
      have hc0 := hcell 0 (by omega)
      have hs : s = none := by
        cases s with
        | none => rfl
        | some q => simp [Addr.add, World.cell?] at hc0; split at hc0 <;> simp at hc0
      subst hs
      have hb : b < W.heap.size := by have := block_lt_of_cell hc0; simpa [Addr.add] using this
      exact ⟨b, o, rfl, hb, fun j hj => by have := hcell j (by omega); rw [addr_add] at this; exact this⟩
  clear hA0 hval0
  have hwalk : Calls Try.prog 7 #[.slice a0 len0 cap0, .slice a1 len1 cap1] W fun e w' => e = .returned (.bool true) ∧ Below W.heap.size W w' := by
    by_cases h : 100 < len0 ∨ len1 < len0
    · exact walkOut a0 len0 cap0 a1 len1 cap1 W h
    · exact walkIn a0 len0 cap0 q a1 len1 cap1 C W hA hC (by omega) (by omega) hl1
  refine hwalk.mono fun e W' ⟨he, bel⟩ => ?_
  subst he
  exact ⟨_, rfl, _, _, _, [], _, [], hW', trodAll_mk1 (shut_bool Try.underlying4 _), (trodAll_cons_mk (Below.trod laidOut (by kernel_rfl) (of_decide_eq_true (by kernel_rfl)) k0 bel lt0) (trodAll_cons_mk (Below.trod laidOut (by kernel_rfl) (of_decide_eq_true (by kernel_rfl)) k1 bel lt1) trodAll_mk0)), rfl, bel.frame _, fun h => by cases h⟩

theorem over : Rows.timerOnceRow.holds Try.pinned (OpenSpec.ofChange Rows.timerOnceSpec) :=
  OpenClaim.holds_of_wide 7 Try.f7 rfl rfl rfl rfl rfl rfl rfl ⟨rfl, rfl, rfl, rfl, rfl⟩ rfl rfl rfl rfl rfl (by kernel_rfl) Try.func7 (by kernel_rfl)
    (of_decide_eq_true (by kernel_rfl)) (by unfold Func.isWrapper; first | (rw [if_pos (by decide +kernel)]; kernel_rfl) | (rw [if_neg (by decide +kernel)]; exact ⟨rfl, rfl⟩))
    (fun os started H enc _ => lifted os started H enc)

theorem proved : Rows.TimerOnceSaid := over
#print axioms proved
end Go.Proofs.Ytbaljeehbcjdoaa.timerOnce
namespace Go.Proofs.Ytbaljeehbcjdoaa
theorem timerOnce_holds : Rows.TimerOnceSaid := timerOnce.proved
end Go.Proofs.Ytbaljeehbcjdoaa
