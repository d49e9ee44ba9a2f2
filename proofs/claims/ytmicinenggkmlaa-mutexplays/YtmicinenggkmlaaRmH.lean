/- The document's mutexes while they are built: Kinds, New. -/
import Derived.Test.YtmicinenggkmlaaRmG
import Derived.Test.YtmicinenggkmlaaMtK
import Derived.Deep.CutBlock
namespace Go.Proofs.Ytmicinenggkmlaa
open Go.RowKit
set_option linter.unusedVariables false
set_option maxRecDepth 100000

set_option maxHeartbeats 3200000 in
theorem kinds_any (X : Option Addr) (k : Nat) (L : List (Int × Int)) (w : World) (hl : L.length ≤ 1000) (hs : 0 < L.length → K.Sr K.ck w X k L) :
    Calls Try.prog 13 #[.slice X L.length k] w fun e w' => ∃ v, e = .returned v ∧ w'.ownsRow w.heap.size 75 2 v L.length (K.vals K.ck L) ∧ Below w.heap.size w w' := by
  obtain ⟨n, hn⟩ : ∃ n, L.length = n := ⟨_, rfl⟩
  have HN := Lib.hid hn
  have HS := Lib.hid hs
  rw [hn] at hl ⊢
  clear hn hs
  go_enter Try.func13, Try.ntmps13
  go_wp2
  go_loopw [4, 3] (fun i y wr => ∃ (v : Nat) (vo : Value), v ≤ n ∧ i = .int .i64 (v : Int) ∧ y = vo ∧ wr.ownsRow w.heap.size 75 2 vo v (K.vals K.ck (L.take v)) ∧ Below w.heap.size w wr) (fun i _ _ => n - (intOf i).toNat)
  case atStart => exact ⟨0, _, Nat.zero_le _, rfl, rfl, ⟨rfl, .inl ⟨rfl, rfl⟩⟩, Below.refl _ _⟩
  case round =>
    obtain ⟨v, vo, hv, rfl, rfl, hown, hb⟩ := hrel
    obtain ⟨X1, k1, rfl, _, _⟩ := K.own_form hown
    have HO := Lib.hid hown
    have HB := Lib.hid hb
    by_cases hlt : v < n
    · obtain ⟨x, hx⟩ : ∃ x, L[v]? = some x := ⟨_, List.getElem?_eq_getElem (by rw [HN.out]; exact hlt)⟩
      have hcell : ∃ b o : Nat, X = some ⟨b, o, none⟩ ∧ wr.cell? ⟨b, o + v * 2, none⟩ = some (.int .i64 x.1) ∧ wr.cell? ⟨b, o + v * 2 + 1, none⟩ = some (.int .i64 x.2) := by
        rcases (HS.out (by rw [HN.out]; omega)).below hb with ⟨_, e, _⟩ | ⟨b, o, e, _, hc⟩
        · rw [e] at hx; simp at hx
        · have hv2 := fun r (hr : r < 2) => K.vals_get (c := K.ck) (z := 2) (fun _ => rfl) L v r x hr hx
          exact ⟨b, o, e, by have := hc _ _ (hv2 0 (by omega)); rwa [Nat.add_zero] at this, by have := hc _ _ (hv2 1 (by omega)); rwa [← Nat.add_assoc] at this⟩
      obtain ⟨b, o, rfl, e0, e1⟩ := hcell
      have hll : (L.take v).length = v := by rw [List.length_take, HN.out]; omega
      have HL := Lib.hid hll
      have HX := Lib.hid hx
      obtain ⟨wb, hwb⟩ : ∃ wb, wr.alloc (.cells #[.int .i64 x.1, .int .i64 x.2] 75) = wb := ⟨_, rfl⟩
      have HBB := Lib.hid (show Below wr.heap.size wr wb by rw [← hwb]; exact (Below.refl _ _).alloc (Nat.le_refl _) _)
      have src := K.sr_one K.ck wr 75 x
      rw [show (K.ck x).toArray = #[.int .i64 x.1, .int .i64 x.2] from rfl, hwb] at src
      have hownb := K.own_below HO.out HBB.out
      have hbs : w.heap.size ≤ wb.heap.size := by have := HB.out.size; have := HBB.out.size; omega
      have HBS := Lib.hid hbs
      have b2 : v + 1 ≤ 100000 := by omega
      have i0 : (0 : Int) ≤ (v : Int) := by omega
      have i1 : (v : Int) < (n : Int) := by omega
      clear hown hb hll hx hbs
      go_upto_block 1 with fail
      go_cut [4, 3] from 5 to 24 (fun i y wx => i = .int .i64 (v : Int) ∧ ∃ vo, y = vo ∧ wx.ownsRow w.heap.size 75 2 vo (v + 1) (K.vals K.ck (L.take (v + 1))) ∧ Below w.heap.size w wx)
      case first =>
        go_wp2
        go_region_law (first
          | (refine K.step_append_row K.kr (by decide) rfl _ _ rfl w.heap.size (.slice X1 v k1) (L.take v) [x] v HL.out rfl hownb _ 1 1 rfl rfl src b2 HBS.out (v + 1) rfl ?_
             intro X8 k8 w8 hown8 hgrow8))
        all_goals
          have hgrow9 : wb.grownBy w8 (Value.slice X1 v k1).ownBlock := ⟨hgrow8.os, hgrow8.tape, hgrow8.output, hgrow8.size, hgrow8.block⟩
          have hb8 : Below w.heap.size w w8 := (HB.out.trans (HBB.out.mono HB.out.size)).grown hgrow9 HBS.out (fun k hk => (hownb.lt k hk).1)
          rw [← take_snoc HX.out] at hown8
          go_wp2
          go_meet
          exact ⟨rfl, _, rfl, hown8, hb8⟩
      case rest =>
        obtain ⟨rfl, vo2, rfl, hst, hb8⟩ := hcut
        have HST := Lib.hid hst
        have HB8 := Lib.hid hb8
        clear hst hb8 e0 e1
        go_wp2
        go_roundw
        case rel => exact ⟨v + 1, _, by omega, by go_num, rfl, HST.out, HB8.out⟩
        case measure => simp [intOf]; omega
    · have HE := Lib.hid (show v = n by omega)
      clear hown hb
      go_wp2
      go_ret
      refine ⟨_, rfl, ?_, HB.out⟩
      have := HO.out
      rw [List.take_of_length_le (by rw [HN.out, HE.out]; exact Nat.le_refl _)] at this
      rw [← HE.out]
      exact this
end Go.Proofs.Ytmicinenggkmlaa
