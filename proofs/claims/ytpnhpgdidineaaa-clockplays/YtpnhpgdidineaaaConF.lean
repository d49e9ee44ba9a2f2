/- Contracts of package heap: Due, Clone, Twin. -/
import Derived.Test.YtpnhpgdidineaaaConE
import Derived.Deep.RegionHeld3
import Derived.Lib.SliceRun
namespace Go.Proofs.Ytpnhpgdidineaaa
open Go.RowKit

theorem fld66 (a b c : Value) (W : World) : (Instr.field 80 (.agg #[a, b, c]) 2).run Try.prog W = .ok c W := by
  simp [Instr.field, run_underlying Try.underlying80, go_sem, asAgg]
theorem eq_nil (X : Option Addr) (n k : Nat) (W : World) : (binOp .eql 75 (.slice X n k) (.slice none 0 0)).run Try.prog W = .ok (.bool X.isNone) W := by
  have := Lib.run_eql_slice_nil (P := Try.prog) W 75 80 X n k 0 0 Try.underlying75
  simpa using this

/-- a slice's length -/
def sln : Value → Nat
  | .slice _ n _ => n
  | _ => 0

/-- the args of entries -/
def args (D : List En) : List Int := D.map fun x => x.2.2
theorem args_len (D : List En) : (args D).length = D.length := by simp [args]

theorem due_end {S D S1 : List En} {now : Int} (h : S = D ++ S1) (hD : ∀ x, x ∈ D → x.1 ≤ now) (h1 : ∀ s S2, S1 = s :: S2 → ¬ s.1 ≤ now) : due S now = D ∧ rst S now = S1 := by
  subst h
  induction D with
  | nil =>
    cases S1 with
    | nil => exact ⟨rfl, rfl⟩
    | cons s S2 => exact due_stop (h1 s S2 rfl)
  | cons d D ih =>
    have h2 := ih fun x hx => hD x (List.mem_cons_of_mem _ hx)
    have h3 := due_cons (S := D ++ S1) (hD d List.mem_cons_self)
    rw [List.cons_append, h3.1, h3.2, h2.1, h2.2]
    exact ⟨rfl, rfl⟩

/-- what Due has done when it has taken D -/
structure Due1 (w : World) (B p g : Nat) (S : List En) (last now : Int) (v : Value) (wr : World) (D S1 : List En) : Prop where
  app : S = D ++ S1
  le : ∀ x, x ∈ D → x.1 ≤ now
  tm : Tm wr B p g S1 last
  only : Only p g w wr
  own : wr.ownsRow w.heap.size 3 1 v D.length (vals ci (args D))

theorem Due1.next {w : World} {B p g : Nat} {S : List En} {last now : Int} {v v' : Value} {wr w' : World} {D S1 S2 : List En} {s : En} (h : Due1 w B p g S last now v wr D S1) (e : S1 = s :: S2) (hs : s.1 ≤ now) (ht : Tm w' B p g S2 last) (ho : Only p g w w') (hn : w'.ownsRow w.heap.size 3 1 v' (D.length + 1) (vals ci (args D ++ [s.2.2]))) : Due1 w B p g S last now v' w' (D ++ [s]) S2 := by
  refine ⟨by rw [h.app, e]; simp, fun x hx => ?_, ht, ho, ?_⟩
  · rcases List.mem_append.1 hx with hx | hx
    · exact h.le x hx
    · simp at hx; subst hx; exact hs
  · have e1 : args (D ++ [s]) = args D ++ [s.2.2] := by simp [args]
    rw [e1, List.length_append]; exact hn

set_option maxHeartbeats 1600000 in
theorem due_any (w : World) (B p g : Nat) (S : List En) (last : Int) (h : Tm w B p g S last) (now : Int) (n : Nat) (hn : (due S now).length = n) :
    Calls Try.prog 34 #[.pointer (some ⟨p, 0, none⟩), .int .u64 now] w fun e w' => ∃ X k, e = .returned (.slice X n k) ∧ w'.ownsRow w.heap.size 3 1 (.slice X n k) n (vals ci (args (due S now))) ∧ Tm w' B p g (rst S now) last ∧ Only p g w w' := by
  have hlen := h.good.len
  have hpl := h.ltp
  have hgl := h.ltg
  have HT := Lib.hid h
  have HN := Lib.hid hn
  obtain ⟨N, hN⟩ : ∃ N, S.length = N := ⟨_, rfl⟩
  rw [hN] at hlen
  have HNN := Lib.hid hN
  clear h hn hN
  go_enter Try.func34, Try.ntmps34
  go_wp2
  go_loopw [5] (fun v wr => ∃ (D S1 : List En), Hid (Due1 w B p g S last now v wr D S1)) (fun v _ => N - sln v)
  case atStart => exact ⟨[], S, ⟨rfl, fun x hx => by simp at hx, HT.out, Only.refl _ _ _, World.ownsRow_nil _ _ _ _⟩⟩
  case round =>
    obtain ⟨D, S1, hI⟩ := hrel
    obtain ⟨X0, k0, hv0, _⟩ := own_form hI.out.own
    obtain ⟨H, X, k, hp, hH, hl, hh, hE, _, _, hob⟩ := hI.out.tm.open
    have hDS : D.length + S1.length = N := by rw [← HNN.out, hI.out.app, List.length_append]
    cases S1 with
    | nil =>
      have c0 : wr.cell? ⟨p, 0, none⟩ = some (.slice X 0 k) := by rw [cell_of_row wr p 0 _ 77 (0, 0) hh]; rfl
      have HV := Lib.hid hv0
      clear hh hE hp hH hl hob hv0
      go_wp2
      go_ret
      obtain ⟨e1, e2⟩ := due_end hI.out.app hI.out.le (fun s S2 h => by cases h)
      have hDn : D.length = n := by rw [← e1]; exact HN.out
      refine ⟨X0, k0, ?_, ?_, by rw [e2]; exact hI.out.tm, hI.out.only⟩
      · show Ending.returned _ = _
        rw [← hDn]; exact congrArg Ending.returned HV.out
      · rw [e1]
        have := hI.out.own
        rw [HV.out, hDn] at this; exact this
    | cons s S2 =>
      rcases hE.open with ⟨h1, h2⟩ | ⟨g1, k1, h1, hw, _⟩
      · subst h2; simp at hl
      · injection h1 with e1 e2 e3
        subst e1 e3
        have hg1 : g1 = g := by
          rcases hob with h | ⟨h, _⟩
          · injection h
          · cases h
        subst hg1
        obtain ⟨m, hm⟩ : ∃ m, S2.length = m := ⟨_, rfl⟩
        have hm1 : (s :: S2).length = m + 1 := by rw [List.length_cons, hm]
        rw [hm1] at hh hl hDS
        have c0 : wr.cell? ⟨p, 0, none⟩ = some (.slice (some ⟨g1, 0, none⟩) (m + 1) k) := by rw [cell_of_row wr p 0 _ 77 (0, 0) hh]; rfl
        have hh0 := hp_head hI.out.tm.good hp hH
        obtain ⟨d0, _⟩ := hw.cells (i := 0) (by omega)
        rw [hh0] at d0
        simp only [Nat.zero_mul] at d0
        have i0 : (0 : Int) < (m : Int) + 1 := by omega
        have HV := Lib.hid hv0
        have HHH := Lib.hid hh
        have HW := Lib.hid hw
        have HL := Lib.hid hl
        have HP := Lib.hid hp
        have HH := Lib.hid hH
        have HH0 := Lib.hid hh0
        have HM := Lib.hid hm
        clear hh hE hp hH hl hob hv0 hw hh0 e2 hm hm1
        by_cases c : s.1 ≤ now
        · have i1 : decide (s.1 ≤ now) = true := by simpa using c
          have HC := Lib.hid c
          have hb0 : m < 256 := by omega
          have HR := Lib.hid (removeAt_any p g1 k m 0 (.int .i64 last) H wr HHH.out HW.out HL.out hb0 (by omega) HH.out s HH0.out)
          clear c
          go_wp2_with fail
          refine HR.out.mono ?_
          rintro e w2 ⟨rfl, ⟨H2, hp2, hH2, hh2, rw2⟩, o2⟩
          have ht2 : Tm w2 B p g1 S2 last := by
            refine tm_shut HT.out.hp HT.out.hg ?_ hH2 hh2 rw2 ?_ (good_sub hI.out.tm.good (List.sublist_cons_self s S2))
            · exact (hp2.trans HP.out).cons_inv
            · have := hp2.length_eq; rw [List.length_cons, HL.out] at this; omega
          have ho2 := hI.out.only.trans o2
          have hsz2 := ho2.size
          have own2 : w2.ownsRow w.heap.size 3 1 u5 D.length (vals ci (args D)) := own_keep hI.out.own fun b cs hb hv => o2.block b (lt_of_heap hb) (by have := (hI.out.own.lt b hv).1; omega) (by have := (hI.out.own.lt b hv).1; omega)
          have src := sr_one ci w2 3 s.2.2
          have hvb : ∀ b, u5.ownBlock = some b → w.heap.size ≤ b := fun b hb => (hI.out.own.lt b hb).1
          have HT2 := Lib.hid ht2
          have HO2 := Lib.hid ho2
          have HSZ : Hid (w.heap.size ≤ w2.heap.size) := hsz2
          have HOWN := Lib.hid own2
          have b63 : D.length + 1 ≤ 100000 := by omega
          have own2a : (w2.alloc (.cells (ci s.2.2).toArray 3)).ownsRow w.heap.size 3 1 u5 D.length (vals ci (args D)) := own2.alloc _
          have hba : w.heap.size ≤ (w2.alloc (.cells (ci s.2.2).toArray 3)).heap.size := by simp; omega
          have HAL := Lib.hid (args_len D)
          obtain ⟨dn, hdn⟩ : ∃ dn, D.length = dn := ⟨_, rfl⟩
          rw [hdn] at own2a b63 hDS HAL
          have HDN := Lib.hid hdn
          have hfl := fld66 (.int .u64 s.1) (.int .i64 s.2.1) (.int .i64 s.2.2)
          clear hp2 hH2 hh2 rw2 o2 ht2 ho2 own2 c0 d0 HR HHH HW hsz2 hdn
          go_wp2_with (at_builtin; refine wpList_append_row ki (by omega) rfl _ _ rfl w.heap.size u5 (args D) [s.2.2] dn HAL.out rfl own2a _ 1 1 rfl rfl src b63 hba (dn + 1) rfl ?_; intro X5 k5 w5 hown5 hgrow5)
          go_wp2
          go_roundw
          case rel =>
            have hk : ∀ b, b < w.heap.size → w5.heap[b]? = w2.heap[b]? := fun b hb => by
              rw [hgrow5.block b (by have := HSZ.out; simp; omega) (fun e => by have := hvb b e.symm; omega)]
              exact Below.heap_alloc w2 _ b (by have := HSZ.out; omega)
            have ht5 : Tm w5 B p g1 S2 last := HT2.out.keep (hk p hpl) (hk g1 hgl)
            have ho5 : Only p g1 w w5 := by
              refine ⟨hgrow5.os.trans HO2.out.os, hgrow5.tape.trans HO2.out.tape, hgrow5.output.trans HO2.out.output, Nat.le_trans hba hgrow5.size, fun i hi h1 h2 => (hk i hi).trans (HO2.out.block i hi h1 h2)⟩
            refine ⟨D ++ [s], S2, hI.out.next rfl HC.out ht5 ho5 ?_⟩
            rw [HDN.out]; exact hown5
          case measure =>
            have e1 : sln u5 = dn := by rw [HV.out]; exact HDN.out
            rw [e1]; simp [sln]; omega
        · have i1 : decide (s.1 ≤ now) = false := by simpa using c
          have HC := Lib.hid c
          clear c
          go_wp2
          go_ret
          obtain ⟨e1, e2⟩ := due_end hI.out.app hI.out.le (fun s' S2' h => by injection h with h _; subst h; have := HC.out; omega)
          have hDn : D.length = n := by rw [← e1]; exact HN.out
          refine ⟨X0, k0, ?_, ?_, by rw [e2]; exact hI.out.tm, hI.out.only⟩
          · show Ending.returned _ = _
            rw [← hDn]; exact congrArg Ending.returned HV.out
          · rw [e1]
            have := hI.out.own
            rw [HV.out, hDn] at this; exact this

set_option maxHeartbeats 800000 in
theorem clone_row (g k n : Nat) (H : List En) (w : World) (hr : Rw w g k H) (hn : H.length = n) (hn2 : n ≤ 256) :
    Calls Try.prog 48 #[.slice (some ⟨g, 0, none⟩) n k] w fun e w' => ∃ X k', e = .returned (.slice X n k') ∧ w'.ownsRow w.heap.size 80 3 (.slice X n k') n (vals cp H) ∧ Below w.heap.size w w' := by
  have own0 : (w.alloc (.cells #[] 80)).ownsRow w.heap.size 80 3 (.slice (some ⟨w.heap.size, 0, none⟩) 0 0) 0 (vals cp []) := World.ownsRow_lit w #[] 0 (Nat.le_refl _) (by unfold maxLen; omega) rfl
  have src := own_src hn ((hr.alloc (.cells #[] 80)).own hn (Nat.zero_le _))
  have hb0 : Below w.heap.size w (w.alloc (.cells #[] 80)) := (Below.refl _ _).alloc (Nat.le_refl _) _
  have b63 : 0 + n ≤ 100000 := by omega
  have HN := Lib.hid hn
  have heq : ∀ W, (binOp .eql 75 (.slice (some ⟨g, 0, none⟩) n k) (.slice none 0 0)).run Try.prog W = .ok (.bool false) W := eq_nil _ _ _
  clear hn hr
  go_enter Try.func48, Try.ntmps48
  go_wp2_with (at_builtin; refine wpList_append_row kp (by omega) rfl _ _ rfl w.heap.size (.slice (some ⟨w.heap.size, 0, none⟩) 0 0) [] H 0 rfl rfl own0 (some ⟨g, 0, none⟩) n k rfl HN.out src b63 hb0.size n (Nat.zero_add _) ?_; intro X5 k5 w5 hown5 hgrow5)
  go_wp2
  go_ret
  exact ⟨X5, k5, rfl, hown5, hb0.grown hgrow5 hb0.size (fun k hk => (own0.lt k hk).1)⟩

set_option maxHeartbeats 800000 in
theorem clone_nil (w : World) :
    Calls Try.prog 48 #[.slice none 0 0] w fun e w' => ∃ X k', e = .returned (.slice X 0 k') ∧ w'.ownsRow w.heap.size 80 3 (.slice X 0 k') 0 (vals cp []) ∧ Below w.heap.size w w' := by
  have heq : ∀ W, (binOp .eql 75 (.slice none 0 0) (.slice none 0 0)).run Try.prog W = .ok (.bool true) W := eq_nil _ _ _
  go_enter Try.func48, Try.ntmps48
  go_wp2
  go_ret
  exact ⟨none, 0, rfl, World.ownsRow_nil _ _ _ _, Below.refl _ _⟩

theorem clone_any (B : Nat) (v : Value) (H : List En) (w : World) (hr : Es w B v H) (n : Nat) (hn : H.length = n) (hn2 : n ≤ 256) :
    Calls Try.prog 48 #[v] w fun e w' => ∃ X k', e = .returned (.slice X n k') ∧ w'.ownsRow w.heap.size 80 3 (.slice X n k') n (vals cp H) ∧ Below w.heap.size w w' := by
  rcases hr.open with ⟨rfl, rfl⟩ | ⟨g, k, rfl, hw, _⟩
  · simp at hn; subst hn; exact clone_nil w
  · rw [hn]; exact clone_row g k n H w hw hn hn2

theorem tw_keep2 {w w1 w2 : World} {p B : Nat} {v : Value} {last : Int} {H : List En} (hp : p < w.heap.size) (hb : Below w1.heap.size w1 w2) (h : w1.cell? ⟨p, 0, none⟩ = some v ∧ w1.cell? ⟨p, 1, none⟩ = some (.int .i64 last) ∧ Es w1 B v H ∧ Below w.heap.size w w1) : w2.cell? ⟨p, 0, none⟩ = some v ∧ w2.cell? ⟨p, 1, none⟩ = some (.int .i64 last) ∧ Es w2 B v H ∧ Below w.heap.size w w2 :=
  ⟨(hb.cell (p := ⟨p, 0, none⟩) (Nat.lt_of_lt_of_le hp h.2.2.2.size)).trans h.1, (hb.cell (p := ⟨p, 1, none⟩) (Nat.lt_of_lt_of_le hp h.2.2.2.size)).trans h.2.1, own_below h.2.2.1 hb, below_trans h.2.2.2 hb⟩
theorem hold_es {w w1 : World} {p B : Nat} {v : Value} {last : Int} {H : List En} (h : w1.cell? ⟨p, 0, none⟩ = some v ∧ w1.cell? ⟨p, 1, none⟩ = some (.int .i64 last) ∧ Es w1 B v H ∧ Below w.heap.size w w1) : Es w1 B v H := h.2.2.1

set_option maxHeartbeats 1600000 in
theorem twin_any (w : World) (B p g : Nat) (S : List En) (last : Int) (h : Tm w B p g S last) :
    Calls Try.prog 39 #[.pointer (some ⟨p, 0, none⟩)] w fun e w' => ∃ p' g', e = .returned (.pointer (some ⟨p', 0, none⟩)) ∧ Tm w' w.heap.size p' g' S last ∧ Below w.heap.size w w' := by
  obtain ⟨H, X, k, hp, hH, hl, hh, hE, _, _, hob⟩ := h.open
  have hG := h.good
  have hlen := h.good.len
  obtain ⟨n, hn⟩ : ∃ n, S.length = n := ⟨_, rfl⟩
  rw [hn] at hh hE hlen hl
  have c0 : w.cell? ⟨p, 0, none⟩ = some (.slice X n k) := by rw [cell_of_row w p 0 _ 77 (0, 0) hh]; rfl
  have c1 : w.cell? ⟨p, 1, none⟩ = some (.int .i64 last) := by rw [cell_of_row w p 1 _ 77 (0, 0) hh]; rfl
  have HG := Lib.hid hG
  have HP := Lib.hid hp
  have HH := Lib.hid hH
  have HL := Lib.hid hl
  have HPL := Lib.hid (lt_of_heap hh)
  clear h hob hn hG hp hH
  go_enter Try.func39, Try.ntmps39
  go_wp2
  go_region_held3 (fun W => W.cell? ⟨p, 0, none⟩ = some (.slice X n k) ∧ W.cell? ⟨p, 1, none⟩ = some (.int .i64 last) ∧ Es W B (.slice X n k) H ∧ Below w.heap.size w W)
    (first | exact ⟨c0, c1, hE, Below.refl _ _⟩ | exact ⟨c0, c1, hE, (Below.refl _ _).drew⟩ | exact tw_keep2 HPL.out hb (by assumption) | exact tw_keep2 HPL.out ((Below.refl _ _).alloc (Nat.le_refl _) _) (by assumption) | go_keep)
    (first | (go_at_call 48; refine (clone_any B (.slice X n k) H _ ?_ n HL.out hlen).mono ?_; (exact hold_es (by assumption)); rintro e w' ⟨X', k', rfl, hr, hb⟩))
  have HR := Lib.hid hr
  have HB := Lib.hid hb
  clear hr hb c0 c1 hh hE
  go_wp2
  go_ret
  have hb' : Below w.heap.size w w' := ((Below.refl _ _).drew).trans HB.out
  have hr2 : w'.ownsRow w.heap.size 80 3 (.slice X' n k') n (vals cp H) := HR.out
  obtain ⟨g', hg1, hg2⟩ : ∃ g', w.heap.size ≤ g' ∧ ((Value.slice X' n k').ownBlock = some g' ∨ (Value.slice X' n k').ownBlock = none ∧ g' = w'.heap.size) := by
    cases hX : X' with
    | none => exact ⟨w'.heap.size, hb'.size, .inr ⟨rfl, rfl⟩⟩
    | some ad => exact ⟨ad.block, by rw [hX] at hr2; exact (hr2.lt ad.block rfl).1, .inl rfl⟩
  refine ⟨w'.heap.size, g', rfl, ⟨hb'.size, hg1, ⟨H, _, HP.out, HH.out, heap_alloc_new _ _, ?_, hg2⟩, HG.out⟩, hb'.alloc hb'.size _⟩
  rw [HL.out]; exact hr2.alloc _
end Go.Proofs.Ytpnhpgdidineaaa
