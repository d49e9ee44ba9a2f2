/- Contracts of package ready: Row, All, New, Twin; of the laws: Same. -/
import Derived.Test.YtfilggkdhcjpbaaDoorRdB
import Derived.Laws.AppendOwnNone
import Derived.Laws.CopyOwn
import Derived.Deep.RegionLaw
namespace Go.Proofs.YtfilggkdhcjpbaaDoor
open Go.RowKit
variable {X : Nat → Int} {B : Nat → Bool}

def vals (l : List Int) : List Value := l.map (Value.int .i64)
def slLen : Value → Nat
  | .slice _ n _ => n
  | _ => 0
theorem own_len {w : World} {B n : Nat} {v : Value} {xs : List Value} (h : w.ownsRow B 3 1 v n xs) : slLen v = n := by
  rcases h.2 with ⟨rfl, rfl⟩ | ⟨g, cap, cur, rfl, _⟩ <;> rfl

/-- a source of append: nil, or cells that are read -/
def Sr (w : World) (Y : Option Addr) (k : Nat) (L : List Int) : Prop :=
  (Y = none ∧ L = [] ∧ k = 0) ∨ ∃ b o : Nat, Y = some ⟨b, o, none⟩ ∧ ∀ (j : Nat) (x : Int), L[j]? = some x → w.cell? ⟨b, o + j, none⟩ = some (.int .i64 x)
/-- a slice that lives on: nil, or cells of a block of integers -/
def Sl (w : World) (Y : Option Addr) (k : Nat) (L : List Int) : Prop :=
  (Y = none ∧ L = [] ∧ k = 0) ∨ (L.length ≤ k ∧ k ≤ 9223372036854775807 ∧ ∃ b o : Nat, Y = some ⟨b, o, none⟩ ∧ ∃ cs, w.heap[b]? = some (.cells cs 3 (0, 0)) ∧ ∀ (j : Nat) (x : Int), L[j]? = some x → cs[o + j]? = some (.int .i64 x))
theorem Sl.nil (w : World) : Sl w none 0 [] := .inl ⟨rfl, rfl, rfl⟩
theorem Sl.sr {w : World} {Y : Option Addr} {k : Nat} {L : List Int} (h : Sl w Y k L) : Sr w Y k L := by
  rcases h with h | ⟨_, _, b, o, h1, cs, h2, h3⟩
  · exact .inl h
  · exact .inr ⟨b, o, h1, fun j x hx => by rw [cell_of_row w b _ cs 3 (0, 0) h2]; exact h3 j x hx⟩
theorem Sl.keep {w w' : World} {Y : Option Addr} {k : Nat} {L : List Int} (h : Sl w Y k L) (kp : ∀ (g : Nat) (cs : Array Value), w.heap[g]? = some (.cells cs 3 (0, 0)) → w'.heap[g]? = w.heap[g]?) : Sl w' Y k L := by
  rcases h with h | ⟨h0, h00, b, o, h1, cs, h2, h3⟩
  · exact .inl h
  · exact .inr ⟨h0, h00, b, o, h1, cs, (kp b cs h2).trans h2, h3⟩
theorem Sl.below {w w' : World} {Y : Option Addr} {k : Nat} {L : List Int} (h : Sl w Y k L) (hb : Below w.heap.size w w') : Sl w' Y k L := h.keep fun g _ hg => hb.block g (lt_of_heap hg)
/-- a block of another type has turned -/
theorem Sl.only {w w' : World} {Y : Option Addr} {k : Nat} {L : List Int} {p : Nat} (h : Sl w Y k L) (ko : Only p w w') (hp : ∀ cs fr, w.heap[p]? ≠ some (.cells cs 3 fr)) : Sl w' Y k L :=
  h.keep fun g cs hg => ko.block g (lt_of_heap hg) (by rintro rfl; exact hp cs _ hg)
theorem Sl.drewN {w : World} {Y : Option Addr} {k : Nat} {L : List Int} (h : Sl w Y k L) (n : Nat) : Sl (w.drewN n) Y k L := h
theorem Sl.at_ {w : World} {Y : Option Addr} {k : Nat} {L : List Int} (h : Sl w Y k L) (h0 : 0 < L.length) : ∃ b o : Nat, Y = some ⟨b, o, none⟩ ∧ b < w.heap.size ∧ ∀ (j : Nat) (x : Int), L[j]? = some x → w.cell? ⟨b, o + j, none⟩ = some (.int .i64 x) := by
  rcases h with ⟨_, rfl, _⟩ | ⟨_, _, b, o, h1, cs, h2, h3⟩
  · simp at h0
  · exact ⟨b, o, h1, lt_of_heap h2, fun j x hx => by rw [cell_of_row w b _ cs 3 (0, 0) h2]; exact h3 j x hx⟩
theorem Qu.type {w : World} {p : Nat} {S : St} (h : Qu w p S) : ∀ cs fr, w.heap[p]? ≠ some (.cells cs 3 fr) := by
  obtain ⟨_, X, ⟨_, f, ⟨cs, hh, _⟩, _⟩, _⟩ := h
  intro cs2 fr h2
  rw [hh] at h2; injection h2 with h2; injection h2 with _ h3; exact absurd h3 (by decide)

theorem grownBy_refl (w : World) (row : Option Nat) : w.grownBy w row := ⟨rfl, rfl, rfl, Nat.le_refl _, fun _ _ _ => rfl⟩
theorem own_form {w : World} {B n : Nat} {v : Value} {xs : List Value} (h : w.ownsRow B 3 1 v n xs) : ∃ Y k, v = .slice Y n k := by
  rcases h.2 with ⟨rfl, rfl⟩ | ⟨g, cap, cur, rfl, _⟩
  · exact ⟨none, 0, rfl⟩
  · exact ⟨_, cap, rfl⟩
theorem own_nil (w : World) (B : Nat) : w.ownsRow B 3 1 (.slice none 0 0) 0 (vals []) := ⟨rfl, .inl ⟨rfl, rfl⟩⟩
theorem own_sl {w : World} {B n : Nat} {v : Value} {L : List Int} (hn : L.length = n) (h : w.ownsRow B 3 1 v n (vals L)) : ∃ (Y : Option Addr) (k : Nat), v = .slice Y n k ∧ Sl w Y k L := by
  subst hn
  rcases h.2 with ⟨rfl, h0⟩ | ⟨g, cap, cur, rfl, hg, hh, hc1, hc2, hsz, htk⟩
  · exact ⟨none, 0, by rw [h0], .inl ⟨rfl, List.eq_nil_of_length_eq_zero h0, rfl⟩⟩
  · refine ⟨some ⟨g, 0, none⟩, cap, rfl, .inr ⟨hc1, by simp [maxLen] at hc2; omega, g, 0, rfl, cur, hh, fun j x hx => ?_⟩⟩
    have hj : j < L.length := (List.getElem?_eq_some_iff.1 hx).1
    have : (cur.toList.take (L.length * 1))[j]? = (vals L)[j]? := by rw [htk]
    rw [List.getElem?_take, if_pos (by omega)] at this
    rw [Nat.zero_add, ← Array.getElem?_toList, this]
    simp [vals, hx]
theorem own_below {w w1 w' : World} {B : Nat} {v : Value} {n : Nat} {xs : List Value} (hb : Below B w w1) (hB : B ≤ w.heap.size) (hown : w1.ownsRow B 3 1 v n xs) (hg : w1.grownBy w' v.ownBlock) : Below B w w' :=
  hb.grown hg (by have := hb.size; omega) (fun k hk => (hown.lt k hk).1)

theorem wp_append_row {w : World} {o : Oper} {a : Act} {K : Act → World → Prop} {Q : Exit → Act → World → Prop} (s x : Operand)
    (ho : o.op = .call { callee := .builtin .append, args := #[s, x], argTypes := #[27, 27] })
    (base : Nat) (v : Value) (L1 L2 : List Int) (n1 : Nat) (hn1 : L1.length = n1) (hs : a.eval s = v) (hown : w.ownsRow base 3 1 v n1 (vals L1)) (Y : Option Addr) (n k : Nat) (hx : a.eval x = .slice Y n k) (hn : L2.length = n)
    (hsrc : Sr w Y k L2) (h63 : n1 + n ≤ 100000) (hbase : base ≤ w.heap.size) (c : Nat) (hcc : n1 + n = c)
    (h : ∀ Y' k' w', w'.ownsRow base 3 1 (.slice Y' c k') c (vals (L1 ++ L2)) → w.grownBy w' v.ownBlock → K (a.put o.dst (.slice Y' c k')) w') : o.wp Tryd.prog a w K Q := by
  obtain ⟨i0, hi, hz0, hz1, hz2⟩ := info_parts info3
  subst hn hn1 hcc
  rcases hsrc with ⟨rfl, rfl, rfl⟩ | ⟨b, off, rfl, hc⟩
  · have hrun := run_append_owned_none (P := Tryd.prog) (w := w) base 27 o.type 3 i0 1 Tryd.underlying27 hi v L1.length (vals L1) hown
    obtain ⟨Y', k', rfl⟩ := own_form hown
    unfold Oper.wp
    simp only [List.length_nil] at hx
    simp [execOp, ho, resolve, invoke, builtin, hs, hx, hrun, Result.andThen]
    exact h Y' k' w (by simpa using hown) (grownBy_refl _ _)
  · refine wp_append_own _ s x 27 ho base 3 i0 (.int .i64 0) 1 8 Tryd.underlying27 hi hz0 hz1 hz2 rfl (by decide) v L1.length (vals L1) hs hown ⟨b, off, none⟩ L2.length k (vals L2) hx (by simp [vals]) ?_ ?_ (by unfold maxLen; omega) (by omega) hbase ?_
    · intro j u hu
      rw [addr_add]
      unfold vals at hu
      rw [List.getElem?_map] at hu
      obtain ⟨y, hy, rfl⟩ := Option.map_eq_some_iff.1 hu
      exact hc j y hy
    · intro u hu
      obtain ⟨y, _, rfl⟩ := List.mem_map.1 hu
      rfl
    · intro v' w' h1 h2 _
      have h3 : w'.ownsRow base 3 1 v' (L1.length + L2.length) (vals (L1 ++ L2)) := by simpa [vals] using h1
      obtain ⟨Y', k', rfl⟩ := own_form h3
      exact h Y' k' w' h3 h2
theorem wpList_append_row {w : World} {ops : Array Oper} {rest : List Oper} {o : Oper} {a : Act} {Q : Exit → Act → World → Prop} (hgd : o.guard = none) (s x : Operand)
    (ho : o.op = .call { callee := .builtin .append, args := #[s, x], argTypes := #[27, 27] })
    (base : Nat) (v : Value) (L1 L2 : List Int) (n1 : Nat) (hn1 : L1.length = n1) (hs : a.eval s = v) (hown : w.ownsRow base 3 1 v n1 (vals L1)) (Y : Option Addr) (n k : Nat) (hx : a.eval x = .slice Y n k) (hn : L2.length = n)
    (hsrc : Sr w Y k L2) (h63 : n1 + n ≤ 100000) (hbase : base ≤ w.heap.size) (c : Nat) (hcc : n1 + n = c)
    (h : ∀ Y' k' w', w'.ownsRow base 3 1 (.slice Y' c k') c (vals (L1 ++ L2)) → w.grownBy w' v.ownBlock → wpList Tryd.prog ops Q rest (a.put o.dst (.slice Y' c k')) w') : wpList Tryd.prog ops Q (o :: rest) a w :=
  wpList_plain hgd fun _ hK => wp_append_row s x ho base v L1 L2 n1 hn1 hs hown Y n k hx hn hsrc h63 hbase c hcc fun Y' k' w' h1 h2 => hK _ _ (h Y' k' w' h1 h2)
theorem sr_one (w : World) (x : Int) : Sr (w.alloc (.cells #[.int .i64 x] 3)) (some ⟨w.heap.size, 0, none⟩) 1 [x] := by
  refine .inr ⟨w.heap.size, 0, rfl, fun j y hy => ?_⟩
  have hj : j = 0 := by have := (List.getElem?_eq_some_iff.1 hy).1; simp at this; omega
  subst hj
  rw [cell_of_row _ w.heap.size _ _ 3 (0, 0) (heap_alloc_new w _)]
  simp at hy; subst hy; rfl

/-- what Row and All tell -/
def RowPost (L : List Int) (n : Nat) (w : World) (e : Ending) (w' : World) : Prop :=
  ∃ (Y : Option Addr) (k : Nat), e = .returned (.slice Y n k) ∧ Sl w' Y k L ∧ Below w.heap.size w w'

/-- a row's cells as a source -/
theorem sr_row {S : St} {w : World} {p : Nat} (hm : Mp w p X S.set) (hl : Lay X S) (hg : Good S) {a : Nat} (ha : a ≤ 16) (k : Nat) : Sr w (some ⟨p, 4 + a * 17, none⟩) k (S.R a) :=
  .inr ⟨p, 4 + a * 17, rfl, fun j x hx => by
    have := (List.getElem?_eq_some_iff.1 hx).1
    have := hg.len a
    rw [hm.ix (j := 4 + a * 17 + j) (by omega) (by omega), hl.row a ha j x hx]⟩

set_option maxHeartbeats 1000000 in
theorem row_any (p : Nat) (S : St) (a : Int) (w : World) (hq : Qu w p S) (L : List Int) (hL : S.R a.toNat = L) (n : Nat) (hn : L.length = n) :
    Calls Tryd.prog 21 #[.pointer (some ⟨p, 0, none⟩), .int .i64 a] w (RowPost L n w) := by
  obtain ⟨hg, X, hm, hl⟩ := hq
  by_cases ha : inR a
  · have HP := Lib.hid (isPri_any a w true (by simpa using ha))
    obtain ⟨b, rfl, hb1, hb2⟩ := inR_nat ha
    rw [Int.toNat_natCast] at hL
    have hn16 : n ≤ 16 := by rw [← hn, ← hL]; exact hg.len b
    have hc := hl.count b hb2
    rw [hL, hn] at hc
    have HU := Lib.hid (inUse_any p (4 + b * 17) n w hm (by omega) (by omega) hc hn16)
    have HS := Lib.hid (fun d => sr_row (hm.drewN d) hl hg hb2 16)
    rw [hL] at HS
    have HN := Lib.hid hn
    have hbi : (b : Int) < 17 := by omega
    clear hm hl hg ha hL hn hc
    go_enter Tryd.func21, Tryd.ntmps21
    go_wp2_with fail
    refine HP.out.mono ?_
    rintro e w' ⟨rfl, rfl⟩
    go_wp2_with fail
    refine HU.out.mono ?_
    rintro e w' ⟨rfl, d, rfl⟩
    have hs := HS.out d
    have hb0 := below_drewN w.heap.size w d
    generalize w.drewN d = w1 at *
    clear HS HU HP
    go_wp2_with (at_builtin; refine wpList_append_row rfl _ _ rfl w1.heap.size (.slice none 0 0) [] L 0 rfl rfl (own_nil _ _) _ n 16 rfl HN.out hs (by omega) (Nat.le_refl _) n (by omega) ?_; intro Y k w2 hown hgrow; clear hs)
    go_ret
    obtain ⟨Y', k', h1, h2⟩ := own_sl HN.out hown
    exact ⟨Y', k', congrArg Ending.returned h1, h2, hb0.trans (own_below ((Below.refl _ _)) (Nat.le_refl _) (own_nil w1 w1.heap.size) hgrow |>.mono hb0.size)⟩
  · have e : S.R a.toNat = [] := hg.out (by
      by_cases c : 1 ≤ a
      · right; have : ¬ a ≤ 16 := fun h => ha ⟨c, h⟩
        omega
      · left; omega)
    rw [e] at hL
    subst hL
    obtain rfl : n = 0 := by simpa using hn.symm
    have HP := Lib.hid (isPri_any a w false (by simpa using ha))
    clear hm hl hg ha hn e
    go_enter Tryd.func21, Tryd.ntmps21
    go_wp2_with fail
    refine HP.out.mono ?_
    rintro e w' ⟨rfl, rfl⟩
    go_wp2
    go_ret
    exact ⟨none, 0, rfl, Sl.nil _, Below.refl _ _⟩

/-- the loop of All: a was told last -/
def AllRel (S : St) (w : World) (r n ok : Value) (wr : World) : Prop :=
  ∃ (a : Nat) (D : List Int), D ++ S.beyond a = S.all ∧ wr.ownsRow w.heap.size 3 1 r D.length (vals D) ∧ n = .int .i64 (nxt S.set a : Int) ∧ ok = .bool (decide (0 < nxt S.set a)) ∧ Below w.heap.size w wr
def mea (n : Nat) : Nat := if n = 0 then 0 else 257 - n

set_option maxHeartbeats 1600000 in
theorem all_any (p : Nat) (S : St) (w : World) (hq : Qu w p S) (hT : Tab w) (n : Nat) (hn : S.all.length = n) :
    Calls Tryd.prog 20 #[.pointer (some ⟨p, 0, none⟩)] w (RowPost S.all n w) := by
  obtain ⟨hg, X, hm, hl⟩ := hq
  have HF := Lib.hid (first_any p S.set w hm hT _ rfl)
  have HM := Lib.hid hm
  have HL := Lib.hid hl
  have HG := Lib.hid hg
  have HT := Lib.hid hT
  have HN := Lib.hid hn
  clear hm hl hg hT hn
  unfold tell at HF
  go_enter Tryd.func20, Tryd.ntmps20
  go_wp2_with fail
  refine HF.out.mono ?_
  rintro e w' ⟨rfl, rfl⟩
  go_wp2
  go_loopw [3, 4, 5] (fun r m ok wr => AllRel S w r m ok wr) (fun _ m _ _ => mea (intOf m).toNat)
  case atStart => exact ⟨0, [], rfl, own_nil _ _, rfl, rfl, Below.refl _ _⟩
  case round =>
    obtain ⟨a, D, hD, hown, rfl, rfl, hb⟩ := hrel
    have HD := Lib.hid hD
    clear hD
    by_cases hz : nxt S.set a = 0
    · have hd : decide (0 < nxt S.set a) = false := by simp [hz]
      rw [hd]
      have e : D = S.all := by rw [← HD.out, beyond_nil S a hz, List.append_nil]
      subst e
      rw [HN.out] at hown
      have HW := Lib.hid (own_sl HN.out hown)
      clear hz hown hd
      go_wp2
      go_ret
      obtain ⟨Y, k, h1, h2⟩ := HW.out
      exact ⟨Y, k, congrArg Ending.returned h1, h2, hb⟩
    · have hd : decide (0 < nxt S.set a) = true := by simp; omega
      rw [hd]
      have hx16 := HG.out.nxt16 a
      have hc := beyond_cons S a hz
      have hlt : a < nxt S.set a := by rcases nxt_some S.set a with h | h <;> omega
      have hlen := HG.out.all_len
      have e2 : (D ++ S.R (nxt S.set a)) ++ S.beyond (nxt S.set a) = S.all := by rw [← HD.out, hc]; simp
      have hlen2 : D.length + (S.R (nxt S.set a)).length ≤ 16 := by
        have := congrArg List.length e2
        simp at this; omega
      have HE := Lib.hid e2
      clear hc hd e2 hlen
      have HNX := Lib.hid (nxt_some S.set (nxt S.set a))
      have hcnt := HL.out.count _ hx16
      have HS := Lib.hid (fun d => sr_row ((HM.out.below hb).drewN d) HL.out HG.out hx16 16)
      have hx1 : 0 < nxt S.set a := by omega
      generalize nxt S.set a = x at *
      have HU := Lib.hid (inUse_any p (4 + x * 17) _ wr (HM.out.below hb) (by omega) (by omega) hcnt (by omega))
      have hxi : (x : Int) < 17 := by omega
      clear hz hcnt
      obtain ⟨m, hmR⟩ : ∃ m, (S.R x).length = m := ⟨_, rfl⟩
      rw [hmR] at HU hlen2
      have HMR := Lib.hid hmR
      clear hmR
      go_wp2_with fail
      refine HU.out.mono ?_
      rintro e w' ⟨rfl, d, rfl⟩
      have hs := HS.out d
      have hb1 := hb.trans (below_drewN w.heap.size wr d)
      have hown1 : (wr.drewN d).ownsRow w.heap.size 3 1 _ D.length (vals D) := hown
      generalize wr.drewN d = w1 at *
      clear HS HU hb hown
      have hsz := hb1.size
      go_wp2_with (at_builtin; refine wpList_append_row rfl _ _ rfl w.heap.size _ D (S.R x) D.length rfl rfl hown1 _ m 16 rfl HMR.out hs (by omega) hsz (D.length + m) rfl ?_; intro Y k w2 hown2 hgrow; clear hs)
      have hb2 := own_below hb1 (Nat.le_refl _) hown1 hgrow
      have HF2 := Lib.hid (after_any p S.set (x : Int) w2 (HM.out.below hb2) (HT.out.below hb2) (nxt S.set x) (by rw [Int.toNat_natCast]))
      clear hgrow hown1 hb1
      unfold tell at HF2
      go_wp2_with fail
      refine HF2.out.mono ?_
      rintro e w3 ⟨rfl, rfl⟩
      go_wp2
      go_roundw
      case rel => exact ⟨x, D ++ S.R x, HE.out, by rw [List.length_append, HMR.out]; exact hown2, rfl, rfl, hb2⟩
      case measure =>
        change mea (nxt S.set x) < mea x
        unfold mea
        rcases HNX.out with h | h
        · rw [if_pos h, if_neg (by omega)]; omega
        · rw [if_neg (by omega), if_neg (by omega)]; omega

/-- Same: the same numbers -/
theorem drewN_drewN (w : World) (a b : Nat) : (w.drewN a).drewN b = w.drewN (a + b) := by simp [World.drewN, Nat.add_assoc]
set_option maxHeartbeats 800000 in
theorem same_true (Y Z : Option Addr) (ky kz n : Nat) (L : List Int) (w : World) (hn : L.length = n) (hy : Sl w Y ky L) (hz : Sl w Z kz L) (hs : n ≤ 1000000) :
    Calls Tryd.prog 22 #[.slice Y n ky, .slice Z n kz] w fun e w' => e = .returned (.bool true) ∧ Below w.heap.size w w' := by
  have HN := Lib.hid hn
  have HY := Lib.hid hy
  have HZ := Lib.hid hz
  clear hn hy hz
  go_enter Tryd.func22, Tryd.ntmps22
  go_wp2
  go_loopw [5] (fun i wr => ∃ t j : Nat, t ≤ n ∧ i = .int .i64 (t : Int) ∧ wr = w.drewN j) (fun i _ => n - (intOf i).toNat)
  case atStart => exact ⟨0, 0, Nat.zero_le _, rfl, rfl⟩
  case round =>
    obtain ⟨t, j, ht, rfl, rfl⟩ := hrel
    by_cases hlt : t < n
    · obtain ⟨x, hx⟩ : ∃ x, L[t]? = some x := ⟨_, List.getElem?_eq_getElem (by rw [HN.out]; exact hlt)⟩
      obtain ⟨b1, o1, rfl, _, hc1⟩ := HY.out.at_ (by rw [HN.out]; omega)
      obtain ⟨b2, o2, rfl, _, hc2⟩ := HZ.out.at_ (by rw [HN.out]; omega)
      have h1 : (w.drewN j).cell? ⟨b1, o1 + t, none⟩ = some (.int .i64 x) := hc1 t x hx
      have h2 : (w.drewN j).cell? ⟨b2, o2 + t, none⟩ = some (.int .i64 x) := hc2 t x hx
      have i1 : (t : Int) < (n : Int) := by omega
      have HW := Lib.hid (drewN_drewN w j)
      clear hc1 hc2 hx
      generalize w.drewN j = w1 at *
      go_wp2
      go_quiet (fail)
      go_wp2
      go_roundw
      case rel => exact ⟨t + 1, _, by omega, by go_num, HW.out _⟩
      case measure => simp [intOf]; omega
    · go_wp2
      go_ret
      exact ⟨rfl, below_drewN _ _ _⟩

/-- a new Queue -/
def Made (S : St) (w : World) (e : Ending) (w' : World) : Prop :=
  ∃ p : Nat, w.heap.size ≤ p ∧ e = .returned (.pointer (some ⟨p, 0, none⟩)) ∧ Qu w' p S ∧ Below w.heap.size w w'

theorem struct_of {o : Option TypeDesc} (h : (match o with | some (.struct _) => true | _ => false) = true) : ∃ fs, o = some (.struct fs) := by
  split at h
  · exact ⟨_, rfl⟩
  · cases h
theorem und63 : ∃ fs, Tryd.prog.underlying 63 = some (.struct fs) := struct_of (by kernel_rfl)
theorem info63 : (Tryd.prog.info? 63).map (·.size) = some 310 := by kernel_rfl
def zer : Array Value := Array.replicate 4 (.int .u64 0) ++ Array.replicate 306 (.int .i64 0)
theorem zero_info : (Tryd.prog.info? 63).map (·.zero) = some (some (.agg zer)) := by kernel_rfl
theorem zero63 (W : World) : (zeroValue 63).run Tryd.prog W = .ok (.agg zer) W := by
  have h := zero_info
  cases hq : Tryd.prog.info? 63 with
  | none => simp [hq] at h
  | some i =>
    have hi : i.zero = some (.agg zer) := by simpa [hq] using h
    simp [zeroValue, typeInfo, hq, hi]
theorem zer_at (j : Nat) : zer[j]? = if j < 4 then some (.int .u64 0) else if j < 310 then some (.int .i64 0) else none := by
  unfold zer
  rw [Array.getElem?_append, Array.size_replicate, Array.getElem?_replicate, Array.getElem?_replicate]
  by_cases c : j < 4
  · rw [if_pos c, if_pos c, if_pos c]
  · rw [if_neg c, if_neg c]
    by_cases c2 : j < 310
    · rw [if_pos (by omega), if_pos c2]
    · rw [if_neg (by omega), if_neg c2]
theorem zer_size : zer.size = 310 := by unfold zer; rw [Array.size_append, Array.size_replicate, Array.size_replicate]
theorem wd_one {w : World} {p : Nat} {f : Nat → Nat} (h : Wd w p X f) : ∃ cs, w.heap[p]? = some (.cells cs 63 (0, 0)) ∧ cs.size = 310 ∧ cs.all (·.oneCell') = true ∧ ∀ w' q, w'.heap[q]? = some (.cells cs 63 (0, 0)) → Wd w' q X f := by
  obtain ⟨cs, hh, h1, h2, h3⟩ := h
  refine ⟨cs, hh, h1, ?_, fun w' q hq => ⟨cs, hq, h1, h2, h3⟩⟩
  rw [Array.all_eq_true]
  intro i hi
  have e : cs[i]? = some cs[i] := Array.getElem?_eq_getElem hi
  by_cases c : i < 4
  · rw [h2 i c] at e; injection e with e; rw [← e]; rfl
  · rw [h3 i (by omega) (by omega)] at e; injection e with e; rw [← e]; rfl
set_option maxHeartbeats 800000 in
theorem twin_any (p : Nat) (S : St) (w : World) (hq : Qu w p S) : Calls Tryd.prog 18 #[.pointer (some ⟨p, 0, none⟩)] w (Made S w) := by
  have hpos := hq.lt
  obtain ⟨hg, X, ⟨h0, f, hw, hr⟩, hl⟩ := hq
  obtain ⟨cs, hcs, hsz, hall, hmk⟩ := wd_one hw
  obtain ⟨fs, hu⟩ := und63
  have hi : (Tryd.prog.info? 63).map (·.size) = some cs.size := by rw [hsz]; exact info63
  have HG := Lib.hid hg
  have HL := Lib.hid hl
  have HR := Lib.hid hr
  have hz63 := zero63
  have hzs := zer_size.trans hsz.symm
  generalize zer = zr at *
  clear hw hg hl hr
  go_enter Tryd.func18, Tryd.ntmps18
  go_wp2_with (first
    | (refine wpList_load_row rfl 63 (.tmp 5) rfl p rfl 63 cs (0, 0) (.struct fs) hcs hu rfl hi ?_)
    | (refine wpList_store_row rfl 63 (.tmp 3) (.tmp 6) rfl w.heap.size cs rfl rfl 63 _ (heap_alloc_new w _) hi hzs hall ?_))
  go_ret
  exact ⟨w.heap.size, Nat.le_refl _, rfl, ⟨HG.out, X, ⟨by omega, f, hmk _ _ (setRow_heap _ _ _ _ _ _ (heap_alloc_new w _)), HR.out⟩, HL.out⟩, below_setRow ((Below.refl _ _).alloc (Nat.le_refl _) _) (Nat.le_refl _) _⟩

theorem Lay.new : Lay (fun _ => 0) St.new := ⟨fun _ _ => rfl, fun _ _ i x h => by simp [St.new] at h, fun _ _ => rfl⟩
theorem qu_new (w : World) (h : 0 < w.heap.size) : Qu (w.alloc (.cells zer 63)) w.heap.size St.new :=
  ⟨Good.new, fun _ => 0, ⟨by omega, fun _ => 0, ⟨_, heap_alloc_new _ _, zer_size, fun j hj => by rw [zer_at, if_pos hj]; rfl, fun j h4 hj => by rw [zer_at, if_neg (by omega), if_pos hj]⟩, Rep.zero.congr fun _ _ _ => rfl⟩, Lay.new⟩

set_option maxHeartbeats 1600000 in
theorem new_any (w : World) (h : 0 < w.heap.size) : Calls Tryd.prog 9 #[] w (Made St.new w) := by
  have hz63 := zero63
  have HQ := Lib.hid (qu_new w h)
  clear h
  generalize zer = zr at *
  go_enter Tryd.func9, Tryd.ntmps9
  go_wp2
  go_ret
  exact ⟨w.heap.size, Nat.le_refl _, rfl, HQ.out, (Below.refl _ _).alloc (Nat.le_refl _) _⟩
end Go.Proofs.YtfilggkdhcjpbaaDoor
