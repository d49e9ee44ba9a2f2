/- What the laws of package dtq use, on: numbers that came in, cut; the contracts with their lengths as letters; what is forced. -/
import Derived.Test.YtnbepahanhcmeaaDqK
namespace Go.Proofs.Ytnbepahanhcmeaa
open Go.RowKit
set_option maxRecDepth 100000

theorem nr_of {w : World} {a : Option Addr} {len cap : Nat} {zs : List Int} (h : (a = none ∧ len = 0 ∧ cap = 0 ∧ zs = []) ∨
  ∃ x, a = some x ∧ len ≤ cap ∧ cap ≤ maxLen ∧ zs.length = cap ∧ (∀ i, i < zs.length → w.cell? (x.add i) = some (.int .i64 (zs.getD i 0))) ∧ ∀ n ∈ zs, (Lit.int .i64 n).wf = true) :
    ∃ L : List Int, L.length = len ∧ len ≤ cap ∧ cap ≤ 9223372036854775807 ∧ Nr w (.slice a len cap) L := by
  rcases h with ⟨rfl, rfl, rfl, _⟩ | ⟨x, rfl, hlc, hm, hz, hc, hwf⟩
  · exact ⟨[], rfl, by omega, by omega, none, 0, rfl, by simp, fun h => by simp at h⟩
  · have hcap : cap ≤ 9223372036854775807 := by unfold maxLen at hm; omega
    have hlen : (zs.take len).length = len := by simp; omega
    refine ⟨zs.take len, hlen, hlc, hcap, some x, cap, by rw [hlen], by omega, fun h0 => ?_⟩
    rw [hlen] at h0
    obtain ⟨b, o, s⟩ := x
    have hc0 := hc 0 (by omega)
    have hs : s = none := by
      cases s with
      | none => rfl
      | some q => simp [Addr.add, World.cell?] at hc0; split at hc0 <;> simp at hc0
    subst hs
    have hb : b < w.heap.size := by have := block_lt_of_cell hc0; simpa [Addr.add] using this
    refine ⟨b, o, rfl, hb, fun j y hy => ?_⟩
    have hj := (List.getElem?_eq_some_iff.1 hy).1
    rw [hlen] at hj
    have := hc j (by omega)
    rw [addr_add] at this
    rw [this]
    rw [List.getElem?_take, if_pos hj] at hy
    rw [List.getD_eq_getElem?_getD, hy]; rfl

theorem und58 : Try.prog.underlying 58 = some (.slice (Try.prog.elem 58)) := by kernel_rfl
theorem size58 (W : World) : (sizeOf (Try.prog.elem 58)).run Try.prog W = .ok 1 W := by
  have e : Try.prog.elem 58 = 3 := by kernel_rfl
  obtain ⟨i0, hi, _, hz1, _⟩ := info_parts K.info3
  rw [e]; simp [sizeOf, typeInfo, hi, hz1]
/-- from f on -/
theorem nr_cut_l {w : World} {X : Option Addr} {n k f : Nat} {L : List Int} (h : Nr w (.slice X n k) L) (hn : L.length = n) (hf : f ≤ n) (hk : n ≤ k) (hk2 : k ≤ 9223372036854775807) :
    ∃ (X' : Option Addr) (k' : Nat), (∀ (W : World) (x : Int), x = (f : Int) → (Instr.slice 58 (.slice X n k) (some (.int .i64 x)) none none).run Try.prog W = .ok (.slice X' (n - f) k') W) ∧ Nr w (.slice X' (n - f) k') (L.drop f) := by
  obtain ⟨X0, k0, hv, hl, hc⟩ := h
  injection hv with e1 e2 e3
  subst e1 e3
  have hdl : (L.drop f).length = n - f := by simp; omega
  by_cases c : f = 0
  · subst c
    refine ⟨X, k, fun W x hx => ?_, X, k, by rw [hdl], by omega, fun h0 => by simpa using hc (by simpa using h0)⟩
    subst hx
    rw [run_slice_l W 58 _ n k und58 .i64 ((0 : Nat) : Int) (by omega) (by omega), size58]
    cases X with
    | none => simp [Result.andThen, sliced]
    | some A => simp [Result.andThen, sliced, Addr.add]
  · obtain ⟨g, o, rfl, hg, hcell⟩ := hc (by omega)
    refine ⟨some (if k = f then ⟨g, o, none⟩ else ⟨g, o + f, none⟩), k - f, fun W x hx => ?_, _, k - f, by rw [hdl], by omega, fun h0 => ?_⟩
    · subst hx
      rw [run_slice_l W 58 _ n k und58 .i64 f (by omega) (by omega), size58]
      simp [Result.andThen, sliced, Addr.add, c]
      split <;> rfl
    · rw [hdl] at h0
      rw [if_neg (by omega)]
      refine ⟨g, o + f, rfl, hg, fun j y hy => ?_⟩
      rw [List.getElem?_drop] at hy
      rw [Nat.add_assoc]
      exact hcell _ y hy
/-- the first f -/
theorem nr_cut_h {w : World} {X : Option Addr} {n k f : Nat} {L : List Int} (h : Nr w (.slice X n k) L) (hn : L.length = n) (hf : f ≤ n) (hk : n ≤ k) (hk2 : k ≤ 9223372036854775807) :
    (∀ (W : World) (x : Int), x = (f : Int) → (Instr.slice 58 (.slice X n k) none (some (.int .i64 x)) none).run Try.prog W = .ok (.slice X f k) W) ∧ Nr w (.slice X f k) (L.take f) := by
  obtain ⟨X0, k0, hv, hl, hc⟩ := h
  injection hv with e1 e2 e3
  subst e1 e3
  have hdl : (L.take f).length = f := by simp; omega
  refine ⟨fun W x hx => ?_, X, k, by rw [hdl], by omega, fun h0 => ?_⟩
  · subst hx
    rw [run_slice_h W 58 _ _ k und58 .i64 f (by omega) (by omega), size58]
    cases X <;> simp [Result.andThen, sliced, Addr.add]
  · rw [hdl] at h0
    obtain ⟨g, o, rfl, hg, hcell⟩ := hc (by omega)
    refine ⟨g, o, rfl, hg, fun j y hy => hcell j y ?_⟩
    rw [List.getElem?_take] at hy
    split at hy
    · exact hy
    · cases hy

theorem data_to {w w1 : World} {s : Nat} {v : Value} {t : St} (h : At w s v t w1) (n : Nat) (hn : t.D.length = n) :
    Calls Try.prog 31 #[.pointer (some ⟨s, 0, none⟩)] w1 fun e w' => ∃ (X : Option Addr) (k : Nat), e = .returned (.slice X n k) ∧ Nr w' (.slice X n k) t.D ∧ Below w1.heap.size w1 w' := by
  refine (data_at h).mono ?_
  rintro e w2 ⟨u, rfl, ho, hb⟩
  have := Nr.of_own ho
  obtain ⟨X, k, rfl, _⟩ := K.own_form ho
  rw [hn] at this ⊢
  exact ⟨X, k, rfl, this, hb⟩
theorem senders_to {w w1 : World} {s : Nat} {v : Value} {t : St} (h : At w s v t w1) (n : Nat) (hn : t.S.length = n) :
    Calls Try.prog 32 #[.pointer (some ⟨s, 0, none⟩)] w1 fun e w' => ∃ (X : Option Addr) (k : Nat), e = .returned (.slice X n k) ∧ Nr w' (.slice X n k) (t.S.map Prod.fst) ∧ Below w1.heap.size w1 w' := by
  refine (senders_at h).mono ?_
  rintro e w2 ⟨u, rfl, ho, hb⟩
  have := Nr.of_own ho
  obtain ⟨X, k, rfl, _⟩ := K.own_form ho
  rw [List.length_map, hn] at this ⊢
  exact ⟨X, k, rfl, this, hb⟩
theorem receivers_to {w w1 : World} {s : Nat} {v : Value} {t : St} (h : At w s v t w1) (n : Nat) (hn : t.R.length = n) :
    Calls Try.prog 33 #[.pointer (some ⟨s, 0, none⟩)] w1 fun e w' => ∃ (X : Option Addr) (k : Nat), e = .returned (.slice X n k) ∧ Nr w' (.slice X n k) (t.R.map Prod.fst) ∧ Below w1.heap.size w1 w' := by
  refine (receivers_at h).mono ?_
  rintro e w2 ⟨u, rfl, ho, hb⟩
  have := Nr.of_own ho
  obtain ⟨X, k, rfl, _⟩ := K.own_form ho
  rw [List.length_map, hn] at this ⊢
  exact ⟨X, k, rfl, this, hb⟩
theorem same_true (va vb : Value) (L M : List Int) (w : World) (ha : Nr w va L) (hb : Nr w vb M) (e : L = M) :
    Calls Try.prog 30 #[va, vb] w fun e w' => e = .returned (.bool true) ∧ Below w.heap.size w w' := same_any va vb L M true w ha hb (decide_eq_true e)
/-- a number out of a row -/
theorem Nr.at_ {w : World} {X : Option Addr} {n k : Nat} {L : List Int} (h : Nr w (.slice X n k) L) {j : Nat} {x : Int} (hx : L[j]? = some x) : ∃ g o : Nat, X = some ⟨g, o, none⟩ ∧ g < w.heap.size ∧ w.cell? ⟨g, o + j, none⟩ = some (.int .i64 x) := by
  obtain ⟨X0, k0, hv, hl, hc⟩ := h
  injection hv with e1 e2 e3
  subst e1
  obtain ⟨g, o, h1, h2, h3⟩ := hc (by have := (List.getElem?_eq_some_iff.1 hx).1; omega)
  exact ⟨g, o, h1, h2, h3 j x hx⟩

/-- what is left of a row by a queue with room for m, forced -/
def lst (m : Nat) (L : List Int) : List Int := L.drop (L.length - m)
theorem lst_len (m : Nat) (L : List Int) : (lst m L).length = min L.length m := by unfold lst; simp; omega
theorem lst_nil (m : Nat) : lst m [] = [] := by simp [lst]
theorem force_lst {b : Bool} {m : Nat} {W : Nat → Int} (L : List Int) (x : Int) (hm : m ≠ 0) : force ⟨b, m, [], [], W, lst m L⟩ x = (⟨b, m, [], [], W, lst m (L ++ [x])⟩, 0, 0) := by
  unfold force
  rw [if_neg hm]
  by_cases c : L.length < m
  · rw [trySend_room rfl (by show (lst m L).length < m; rw [lst_len]; omega)]
    have e : lst m L ++ [x] = lst m (L ++ [x]) := by
      unfold lst
      rw [List.length_append, List.length_singleton, show L.length - m = 0 by omega, show L.length + 1 - m = 0 by omega]
      rfl
    simp only [e]
  · rw [trySend_no rfl (by show ¬ (lst m L).length < m; rw [lst_len]; omega)]
    have e : (lst m L).tail ++ [x] = lst m (L ++ [x]) := by
      unfold lst
      rw [List.tail_drop, List.length_append, List.length_singleton, show L.length + 1 - m = L.length - m + 1 by omega, List.drop_append_of_le_length (by omega)]
    simp only [e]
theorem force_zero {t : St} (x : Int) (hm : t.m = 0) : force t x = (t, 0, -28) := by unfold force; rw [if_pos hm]
theorem take_next {L : List Int} {j : Nat} {x : Int} (h : L[j]? = some x) : L.take (j + 1) = L.take j ++ [x] := by rw [List.take_add_one, h]; rfl
end Go.Proofs.Ytnbepahanhcmeaa
