/- Tasks that wait one behind the other; what comes out in which order. No Go here. -/
import Derived.Test.YtneimdjgbblaoaaBfO
namespace Go.Proofs.Ytneimdjgbblaoaa
open Go.RowKit
set_option maxRecDepth 100000

/-- n tasks from j + 1 on -/
def rowI (j n : Nat) : List It := (List.range' j n).map fun (k : Nat) => ((k : Int) + 1, 1)
theorem rowI_end (j n : Nat) : rowI j (n + 1) = rowI j n ++ [(((j + n : Nat) : Int) + 1, 1)] := by unfold rowI; rw [List.range'_1_concat]; simp
theorem rowI_cons (j n : Nat) : rowI j (n + 1) = ((j : Int) + 1, 1) :: rowI (j + 1) n := by unfold rowI; rw [List.range'_succ]; simp
theorem rowI_mem {j n : Nat} {y : It} (h : y ∈ rowI j n) : (j : Int) + 1 ≤ y.1 ∧ y.1 ≤ (j : Int) + n := by
  unfold rowI at h
  obtain ⟨k, hk, rfl⟩ := List.mem_map.1 h
  have := List.mem_range'_1.1 hk
  simp only
  omega
theorem rowI_len (j n : Nat) : (rowI j n).length = n := by simp [rowI]

theorem add_end {L : List It} {id : Int} (h1 : 1 ≤ id ∧ id ≤ 16) (h : ∀ y, y ∈ L → y.1 ≠ id) : addL false L id 1 = L ++ [(id, 1)] ∧ addC L id 1 = 0 := by
  have hp : ¬ pos L id < L.length := fun c => by obtain ⟨z, hz, he⟩ := pos_lt.1 c; exact h z hz he
  constructor
  · unfold addL; rw [if_pos ⟨h1, by omega, hp⟩]; unfold ins plc; simp
  · unfold addC; rw [if_pos ⟨h1, by omega⟩, if_neg hp]
theorem no_room {U n : Nat} : ¬ R.fits 0 U (n : Int) = true := fits_no (by have := R.occ_lo n; omega)

/-- senders j + 1 to j + n wait with their messages x j, ..; there is no room at all -/
structure Hs (x : Nat → List Int) (j n : Nat) (t : St) : Prop where
  b : t.b = false
  m : t.m = 100
  N : t.N = 0
  g : t.G = []
  r : t.R = []
  s : t.S = rowI j n
  w : ∀ k, j ≤ k → k < j + n → t.W (k + 1) = x k
theorem Hs.send {x : Nat → List Int} {n : Nat} {t : St} (h : Hs x 0 n t) (hn : n < 16) (hx : 1 ≤ (x n).length ∧ (x n).length ≤ 100) (id : Int) (hid : id = (n : Int) + 1) : ∃ t', send t id 1 (x n) = (t', false, 0, 0) ∧ Hs x 0 (n + 1) t' := by
  have hb : ¬ ((x n).length = 0 ∨ t.m < (x n).length) := by rw [h.m]; omega
  have e := send_wait (t := t) (id := id) (pri := 1) hb h.r (fun e => by rw [h.N] at e; exact no_room e.2)
  obtain ⟨a1, a2⟩ := add_end (L := t.S) (id := id) (by omega) (fun y hy => by rw [h.s] at hy; have := rowI_mem hy; omega)
  have eW : waitS t id 1 (x n) = ({ t with S := t.S ++ [(id, 1)], W := setW t.W id.toNat (x n) }, 0) := by unfold waitS; rw [h.b, a1, a2, if_pos rfl]
  rw [eW] at e
  refine ⟨_, e, h.b, h.m, h.N, h.g, h.r, ?_, fun k h1 h2 => ?_⟩
  · show t.S ++ [(id, 1)] = _
    rw [rowI_end, h.s, hid]; simp
  · show setW t.W id.toNat (x n) (k + 1) = x k
    have hid2 : id.toNat = n + 1 := by omega
    unfold setW
    rw [hid2]
    by_cases c : k = n
    · subst c; rw [if_pos rfl]
    · rw [if_neg (by omega)]; exact h.w k h1 (by omega)
theorem Hs.recv {x : Nat → List Int} {j n : Nat} {t : St} (h : Hs x j (n + 1) t) (id : Int) : ∃ t', recv t id 1 = (t', some (x j), [(j : Int) + 1], 0) ∧ Hs x (j + 1) n t' := by
  have hs := h.s
  rw [rowI_cons] at hs
  refine ⟨{ t with S := rowI (j + 1) n }, ?_, h.b, h.m, h.N, h.g, h.r, rfl, fun k h1 h2 => h.w k (by omega) (by omega)⟩
  have e : tryRecv t = ({ t with S := rowI (j + 1) n }, some (t.W ((j : Int) + 1).toNat), [(j : Int) + 1]) := by unfold tryRecv; rw [h.g]; simp only [hs]
  unfold Ytneimdjgbblaoaa.recv
  rw [e]
  simp only
  rw [show ((j : Int) + 1).toNat = j + 1 by omega, h.w j (Nat.le_refl _) (by omega)]
/-- receivers j + 1 to j + n wait -/
structure Hr (j n : Nat) (t : St) : Prop where
  m : t.m = 100
  g : t.G = []
  s : t.S = []
  r : t.R = rowI j n
theorem Hr.recv {n : Nat} {t : St} (h : Hr 0 n t) (hn : n < 16) (id : Int) (hid : id = (n : Int) + 1) : ∃ t', recv t id 1 = (t', none, [], 0) ∧ Hr 0 (n + 1) t' := by
  obtain ⟨a1, a2⟩ := add_end (L := t.R) (id := id) (by omega) (fun y hy => by rw [h.r] at hy; have := rowI_mem hy; omega)
  have e : tryRecv t = (t, none, []) := by unfold tryRecv; rw [h.g]; simp only [h.s]
  refine ⟨{ t with R := t.R ++ [(id, 1)] }, ?_, h.m, h.g, h.s, ?_⟩
  · unfold Ytneimdjgbblaoaa.recv; rw [e]; unfold waitR; simp only [a1, a2]
  · show t.R ++ [(id, 1)] = _
    rw [rowI_end, h.r, hid]; simp
theorem Hr.send {j n : Nat} {t : St} (h : Hr j (n + 1) t) {x : List Int} (hx : 1 ≤ x.length ∧ x.length ≤ 100) (id : Int) : ∃ t', send t id 1 x = (t', true, (j : Int) + 1, 0) ∧ Hr (j + 1) n t' := by
  have hb : ¬ (x.length = 0 ∨ t.m < x.length) := by rw [h.m]; omega
  exact ⟨{ t with R := rowI (j + 1) n }, send_hand hb (h.r.trans (rowI_cons j n)), h.m, h.g, h.s, rfl⟩

/-- what will come out, in order -/
def pipe (t : St) : List (List Int) := t.G ++ t.S.map fun y => t.W y.1.toNat
theorem fillL_pipe (N : Nat) (W : Nat → List Int) : ∀ (S : List It) (G : List (List Int)), (fillL N W S G).2.1 ++ (fillL N W S G).1.map (fun y => W y.1.toNat) = G ++ S.map (fun y => W y.1.toNat)
  | [], G => by rw [fillL_nil]
  | y :: S, G => by
    by_cases c : R.fits N (R.tot G) ((W y.1.toNat).length : Int) = true
    · rw [fillL_yes c]; simp only; rw [fillL_pipe N W S]; simp
    · rw [fillL_no c]
theorem pipe_fill (t : St) : pipe (fill t).1 = pipe t := fillL_pipe t.N t.W t.S t.G

structure Od (i : Nat) (L : List (List Int)) (t : St) : Prop where
  b : t.b = false
  m : t.m = 100
  r : t.R = []
  s : ∀ y, y ∈ t.S → 1 ≤ y.1 ∧ y.1 ≤ (i : Int)
  p : pipe t = L
theorem Od.send {i : Nat} {L : List (List Int)} {t : St} {x : List Int} (h : Od i L t) (hi : i < 16) (hx : 1 ≤ x.length ∧ x.length ≤ 100) (id : Int) (hid : id = (i : Int) + 1) : ∃ t' k, send t id 1 x = (t', k, 0, 0) ∧ Od (i + 1) (L ++ [x]) t' ∧ t'.N = t.N := by
  have hb : ¬ (x.length = 0 ∨ t.m < x.length) := by rw [h.m]; omega
  by_cases c : t.S = [] ∧ R.fits t.N (R.tot t.G) (x.length : Int) = true
  · refine ⟨_, true, send_room hb h.r c.1 c.2, ⟨h.b, h.m, h.r, fun y hy => ?_, ?_⟩, rfl⟩
    · have := h.s y hy; omega
    · have hp := h.p
      unfold pipe at hp ⊢
      rw [c.1] at hp
      simp only [c.1, List.map_nil, List.append_nil] at hp ⊢
      rw [hp]
  · have e := send_wait (t := t) (id := id) (pri := 1) hb h.r c
    obtain ⟨a1, a2⟩ := add_end (L := t.S) (id := id) (by omega) (fun y hy => by have := h.s y hy; omega)
    have eW : waitS t id 1 x = ({ t with S := t.S ++ [(id, 1)], W := setW t.W id.toNat x }, 0) := by unfold waitS; rw [h.b, a1, a2, if_pos rfl]
    rw [eW] at e
    refine ⟨_, false, e, ⟨h.b, h.m, h.r, fun y hy => ?_, ?_⟩, rfl⟩
    · rcases List.mem_append.1 hy with hy | hy
      · have := h.s y hy; omega
      · simp at hy; subst hy; simp only; omega
    · rw [← h.p]
      unfold pipe
      simp only [List.map_append, List.map_cons, List.map_nil]
      have e1 : setW t.W id.toNat x id.toNat = x := by unfold setW; rw [if_pos rfl]
      have e2 : t.S.map (fun y => setW t.W id.toNat x y.1.toNat) = t.S.map fun y => t.W y.1.toNat := List.map_congr_left fun y hy => by
        have := h.s y hy
        unfold setW; rw [if_neg (by omega)]
      rw [e1, e2, List.append_assoc]
theorem Od.recv {i : Nat} {x : List Int} {L : List (List Int)} {t : St} (h : Od i (x :: L) t) : ∃ t' outs, tryRecv t = (t', some x, outs) ∧ Od i L t' ∧ t'.N = t.N := by
  have hp := h.p
  unfold pipe at hp
  cases hG : t.G with
  | cons y G =>
    rw [hG] at hp
    injection hp with hp1 hp2
    subst hp1
    have hsub := fillL_sub t.N t.W t.S G
    refine ⟨(fill { t with G := G }).1, (fill { t with G := G }).2, by unfold tryRecv; rw [hG], ⟨h.b, h.m, h.r, fun z hz => h.s z (hsub.subset hz), ?_⟩, rfl⟩
    rw [pipe_fill]; exact hp2
  | nil =>
    rw [hG, List.nil_append] at hp
    cases hS : t.S with
    | nil => rw [hS] at hp; cases hp
    | cons y S =>
      rw [hS, List.map_cons] at hp
      injection hp with hp1 hp2
      refine ⟨{ t with S := S }, [y.1], by unfold tryRecv; rw [hG]; simp only [hS]; rw [hp1], ⟨h.b, h.m, h.r, fun z hz => h.s z (by rw [hS]; exact List.mem_cons_of_mem _ hz), ?_⟩, rfl⟩
      unfold pipe; simp only [hG, List.nil_append]; exact hp2
theorem Od.none {i : Nat} {t : St} (h : Od i [] t) : tryRecv t = (t, none, []) ∧ t.S = [] ∧ t.G = [] := by
  have hp := h.p
  unfold pipe at hp
  obtain ⟨h1, h2⟩ := List.append_eq_nil_iff.1 hp
  have hS := List.map_eq_nil_iff.1 h2
  refine ⟨?_, hS, h1⟩
  unfold tryRecv; rw [h1]; simp only [hS]
end Go.Proofs.Ytneimdjgbblaoaa
