/- Who comes one by one: rows of tasks 1, 2, ..; what each call does then. No Go here. -/
import Derived.Test.YtnbepahanhcmeaaDqS
namespace Go.Proofs.Ytnbepahanhcmeaa

theorem send_wait {t : St} {id pri x : Int} {S' : List It} (h : t.R = []) (h2 : ¬ t.D.length < t.m) (hc : addC t.S id pri = 0) (hl : addL t.b t.S id pri = S') :
    send t id pri x = ({ t with S := S', W := setW t.W id.toNat x }, false, 0, 0) := by
  unfold send; rw [trySend_no h h2]; simp only [waitS, hc, hl, if_pos]
theorem send_hand {t : St} {id pri x : Int} {r : It} {R : List It} (h : t.R = r :: R) : send t id pri x = ({ t with R := R }, true, r.1, 0) := by
  unfold send; rw [trySend_yes h]
theorem send_room {t : St} {id pri x : Int} (h : t.R = []) (h2 : t.D.length < t.m) : send t id pri x = ({ t with D := t.D ++ [x] }, true, 0, 0) := by
  unfold send; rw [trySend_room h h2]
theorem recv_wait {t : St} {id pri : Int} {R' : List It} (h : t.S = []) (h2 : t.D = []) (hc : addC t.R id pri = 0) (hl : addL false t.R id pri = R') :
    recv t id pri = ({ t with R := R' }, 0, false, 0, 0) := by
  obtain ⟨b, m, S, R, W, D⟩ := t
  simp only at h h2
  subst h h2
  simp only [recv, tryRecv, waitR, hc, hl]
theorem tryRecv_hand {t : St} {y : It} {S : List It} (h : t.S = y :: S) (h2 : t.D = []) : tryRecv t = ({ t with S := S }, t.W y.1.toNat, true, y.1) := by
  unfold tryRecv; rw [h, h2]
theorem tryRecv_both {t : St} {y : It} {S : List It} {d : Int} {D : List Int} (h : t.S = y :: S) (h2 : t.D = d :: D) : tryRecv t = ({ t with S := S, D := D ++ [t.W y.1.toNat] }, d, true, y.1) := by
  unfold tryRecv; rw [h, h2]
theorem tryRecv_data {t : St} {d : Int} {D : List Int} (h : t.S = []) (h2 : t.D = d :: D) : tryRecv t = ({ t with D := D }, d, true, 0) := by
  obtain ⟨b, m, S, R, W, D'⟩ := t
  simp only at h h2
  subst h h2
  rfl
theorem tryRecv_none {t : St} (h : t.S = []) (h2 : t.D = []) : tryRecv t = (t, 0, false, 0) := by
  obtain ⟨b, m, S, R, W, D'⟩ := t
  simp only at h h2
  subst h h2
  rfl
theorem recv_hand {t : St} {id pri : Int} {y : It} {S : List It} (h : t.S = y :: S) (h2 : t.D = []) : recv t id pri = ({ t with S := S }, t.W y.1.toNat, true, y.1, 0) := by
  unfold recv; rw [tryRecv_hand h h2]

/-- tasks 1 to t, as they came -/
def row (t : Nat) : List It := (List.range t).map fun i : Nat => ((i : Int) + 1, 1)
theorem row_len (t : Nat) : (row t).length = t := by simp [row]
theorem row_zero : row 0 = [] := rfl
theorem row_succ (t : Nat) : row (t + 1) = row t ++ [((t : Int) + 1, 1)] := by simp [row, List.range_succ]
theorem row_mem {t : Nat} {y : It} (h : y ∈ row t) : ∃ i : Nat, i < t ∧ y = ((i : Int) + 1, 1) := by
  unfold row at h
  obtain ⟨i, hi, rfl⟩ := List.mem_map.1 h
  exact ⟨i, List.mem_range.1 hi, rfl⟩
theorem row_get {t i : Nat} (h : i < t) : (row t)[i]? = some ((i : Int) + 1, 1) := by unfold row; rw [List.getElem?_map, List.getElem?_range h]; rfl
theorem row_drop {n i : Nat} (h : i < n) : (row n).drop i = ((i : Int) + 1, 1) :: (row n).drop (i + 1) := by
  have h1 := row_get h
  obtain ⟨h2, h3⟩ := List.getElem?_eq_some_iff.1 h1
  rw [List.drop_eq_getElem_cons h2, h3]
/-- one that is not there comes, behind all -/
theorem put_new {L : List It} {id pri : Int} (h : ∀ y, y ∈ L → y.1 ≠ id) (h1 : 1 ≤ id ∧ id ≤ 16) (h2 : 1 ≤ pri ∧ pri ≤ 16) : addC L id pri = 0 ∧ addL false L id pri = L ++ [(id, pri)] := by
  have hp : ¬ pos L id < L.length := fun hp => by
    obtain ⟨y, hy, e⟩ := pos_lt.1 hp
    exact h y hy e
  unfold addC addL
  rw [if_pos ⟨h1, h2⟩, if_neg hp, if_pos ⟨h1, h2, hp⟩]
  refine ⟨rfl, ?_⟩
  unfold ins plc
  simp
theorem row_put {t : Nat} (h : t < 16) : addC (row t) ((t : Int) + 1) 1 = 0 ∧ addL false (row t) ((t : Int) + 1) 1 = row (t + 1) := by
  rw [row_succ]
  refine put_new (fun y hy => ?_) (by omega) (by omega)
  obtain ⟨i, hi, rfl⟩ := row_mem hy
  simp only; omega
end Go.Proofs.Ytnbepahanhcmeaa
