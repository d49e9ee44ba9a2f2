/- Rows of bytes that came in; queues filled one by one. -/
import Derived.Test.YtmicinenggkmlaaConK
import Derived.ProofKit
import Derived.OpenShut
namespace Go.Proofs.Ytmicinenggkmlaa
open Go.RowKit Go.ChangeShapes Go.WideShapes Go.ChangeAt
set_option maxRecDepth 100000

/-- bytes that are read: q 0, q 1, .. -/
def Src (w : World) (A : Option Addr) (n : Nat) (q : Nat → Nat) : Prop :=
  0 < n → ∃ b o : Nat, A = some ⟨b, o, none⟩ ∧ b < w.heap.size ∧ ∀ j, j < n → w.cell? ⟨b, o + j, none⟩ = some (.int .u8 (q j : Int)) ∧ q j ≤ 255

theorem Src.below {w w' : World} {A : Option Addr} {n : Nat} {q : Nat → Nat} (h : Src w A n q) (k : Below w.heap.size w w') : Src w' A n q := by
  intro h0
  obtain ⟨b, o, h1, h2, h3⟩ := h h0
  exact ⟨b, o, h1, Nat.lt_of_lt_of_le h2 k.size, fun j hj => by rw [k.cell (p := ⟨b, o + j, none⟩) h2]; exact h3 j hj⟩

theorem src_of {w : World} {a : Option Addr} {len cap : Nat} {zs : List Int} (h : (a = none ∧ len = 0 ∧ cap = 0 ∧ zs = []) ∨
  ∃ x, a = some x ∧ len ≤ cap ∧ cap ≤ maxLen ∧ zs.length = cap ∧ (∀ i, i < zs.length → w.cell? (x.add i) = some (.int .u8 (zs.getD i 0))) ∧ ∀ n ∈ zs, (Lit.int .u8 n).wf = true) :
    len ≤ 9223372036854775807 ∧ ∃ q, Src w a len q := by
  rcases h with ⟨_, rfl, _⟩ | ⟨x, rfl, hlc, hm, hz, hc, hwf⟩
  · exact ⟨by omega, fun _ => 0, fun h => absurd h (by omega)⟩
  · refine ⟨by unfold maxLen at hm; omega, fun j => (zs.getD j 0).toNat, fun h0 => ?_⟩
    obtain ⟨b, o, s⟩ := x
    have hc0 := hc 0 (by omega)
    have hs : s = none := by
      cases s with
      | none => rfl
      | some q => simp [Addr.add, World.cell?] at hc0; split at hc0 <;> simp at hc0
    subst hs
    have hb : b < w.heap.size := by have := block_lt_of_cell hc0; simpa [Addr.add] using this
    refine ⟨b, o, rfl, hb, fun j hj => ?_⟩
    have hj' : j < zs.length := by omega
    have := hc j hj'
    rw [addr_add] at this
    have hw := hwf (zs.getD j 0) (by rw [List.getD_eq_getElem?_getD, List.getElem?_eq_getElem hj']; exact List.getElem_mem _)
    have hb8 : 0 ≤ zs.getD j 0 ∧ zs.getD j 0 ≤ 255 := by have := bounds_u8 hw; omega
    refine ⟨?_, by simp only []; omega⟩
    rw [this]
    congr 2
    show _ = (((zs.getD j 0).toNat : Nat) : Int)
    omega

/-- who came one by one: 1, 2, .. t; the priority of j + 1: f j -/
def fil (b : Bool) (f : Nat → Int) : Nat → List It
  | 0 => []
  | t + 1 => ins (fil b f t) (plc b (fil b f t) (f t)) (((t + 1 : Nat) : Int), f t)

theorem fil_len (b : Bool) (f : Nat → Int) : ∀ t, (fil b f t).length = t
  | 0 => rfl
  | t + 1 => by rw [fil, ins_len (plc_le _ _ _), fil_len b f t]
theorem fil_mem {b : Bool} {f : Nat → Int} : ∀ {t : Nat} {x : It}, x ∈ fil b f t → ∃ j : Nat, j < t ∧ x = (((j + 1 : Nat) : Int), f j)
  | 0, x, h => by simp [fil] at h
  | t + 1, x, h => by
    rw [fil, mem_ins] at h
    rcases h with rfl | h
    · exact ⟨t, by omega, rfl⟩
    · obtain ⟨j, hj, e⟩ := fil_mem h
      exact ⟨j, by omega, e⟩
theorem fil_in {b : Bool} {f : Nat → Int} : ∀ {t j : Nat}, j < t → (((j + 1 : Nat) : Int), f j) ∈ fil b f t
  | 0, j, h => by omega
  | t + 1, j, h => by
    rw [fil, mem_ins]
    by_cases e : j = t
    · subst e; exact .inl rfl
    · exact .inr (fil_in (by omega))
theorem fil_new {b : Bool} {f : Nat → Int} {t : Nat} : ∀ y, y ∈ fil b f t → y.1 ≠ ((t + 1 : Nat) : Int) := by
  intro y hy e
  obtain ⟨j, hj, rfl⟩ := fil_mem hy
  simp only at e; omega
theorem fil_good {b : Bool} {f : Nat → Int} (hf : ∀ j, 1 ≤ f j ∧ f j ≤ 16) : ∀ {t : Nat}, t ≤ 16 → Good b (fil b f t)
  | 0, _ => good_nil b
  | t + 1, h => by
    have := (fil_good (b := b) hf (t := t) (by omega)).ins (id := ((t + 1 : Nat) : Int)) (pri := f t) (by omega) (hf t) fil_new
    exact this
theorem not_pos_lt {L : List It} {id : Int} (h : ∀ y, y ∈ L → y.1 ≠ id) : ¬ pos L id < L.length := fun hp => by
  obtain ⟨x, hx, e⟩ := pos_lt.1 hp; exact h x hx e
theorem fil_addC {b : Bool} {f : Nat → Int} (hf : ∀ j, 1 ≤ f j ∧ f j ≤ 16) {t : Nat} (ht : t < 16) : addC (fil b f t) ((t + 1 : Nat) : Int) (f t) = 0 := by
  unfold addC
  rw [if_pos ⟨by omega, hf t⟩, if_neg (not_pos_lt fil_new)]
theorem fil_addL {b : Bool} {f : Nat → Int} (hf : ∀ j, 1 ≤ f j ∧ f j ≤ 16) {t : Nat} (ht : t < 16) : addL b (fil b f t) ((t + 1 : Nat) : Int) (f t) = fil b f (t + 1) := by
  unfold addL
  rw [if_pos ⟨by omega, hf t, not_pos_lt fil_new⟩]; rfl

/-- one more comes -/
theorem add_fil (p : Nat) (b : Bool) (f : Nat → Int) (hf : ∀ j, 1 ≤ f j ∧ f j ≤ 16) (t : Nat) (ht : t < 16) (w : World) (hl : Ln w p 87 b (fil b f t)) (id pri : Int) (hid : id = ((t + 1 : Nat) : Int)) (hpri : pri = f t) :
    Calls Try.prog 37 #[.pointer (some ⟨p, 0, none⟩), .int .i64 id, .int .i64 pri] w fun e w' => e = .returned (.int .i64 0) ∧ Ln w' p 87 b (fil b f (t + 1)) ∧ Only p w w' := by
  subst hid hpri
  exact add_to p b _ _ 0 w hl (fil_good hf (by omega)) _ _ (fil_addC hf ht) (fil_addL hf ht)

/-- by priority, then as they came -/
theorem fil_lex {f : Nat → Int} (hf : ∀ j, 1 ≤ f j ∧ f j ≤ 16) : ∀ {t : Nat}, t ≤ 16 → (fil true f t).Pairwise (fun x y => x.2 < y.2 ∨ (x.2 = y.2 ∧ x.1 < y.1))
  | 0, _ => by simp [fil]
  | t + 1, h => by
    have ih := fil_lex hf (t := t) (by omega)
    have hs := (fil_good (b := true) hf (t := t) (by omega)).ord rfl
    rw [fil]
    unfold ins
    have ih' := ih
    rw [← List.take_append_drop (plc true (fil true f t) (f t)) (fil true f t)] at ih'
    have ih2 := List.pairwise_append.1 ih'
    refine List.pairwise_append.2 ⟨ih2.1, List.pairwise_cons.2 ⟨fun y hy => ?_, ih2.2.1⟩, fun x hx y hy => ?_⟩
    · exact .inl (drop_mem_behind hs rfl hy)
    · rcases List.mem_cons.1 hy with rfl | hy
      · have h1 := take_mem_before rfl hx
        obtain ⟨j, hj, rfl⟩ := fil_mem (List.mem_of_mem_take hx)
        simp only at h1 ⊢
        omega
      · exact ih2.2.2 x hx y hy
end Go.Proofs.Ytmicinenggkmlaa
