/- Numbers that came in; timers filled with them; how many are due. -/
import Derived.Test.YtpnhpgdidineaaaConL
namespace Go.Proofs.Ytpnhpgdidineaaa
open Go.RowKit

/-- numbers that came in: q 0, q 1, .. -/
def Inp (k : IntKind) (w : World) (A : Option Addr) (n : Nat) (q : Nat → Int) : Prop :=
  0 < n → ∃ b o : Nat, A = some ⟨b, o, none⟩ ∧ b < w.heap.size ∧ ∀ j, j < n → w.cell? ⟨b, o + j, none⟩ = some (.int k (q j)) ∧ (Lit.int k (q j)).wf = true
theorem inp_of {k : IntKind} {w : World} {a : Option Addr} {len cap : Nat} {zs : List Int}
    (h : (a = none ∧ len = 0 ∧ cap = 0 ∧ zs = []) ∨ ∃ x, a = some x ∧ len ≤ cap ∧ cap ≤ maxLen ∧ zs.length = cap ∧ (∀ i, i < zs.length → w.cell? (x.add i) = some (.int k (zs.getD i 0))) ∧ ∀ n ∈ zs, (Lit.int k n).wf = true) :
    len ≤ 9223372036854775807 ∧ ∃ q, Inp k w a len q := by
  rcases h with ⟨_, rfl, _⟩ | ⟨x, rfl, hlc, hm, hz, hc, hwf⟩
  · exact ⟨by omega, fun _ => 0, fun h => absurd h (by omega)⟩
  · refine ⟨by unfold maxLen at hm; omega, fun j => zs.getD j 0, fun h0 => ?_⟩
    obtain ⟨b, o, s⟩ := x
    have hc0 := hc 0 (by omega)
    have hs : s = none := by
      cases s with
      | none => rfl
      | some q => simp [Addr.add, World.cell?] at hc0; split at hc0 <;> simp at hc0
    subst hs
    have hb : b < w.heap.size := by have := block_lt_of_cell hc0; simpa [Addr.add] using this
    refine ⟨b, o, rfl, hb, fun j hj => ?_⟩
    have hj' : j < zs.length := by omega
    have := hc j hj'
    rw [addr_add] at this
    exact ⟨this, hwf (zs.getD j 0) (by rw [List.getD_eq_getElem?_getD, List.getElem?_eq_getElem hj']; exact List.getElem_mem _)⟩

/-- timers filled one by one: the time q i, the arg i -/
def fil (q : Nat → Int) : Nat → List En
  | 0 => []
  | n + 1 => ins (q n, (n : Int) + 1, (n : Int)) (fil q n)
theorem fil_len (q : Nat → Int) : ∀ n, (fil q n).length = n
  | 0 => rfl
  | n + 1 => by unfold fil; rw [ins_len, fil_len q n]
theorem fil_mem (q : Nat → Int) : ∀ (n : Nat) (x : En), x ∈ fil q n ↔ ∃ i : Nat, i < n ∧ x = (q i, (i : Int) + 1, (i : Int))
  | 0, x => by
    constructor
    · intro h; simp [fil] at h
    · rintro ⟨i, hi, _⟩; omega
  | n + 1, x => by
    unfold fil
    rw [ins_mem, fil_mem q n x]
    constructor
    · rintro (h | ⟨i, hi, h⟩)
      · exact ⟨n, by omega, h⟩
      · exact ⟨i, by omega, h⟩
    · rintro ⟨i, hi, h⟩
      by_cases c : i = n
      · subst c; exact .inl h
      · exact .inr ⟨i, by omega, h⟩

/-- how many have a time -/
def cnt (S : List En) (m : Int) : Nat := S.countP fun x => decide (x.1 = m)
theorem cnt_ins (S : List En) (m : Int) (x : En) : cnt (ins x S) m = cnt S m + if x.1 = m then 1 else 0 := by
  unfold cnt
  rw [(ins_perm x S).countP_eq, List.countP_cons]
  by_cases c : x.1 = m
  · simp [c]
  · simp [c]
theorem cnt_zero {S : List En} {m : Int} (h : ∀ x, x ∈ S → x.1 ≠ m) : cnt S m = 0 := by
  unfold cnt; rw [List.countP_eq_zero]; intro x hx; simpa using h x hx
theorem due_cnt {S : List En} {m : Int} (hs : S.Pairwise lt) (h : ∀ x, x ∈ S → m ≤ x.1) : (due S m).length = cnt S m := by
  induction S with
  | nil => rfl
  | cons s S ih =>
    rw [List.pairwise_cons] at hs
    have ih2 := ih hs.2 fun x hx => h x (List.mem_cons_of_mem _ hx)
    have h0 := h s List.mem_cons_self
    by_cases c : s.1 ≤ m
    · rw [(due_cons c).1, List.length_cons, ih2]
      unfold cnt
      rw [List.countP_cons_of_pos (by simp; omega)]
    · rw [(due_stop c).1, List.length_nil]
      refine (cnt_zero fun x hx => ?_).symm
      rcases List.mem_cons.1 hx with rfl | hx
      · omega
      · have := lt_time (hs.1 x hx); omega
theorem cnt_le (S : List En) (m : Int) : cnt S m ≤ S.length := by unfold cnt; exact List.countP_le_length

/-- the least time of a row -/
theorem head_time {S : List En} {m : Int} (hs : S.Pairwise lt) (h : ∀ x, x ∈ S → m ≤ x.1) (he : ∃ x, x ∈ S ∧ x.1 = m) : ∃ s S2, S = s :: S2 ∧ s.1 = m := by
  cases S with
  | nil => obtain ⟨x, hx, _⟩ := he; simp at hx
  | cons s S2 =>
    refine ⟨s, S2, rfl, ?_⟩
    obtain ⟨x, hx, e⟩ := he
    have h0 := h s List.mem_cons_self
    rcases List.mem_cons.1 hx with rfl | hx
    · exact e
    · have := lt_time ((List.pairwise_cons.1 hs).1 x hx); omega
theorem next_at (w : World) (B p g : Nat) (S : List En) (last : Int) (h : Tm w B p g S last) (r : Int) (hS : ∃ s S2, S = s :: S2 ∧ s.1 = r) :
    Calls Try.prog 40 #[.pointer (some ⟨p, 0, none⟩)] w fun e w' => e = .returned (.tuple #[.int .u64 r, .bool true]) ∧ w = w' := by
  obtain ⟨s, S2, rfl, rfl⟩ := hS
  exact next_some w B p g s S2 last h
end Go.Proofs.Ytpnhpgdidineaaa
