/- Sets of the numbers 1 to 256 in four words of 64 bits, no Go at all. -/
import Derived.Test.YtfilggkdhcjpbaaDoorAbs
namespace Go.Proofs.YtfilggkdhcjpbaaDoor

/-- the words f hold the set B: number q is bit q - 1 -/
structure Rep (f : Nat → Nat) (B : Nat → Bool) : Prop where
  lt : ∀ j, j < 4 → f j < 18446744073709551616
  bit : ∀ i, i < 256 → (f (i / 64)).testBit (i % 64) = B (i + 1)

/-- those of B among the n numbers from s on; the least of them, or 0 -/
def rowF (B : Nat → Bool) : Nat → Nat → List Nat
  | 0, _ => []
  | n + 1, s => if B s then s :: rowF B n (s + 1) else rowF B n (s + 1)
def nx (B : Nat → Bool) : Nat → Nat → Nat
  | 0, _ => 0
  | n + 1, s => if B s then s else nx B n (s + 1)
/-- those beyond a; the least of them, or 0 -/
def row (B : Nat → Bool) (a : Nat) : List Nat := rowF B (256 - a) (a + 1)
def nxt (B : Nat → Bool) (a : Nat) : Nat := nx B (256 - a) (a + 1)
def has (B : Nat → Bool) (x : Int) : Bool := decide (1 ≤ x ∧ x ≤ 256) && B x.toNat
/-- numbers set (b) or cleared -/
def upd (B : Nat → Bool) (l : List Int) (b : Bool) : Nat → Bool := fun q => if (q : Int) ∈ l then b else B q
def none' : Nat → Bool := fun _ => false

theorem rowF_len (B : Nat → Bool) : ∀ (n s : Nat), (rowF B n s).length = cn B n s
  | 0, _ => rfl
  | n + 1, s => by
    have := rowF_len B n (s + 1)
    unfold rowF cn
    split <;> simp [this] <;> omega
theorem row_len (B : Nat → Bool) (a : Nat) : (row B a).length = cn B (256 - a) (a + 1) := rowF_len _ _ _
theorem row_le (B : Nat → Bool) (a : Nat) : (row B a).length ≤ 256 := by rw [row_len]; have := cn_le B (256 - a) (a + 1); omega
theorem rowF_mem (B : Nat → Bool) : ∀ (n s x : Nat), x ∈ rowF B n s → s ≤ x ∧ x < s + n ∧ B x = true
  | 0, _, x, h => by simp [rowF] at h
  | n + 1, s, x, h => by
    unfold rowF at h
    split at h
    · rcases List.mem_cons.1 h with rfl | h
      · exact ⟨by omega, by omega, by assumption⟩
      · have := rowF_mem B n (s + 1) x h; exact ⟨by omega, by omega, this.2.2⟩
    · have := rowF_mem B n (s + 1) x h; exact ⟨by omega, by omega, this.2.2⟩
theorem row_mem {B : Nat → Bool} {a x : Nat} (h : x ∈ row B a) : a < x ∧ x ≤ 256 := by
  have := rowF_mem B _ _ x h; omega
theorem rowF_snoc (B : Nat → Bool) : ∀ (n s : Nat), rowF B (n + 1) s = rowF B n s ++ if B (s + n) then [s + n] else []
  | 0, s => by simp [rowF]
  | n + 1, s => by
    have := rowF_snoc B n (s + 1)
    rw [show s + 1 + n = s + (n + 1) by omega] at this
    unfold rowF
    rw [this]
    split <;> simp

theorem nx_skip (B : Nat → Bool) : ∀ (m n s : Nat), (∀ i, i < m → B (s + i) = false) → nx B (m + n) s = nx B n (s + m)
  | 0, n, s, _ => by simp
  | m + 1, n, s, h => by
    have h0 : B s = false := by simpa using h 0 (by omega)
    have := nx_skip B m n (s + 1) fun i hi => by have := h (i + 1) (by omega); rwa [show s + (i + 1) = s + 1 + i by omega] at this
    rw [show m + 1 + n = (m + n) + 1 by omega]
    simp only [nx, h0]
    rw [show s + (m + 1) = s + 1 + m by omega]
    simpa using this
theorem nx_snoc (B : Nat → Bool) : ∀ (n s : Nat), 0 < s → nx B (n + 1) s = if nx B n s = 0 then (if B (s + n) then s + n else 0) else nx B n s
  | 0, s, h => by simp [nx]
  | n + 1, s, h => by
    have := nx_snoc B n (s + 1) (by omega)
    rw [show s + 1 + n = s + (n + 1) by omega] at this
    rw [nx]
    by_cases c : B s = true
    · simp [nx, c]; omega
    · simp only [nx, c] at this ⊢
      simpa using this
theorem nx_some (B : Nat → Bool) : ∀ (n s : Nat), nx B n s = 0 ∨ (s ≤ nx B n s ∧ nx B n s < s + n ∧ B (nx B n s) = true)
  | 0, _ => Or.inl rfl
  | n + 1, s => by
    by_cases c : B s = true
    · have e : nx B (n + 1) s = s := by simp [nx, c]
      rw [e]; exact Or.inr ⟨by omega, by omega, c⟩
    · have e : nx B (n + 1) s = nx B n (s + 1) := by simp [nx, c]
      rw [e]
      rcases nx_some B n (s + 1) with h | h
      · exact Or.inl h
      · exact Or.inr ⟨by omega, by omega, h.2.2⟩
theorem rowF_nx (B : Nat → Bool) : ∀ (n s : Nat), 0 < s → rowF B n s = if nx B n s = 0 then [] else nx B n s :: rowF B (s + n - (nx B n s + 1)) (nx B n s + 1)
  | 0, _, _ => by simp [rowF, nx]
  | n + 1, s, h => by
    by_cases c : B s = true
    · have e : nx B (n + 1) s = s := by simp [nx, c]
      rw [e, if_neg (by omega), show s + (n + 1) - (s + 1) = n by omega]; simp [rowF, c]
    · have e : nx B (n + 1) s = nx B n (s + 1) := by simp [nx, c]
      rw [e, show s + (n + 1) = s + 1 + n by omega, ← rowF_nx B n (s + 1) (by omega)]; simp [rowF, c]
theorem nxt_some (B : Nat → Bool) (a : Nat) : nxt B a = 0 ∨ (a < nxt B a ∧ nxt B a ≤ 256 ∧ B (nxt B a) = true) := by
  rcases nx_some B (256 - a) (a + 1) with h | h
  · exact Or.inl h
  · refine Or.inr ⟨?_, ?_, h.2.2⟩ <;> (unfold nxt; omega)
theorem nxt_le (B : Nat → Bool) (a : Nat) : nxt B a ≤ 256 := by rcases nxt_some B a with h | h <;> omega
theorem nxt_end (B : Nat → Bool) (a : Nat) (h : 256 ≤ a) : nxt B a = 0 := by unfold nxt; rw [show 256 - a = 0 by omega]; rfl
theorem row_nil (B : Nat → Bool) (a : Nat) (h : nxt B a = 0) : row B a = [] := by
  have := rowF_nx B (256 - a) (a + 1) (by omega)
  unfold nxt at h; unfold row; rw [this, if_pos h]
theorem row_cons (B : Nat → Bool) (a : Nat) (h : nxt B a ≠ 0) : row B a = nxt B a :: row B (nxt B a) := by
  have e := rowF_nx B (256 - a) (a + 1) (by omega)
  have := nxt_some B a
  unfold nxt at h this ⊢; unfold row
  rw [e, if_neg h]
  congr 2
  omega

theorem rep_len {f : Nat → Nat} {B : Nat → Bool} (h : Rep f B) : pop 64 (f 0) + pop 64 (f 1) + pop 64 (f 2) + pop 64 (f 3) = (row B 0).length := by
  have hw : ∀ j, j < 4 → pop 64 (f j) = cn B 64 (1 + 64 * j) := fun j hj => cn_congr _ _ _ _ _ fun i hi => by
    have := h.bit (64 * j + i) (by omega)
    rw [show (64 * j + i) / 64 = j by omega, show (64 * j + i) % 64 = i by omega] at this
    rw [Nat.zero_add, this]; congr 1; omega
  rw [row_len, hw 0 (by omega), hw 1 (by omega), hw 2 (by omega), hw 3 (by omega)]
  show _ = cn B (64 + (64 + (64 + 64))) 1
  rw [cn_add, cn_add, cn_add]
  simp only [Nat.reduceAdd, Nat.reduceMul]
  omega

/-- the rest of a word from bit a on -/
theorem rest_bit {f : Nat → Nat} {B : Nat → Bool} (h : Rep f B) (a : Nat) (ha : a < 256) (i : Nat) (hi : i < 64 - a % 64) : (f (a / 64) / 2 ^ (a % 64)).testBit i = B (a + 1 + i) := by
  rw [Nat.testBit_div_two_pow]
  have := h.bit (a + i) (by omega)
  rw [show (a + i) / 64 = a / 64 by omega, show (a + i) % 64 = i + a % 64 by omega] at this
  rw [this]; congr 1; omega
theorem rest_zero {f : Nat → Nat} {B : Nat → Bool} (h : Rep f B) (a : Nat) (ha : a < 256) (h0 : f (a / 64) / 2 ^ (a % 64) = 0) : nxt B a = nxt B (a + (64 - a % 64)) := by
  unfold nxt
  rw [show 256 - a = (64 - a % 64) + (256 - (a + (64 - a % 64))) by omega, nx_skip]
  · congr 1; omega
  · intro i hi
    rw [← rest_bit h a ha i hi, h0, Nat.zero_testBit]
theorem rest_some {f : Nat → Nat} {B : Nat → Bool} (h : Rep f B) (a : Nat) (ha : a < 256) (h0 : f (a / 64) / 2 ^ (a % 64) ≠ 0) :
    nxt B a = a + Lib.ctz 64 (f (a / 64) / 2 ^ (a % 64)) + 1 ∧ Lib.ctz 64 (f (a / 64) / 2 ^ (a % 64)) < 64 := by
  have hlt := h.lt (a / 64) (by omega)
  generalize hx : f (a / 64) / 2 ^ (a % 64) = x at *
  have hx1 : x < 2 ^ (64 - a % 64) := by
    rw [← hx, Nat.div_lt_iff_lt_mul (by exact Nat.two_pow_pos _), ← Nat.pow_add, show 64 - a % 64 + a % 64 = 64 by omega]; exact hlt
  have hx2 : x < 2 ^ 64 := Nat.lt_of_lt_of_le hx1 (Nat.pow_le_pow_right (by decide) (by omega))
  obtain ⟨m, hm, hk⟩ := Lib.ctzFrom_spec 64 x (by omega) hx2
  have e : Lib.ctz 64 x = Lib.ctzFrom 64 x := by simp [Lib.ctz, h0]
  rw [e]
  generalize Lib.ctzFrom 64 x = k at *
  have hb : ∀ i, x.testBit i = (decide (k ≤ i) && (2 * m + 1).testBit (i - k)) := fun i => by rw [hm, Nat.mul_comm, Nat.testBit_mul_two_pow]
  have hkk : k < 64 - a % 64 := by
    apply Nat.lt_of_not_le
    intro hle
    have h1 := hb k
    rw [Nat.sub_self] at h1
    have h2 : x.testBit k = false := Nat.testBit_lt_two_pow (Nat.lt_of_lt_of_le hx1 (Nat.pow_le_pow_right (by decide) hle))
    rw [h2] at h1
    simp [Nat.testBit_zero] at h1
  refine ⟨?_, hk⟩
  have hr := rest_bit h a ha
  rw [hx] at hr
  unfold nxt
  rw [show 256 - a = k + ((255 - a - k) + 1) by omega, nx_skip]
  · have : B (a + 1 + k) = true := by
      rw [← hr k hkk, hb k, Nat.sub_self]; simp [Nat.testBit_zero]
    simp only [nx, this, if_true]
    omega
  · intro i hi
    rw [← hr i (by omega), hb i]
    simp; omega

theorem rep_has {f : Nat → Nat} {B : Nat → Bool} (h : Rep f B) (q : Nat) (h1 : 1 ≤ q) (h2 : q ≤ 256) : decide (f ((q - 1) / 64) &&& 2 ^ ((q - 1) % 64) ≠ 0) = B q := by
  have := h.bit (q - 1) (by omega)
  rw [show q - 1 + 1 = q by omega] at this
  rw [← this]
  generalize f ((q - 1) / 64) = x
  generalize (q - 1) % 64 = k
  by_cases c : x.testBit k = true
  · rw [c, decide_eq_true_iff]
    intro h0
    have : (x &&& 2 ^ k).testBit k = true := by rw [Nat.testBit_and, c, Nat.testBit_two_pow]; simp
    rw [h0, Nat.zero_testBit] at this
    exact absurd this (by decide)
  · have c' : x.testBit k = false := by simpa using c
    rw [c', decide_eq_false_iff_not]
    intro h0
    refine h0 (Nat.eq_of_testBit_eq fun i => ?_)
    rw [Nat.testBit_and, Nat.testBit_two_pow, Nat.zero_testBit]
    by_cases e : k = i
    · subst e; rw [c']; rfl
    · simp [e]
theorem Rep.congr {f : Nat → Nat} {B B' : Nat → Bool} (h : Rep f B) (e : ∀ q, 1 ≤ q → q ≤ 256 → B' q = B q) : Rep f B' :=
  ⟨h.lt, fun i hi => by rw [e (i + 1) (by omega) (by omega)]; exact h.bit i hi⟩
theorem pow_lt64 (k : Nat) (h : k < 64) : 2 ^ k < 18446744073709551616 := by
  have : (2 : Nat) ^ k < 2 ^ 64 := Nat.pow_lt_pow_right (by decide) h
  exact this
theorem Rep.set {f : Nat → Nat} {B : Nat → Bool} (h : Rep f B) (q : Nat) (h1 : 1 ≤ q) (h2 : q ≤ 256) :
    Rep (fun j => if j = (q - 1) / 64 then f ((q - 1) / 64) ||| 2 ^ ((q - 1) % 64) else f j) (fun r => if r = q then true else B r) := by
  have hl := h.lt ((q - 1) / 64) (by omega)
  have hp := pow_lt64 ((q - 1) % 64) (by omega)
  refine ⟨fun j hj => ?_, fun i hi => ?_⟩
  · show (if _ then _ else _) < _
    split
    · exact Nat.or_lt_two_pow (n := 64) hl hp
    · exact h.lt j hj
  · show (if _ then _ else _ : Nat).testBit _ = if _ then _ else _
    have hb := h.bit i hi
    by_cases c : i / 64 = (q - 1) / 64
    · rw [if_pos c, Nat.testBit_or, Nat.testBit_two_pow, ← c, hb]
      by_cases c2 : i + 1 = q
      · rw [if_pos c2]; simp; right; omega
      · rw [if_neg c2]
        have : ¬ (q - 1) % 64 = i % 64 := by omega
        simp [this]
    · rw [if_neg c, if_neg (by omega), hb]
theorem Rep.clear {f : Nat → Nat} {B : Nat → Bool} (h : Rep f B) (q : Nat) (h1 : 1 ≤ q) (h2 : q ≤ 256) :
    Rep (fun j => if j = (q - 1) / 64 then f ((q - 1) / 64) &&& (18446744073709551615 - 2 ^ ((q - 1) % 64)) else f j) (fun r => if r = q then false else B r) := by
  have hl := h.lt ((q - 1) / 64) (by omega)
  have hp := pow_lt64 ((q - 1) % 64) (by omega)
  refine ⟨fun j hj => ?_, fun i hi => ?_⟩
  · show (if _ then _ else _) < _
    split
    · exact Nat.lt_of_le_of_lt Nat.and_le_left hl
    · exact h.lt j hj
  · show (if _ then _ else _ : Nat).testBit _ = if _ then _ else _
    have hb := h.bit i hi
    by_cases c : i / 64 = (q - 1) / 64
    · have e : 18446744073709551615 - 2 ^ ((q - 1) % 64) = 2 ^ 64 - (2 ^ ((q - 1) % 64) + 1) := by
        rw [show (2 : Nat) ^ 64 = 18446744073709551616 by decide +kernel]; omega
      rw [if_pos c, Nat.testBit_and, e, Nat.testBit_two_pow_sub_succ hp, Nat.testBit_two_pow, ← c, hb]
      by_cases c2 : i + 1 = q
      · rw [if_pos c2]
        have : (q - 1) % 64 = i % 64 := by omega
        simp [this]
      · rw [if_neg c2]
        have : ¬ (q - 1) % 64 = i % 64 := by omega
        have h64 : i % 64 < 64 := by omega
        simp [this, h64]
    · rw [if_neg c, if_neg (by omega), hb]
theorem Rep.zero : Rep (fun _ => 0) none' := ⟨fun _ _ => by decide, fun i _ => by simp [none']⟩

theorem upd_nil (B : Nat → Bool) (b : Bool) : upd B [] b = B := by funext q; simp [upd]
theorem upd_snoc (B : Nat → Bool) (l : List Int) (x : Int) (b : Bool) (q : Nat) : upd B (l ++ [x]) b q = if (q : Int) = x then b else upd B l b q := by
  unfold upd
  by_cases c : (q : Int) = x
  · simp [c]
  · by_cases c2 : (q : Int) ∈ l <;> simp [c, c2]
theorem upd_upd (B : Nat → Bool) (l : List Int) (b c : Bool) : upd (upd B l b) l c = upd B l c := by
  funext q; unfold upd; split <;> simp [*]
/-- a number outside turns nothing -/
theorem rep_out {f : Nat → Nat} {B : Nat → Bool} {l : List Int} {b : Bool} {x : Int} (h : Rep f (upd B l b)) (hx : ¬ (1 ≤ x ∧ x ≤ 256)) : Rep f (upd B (l ++ [x]) b) :=
  h.congr fun q h1 h2 => by rw [upd_snoc, if_neg (by omega)]
theorem rep_set {f : Nat → Nat} {B : Nat → Bool} {l : List Int} {x : Int} (h : Rep f (upd B l true)) (h1 : 1 ≤ x) (h2 : x ≤ 256) :
    Rep (fun j => if j = (x.toNat - 1) / 64 then f ((x.toNat - 1) / 64) ||| 2 ^ ((x.toNat - 1) % 64) else f j) (upd B (l ++ [x]) true) :=
  (h.set x.toNat (by omega) (by omega)).congr fun q _ _ => by
    rw [upd_snoc]
    by_cases c : q = x.toNat
    · rw [if_pos c, if_pos (by omega)]
    · rw [if_neg c, if_neg (by omega)]
theorem rep_clear {f : Nat → Nat} {B : Nat → Bool} {l : List Int} {x : Int} (h : Rep f (upd B l false)) (h1 : 1 ≤ x) (h2 : x ≤ 256) :
    Rep (fun j => if j = (x.toNat - 1) / 64 then f ((x.toNat - 1) / 64) &&& (18446744073709551615 - 2 ^ ((x.toNat - 1) % 64)) else f j) (upd B (l ++ [x]) false) :=
  (h.clear x.toNat (by omega) (by omega)).congr fun q _ _ => by
    rw [upd_snoc]
    by_cases c : q = x.toNat
    · rw [if_pos c, if_pos (by omega)]
    · rw [if_neg c, if_neg (by omega)]
theorem has_in {B : Nat → Bool} {x : Int} (h1 : 1 ≤ x) (h2 : x ≤ 256) : has B x = B x.toNat := by simp [has, h1, h2]
theorem has_out {B : Nat → Bool} {x : Int} (h : ¬ (1 ≤ x ∧ x ≤ 256)) : has B x = false := by simp only [has, h, decide_false, Bool.false_and]
theorem has_upd {B : Nat → Bool} {l : List Int} {x : Int} (h : x ∈ l) : has (upd B l false) x = false := by
  by_cases c : 1 ≤ x ∧ x ≤ 256
  · rw [has_in c.1 c.2]; unfold upd; rw [if_pos (by rw [Int.toNat_of_nonneg (by omega)]; exact h)]
  · exact has_out c

/-- the least beyond p, found one by one -/
def aft (B : Nat → Bool) (p : Int) : Nat → Bool := fun q => B q && decide (p < (q : Int))
theorem nx_false (B : Nat → Bool) : ∀ (n s : Nat), (∀ i, i < n → B (s + i) = false) → nx B n s = 0 := fun n s h => by
  have := nx_skip B n 0 s h; simpa [nx] using this
theorem nx_congr (B C : Nat → Bool) : ∀ (n s : Nat), (∀ i, i < n → B (s + i) = C (s + i)) → nx B n s = nx C n s
  | 0, _, _ => rfl
  | n + 1, s, h => by
    have h0 := h 0 (by omega)
    have := nx_congr B C n (s + 1) fun i hi => by have := h (i + 1) (by omega); rwa [show s + (i + 1) = s + 1 + i by omega] at this
    simp only [Nat.add_zero] at h0
    simp only [nx, h0, this]
theorem aft_nxt (B : Nat → Bool) (p : Int) : nx (aft B p) 256 1 = nxt B p.toNat := by
  unfold nxt
  by_cases c : 256 ≤ p.toNat
  · rw [show 256 - p.toNat = 0 by omega, nx_false]
    · rfl
    · intro i hi; unfold aft; simp; omega
  · have := nx_skip (aft B p) p.toNat (256 - p.toNat) 1 fun i hi => by unfold aft; simp; omega
    rw [show p.toNat + (256 - p.toNat) = 256 by omega] at this
    rw [this, Nat.add_comm 1]
    exact nx_congr _ _ _ _ fun i hi => by unfold aft; simp; omega
theorem rowF_congr (B C : Nat → Bool) : ∀ (n s : Nat), (∀ i, i < n → B (s + i) = C (s + i)) → rowF B n s = rowF C n s
  | 0, _, _ => rfl
  | n + 1, s, h => by
    have h0 := h 0 (by omega)
    have := rowF_congr B C n (s + 1) fun i hi => by have := h (i + 1) (by omega); rwa [show s + (i + 1) = s + 1 + i by omega] at this
    simp only [Nat.add_zero] at h0
    simp only [rowF, h0, this]
end Go.Proofs.YtfilggkdhcjpbaaDoor
