/- Messages one behind the other in a round of bytes: no Go at all. -/
import Derived.Test.YtneimdjgbblaoaaRgConE
namespace Go.Proofs.Ytneimdjgbblaoaa.R
open Go.RowKit
set_option maxRecDepth 100000

/-- what a message of n bytes occupies -/
def occ (n : Nat) : Nat := 4 + (n + 3) / 4 * 4
theorem occ_lo (n : Nat) : n + 4 ≤ occ n ∧ occ n ≤ n + 7 ∧ occ n % 4 = 0 := by unfold occ; omega
def tot : List (List Int) → Nat
  | [] => 0
  | x :: L => occ x.length + tot L
theorem tot_append : ∀ (L : List (List Int)) (x : List Int), tot (L ++ [x]) = tot L + occ x.length
  | [], x => by simp [tot]
  | y :: L, x => by simp only [List.cons_append, tot, tot_append L x]; omega
theorem tot_four : ∀ L : List (List Int), tot L % 4 = 0
  | [] => rfl
  | x :: L => by have := tot_four L; have := (occ_lo x.length).2.2; simp only [tot]; omega
theorem tot_len : ∀ L : List (List Int), 4 * L.length ≤ tot L
  | [] => Nat.le_refl _
  | x :: L => by have := tot_len L; have := (occ_lo x.length).1; simp only [tot, List.length_cons]; omega

/-- the byte at a place of a message -/
def nth (x : List Int) (j : Nat) : Int := x.getD j 0
/-- a message of n bytes q 0, q 1, .. -/
def mkm (n : Nat) (q : Nat → Int) : List Int := (List.range n).map q
theorem mkm_len (n : Nat) (q : Nat → Int) : (mkm n q).length = n := by simp [mkm]
theorem nth_mkm (n : Nat) (q : Nat → Int) (j : Nat) (hj : j < n) : nth (mkm n q) j = q j := by simp [nth, mkm, List.getD_eq_getElem?_getD, hj]
theorem mkm_nth (x : List Int) : mkm x.length (nth x) = x := by
  apply List.ext_getElem?
  intro i
  unfold mkm nth
  by_cases h : i < x.length
  · simp [List.getD_eq_getElem?_getD, h]
  · rw [List.getElem?_eq_none (by simp; omega), List.getElem?_eq_none (by omega)]

/-- The messages stand one behind the other from o on: a word with the length, the bytes. -/
def Lin (g : Nat → Int) : Nat → List (List Int) → Prop
  | _, [] => True
  | o, x :: L => (∀ i, i < 4 → g (o + i) = byteOf x.length i) ∧ (∀ j, j < x.length → g (o + 4 + j) = nth x j) ∧ Lin g (o + occ x.length) L

theorem Lin.congr {g g' : Nat → Int} : ∀ {L : List (List Int)} {o : Nat}, Lin g o L → (∀ i, o ≤ i → i < o + tot L → g' i = g i) → Lin g' o L
  | [], _, _, _ => trivial
  | x :: L, o, h, e => by
    have ho := occ_lo x.length
    simp only [tot] at e
    refine ⟨fun i hi => ?_, fun j hj => ?_, h.2.2.congr fun i h1 h2 => e i (by omega) (by omega)⟩
    · rw [e _ (by omega) (by omega)]; exact h.1 i hi
    · rw [e _ (by omega) (by omega)]; exact h.2.1 j hj
theorem Lin.shift {g g' : Nat → Int} {d : Nat} : ∀ {L : List (List Int)} {o : Nat}, Lin g (d + o) L → (∀ i, o ≤ i → i < o + tot L → g' i = g (d + i)) → Lin g' o L
  | [], _, _, _ => trivial
  | x :: L, o, h, e => by
    have ho := occ_lo x.length
    simp only [tot] at e
    refine ⟨fun i hi => ?_, fun j hj => ?_, Lin.shift (d := d) (by rw [← Nat.add_assoc]; exact h.2.2) fun i h1 h2 => e i (by omega) (by omega)⟩
    · rw [e _ (by omega) (by omega), ← Nat.add_assoc]; exact h.1 i hi
    · rw [e _ (by omega) (by omega)]
      have := h.2.1 j hj
      have e2 : d + (o + 4 + j) = d + o + 4 + j := by omega
      rw [e2]; exact this
theorem Lin.snoc {g : Nat → Int} : ∀ {L : List (List Int)} {o : Nat} {x : List Int}, Lin g o L → (∀ i, i < 4 → g (o + tot L + i) = byteOf x.length i) → (∀ j, j < x.length → g (o + tot L + 4 + j) = nth x j) → Lin g o (L ++ [x])
  | [], o, x, _, h1, h2 => ⟨h1, h2, trivial⟩
  | y :: L, o, x, h, h1, h2 => by
    simp only [tot, ← Nat.add_assoc] at h1 h2
    exact ⟨h.1, h.2.1, h.2.2.snoc h1 h2⟩

/-- The round: N bytes f, the first message at F. -/
structure Good (N F : Nat) (f : Nat → Int) (L : List (List Int)) : Prop where
  n4 : N % 4 = 0
  f4 : F % 4 = 0
  fN : F < N ∨ F = 0
  fit : tot L ≤ N
  msg : ∀ x, x ∈ L → x.length ≤ 1024
  lin : Lin (fun i => f ((F + i) % N)) 0 L

theorem round_cases (F i N : Nat) (hF : F < N) (hi : i < N) : (F + i < N ∧ (F + i) % N = F + i) ∨ (N ≤ F + i ∧ (F + i) % N = F + i - N) := by
  by_cases h : F + i < N
  · exact .inl ⟨h, Nat.mod_eq_of_lt h⟩
  · refine .inr ⟨by omega, ?_⟩
    rw [Nat.mod_eq_sub_mod (by omega), Nat.mod_eq_of_lt (by omega)]
/-- a place in the round, for a distance up to a whole round -/
theorem round_cases' (F i N : Nat) (hF : F < N) (hi : i ≤ N) : (F + i < N ∧ (F + i) % N = F + i) ∨ (N ≤ F + i ∧ (F + i) % N = F + i - N) := by
  by_cases h : F + i < N
  · exact .inl ⟨h, Nat.mod_eq_of_lt h⟩
  · refine .inr ⟨by omega, ?_⟩
    rw [Nat.mod_eq_sub_mod (by omega), Nat.mod_eq_of_lt (by omega)]
theorem round_four (F i N : Nat) (hF : F < N) (hi : i < N) (h1 : F % 4 = 0) (h2 : i % 4 = 0) (h3 : N % 4 = 0) : (F + i) % N % 4 = 0 ∧ (F + i) % N + 4 ≤ N := by
  rcases round_cases F i N hF hi with ⟨h, e⟩ | ⟨h, e⟩ <;> rw [e] <;> omega

theorem good_new (N : Nat) (h : N % 4 = 0) (f : Nat → Int) : Good N 0 f [] :=
  ⟨h, rfl, .inr rfl, Nat.zero_le _, fun x hx => by simp at hx, trivial⟩

/-- what lies there behind a message has been written: its word at a, its bytes from b on, round the end -/
def laid (N : Nat) (f : Nat → Int) (a b n : Nat) (q : Nat → Int) : Nat → Int :=
  upd (upd (upd f a 4 (byteOf n)) b (min n (N - b)) q) 0 (n - min n (N - b)) (fun j => q (min n (N - b) + j))

theorem laid_out {N F : Nat} {f : Nat → Int} {U n : Nat} {q : Nat → Int} (hF : F < N) (h4 : F % 4 = 0) (hN : N % 4 = 0) (hU4 : U % 4 = 0) (hfit : U + occ n ≤ N) (i : Nat) (hi : i < U) :
    laid N f ((F + U) % N) ((F + (U + 4)) % N) n q ((F + i) % N) = f ((F + i) % N) := by
  have ho := occ_lo n
  have k1 := round_cases F i N hF (by omega)
  have k2 := round_cases F U N hF (by omega)
  have k3 := round_cases' F (U + 4) N hF (by omega)
  have k4 := round_four F U N hF (by omega) h4 hU4 hN
  generalize (F + i) % N = x at *
  generalize (F + U) % N = a at *
  generalize (F + (U + 4)) % N = b at *
  unfold laid
  rw [upd_out _ _ _ _ _ (by omega), upd_out _ _ _ _ _ (by omega), upd_out _ _ _ _ _ (by omega)]
theorem laid_word {N F : Nat} {f : Nat → Int} {U n : Nat} {q : Nat → Int} (hF : F < N) (h4 : F % 4 = 0) (hN : N % 4 = 0) (hU4 : U % 4 = 0) (hfit : U + occ n ≤ N) (i : Nat) (hi : i < 4) :
    laid N f ((F + U) % N) ((F + (U + 4)) % N) n q ((F + (U + i)) % N) = byteOf n i := by
  have ho := occ_lo n
  have k1 := round_cases F (U + i) N hF (by omega)
  have k2 := round_cases F U N hF (by omega)
  have k3 := round_cases' F (U + 4) N hF (by omega)
  have k4 := round_four F U N hF (by omega) h4 hU4 hN
  generalize (F + (U + i)) % N = x at *
  generalize (F + U) % N = a at *
  generalize (F + (U + 4)) % N = b at *
  unfold laid
  rw [upd_out _ _ _ _ _ (by omega), upd_out _ _ _ _ _ (by omega), upd_in _ _ _ _ _ (by omega) (by omega)]
  congr 1; omega
theorem laid_in {N F : Nat} {f : Nat → Int} {U n : Nat} {q : Nat → Int} (hF : F < N) (h4 : F % 4 = 0) (hN : N % 4 = 0) (hU4 : U % 4 = 0) (hfit : U + occ n ≤ N) (j : Nat) (hj : j < n) :
    laid N f ((F + U) % N) ((F + (U + 4)) % N) n q ((F + (U + 4 + j)) % N) = q j := by
  have ho := occ_lo n
  have k1 := round_cases F (U + 4 + j) N hF (by omega)
  have k3 := round_cases' F (U + 4) N hF (by omega)
  generalize (F + (U + 4 + j)) % N = x at *
  generalize (F + U) % N = a at *
  generalize (F + (U + 4)) % N = b at *
  unfold laid
  by_cases hx : b ≤ x ∧ x < b + min n (N - b)
  · rw [upd_out _ _ _ _ _ (by omega), upd_in _ _ _ _ _ hx.1 hx.2]; congr 1; omega
  · rw [upd_in _ _ _ _ _ (by omega) (by omega)]; congr 1; omega

/-- a message more -/
theorem Good.put {N F : Nat} {f : Nat → Int} {L : List (List Int)} (h : Good N F f L) (n : Nat) (q : Nat → Int) (hn : n ≤ 1024) (hfit : tot L + occ n ≤ N) :
    Good N F (laid N f ((F + tot L) % N) ((F + (tot L + 4)) % N) n q) (L ++ [mkm n q]) := by
  have ho := occ_lo n
  have hF : F < N := by rcases h.fN with h | h <;> omega
  refine ⟨h.n4, h.f4, h.fN, by rw [tot_append, mkm_len]; exact hfit, fun x hx => ?_, ?_⟩
  · rcases List.mem_append.1 hx with hx | hx
    · exact h.msg x hx
    · simp at hx; subst hx; rw [mkm_len]; exact hn
  · refine Lin.snoc (h.lin.congr fun i _ hi => ?_) (fun i hi => ?_) (fun j hj => ?_)
    · exact laid_out hF h.f4 h.n4 (tot_four L) hfit i (by omega)
    · rw [mkm_len, Nat.zero_add]
      exact laid_word hF h.f4 h.n4 (tot_four L) hfit i hi
    · rw [mkm_len] at hj
      rw [nth_mkm _ _ _ hj, Nat.zero_add]
      exact laid_in hF h.f4 h.n4 (tot_four L) hfit j hj

/-- the first message goes -/
theorem Good.get {N F : Nat} {f : Nat → Int} {x : List Int} {L : List (List Int)} (h : Good N F f (x :: L)) : Good N ((F + occ x.length) % N) f L := by
  have ho := occ_lo x.length
  have hfit := h.fit
  simp only [tot] at hfit
  have hF : F < N := by rcases h.fN with h | h <;> omega
  have k1 := round_cases' F (occ x.length) N hF (by omega)
  have f4 := h.f4
  have n4 := h.n4
  refine ⟨n4, by omega, .inl (Nat.mod_lt _ (by omega)), by omega, fun y hy => h.msg y (List.mem_cons_of_mem _ hy), ?_⟩
  refine Lin.shift (d := occ x.length) (by have := h.lin.2.2; rwa [Nat.zero_add] at this) fun i _ hi => ?_
  show f (((F + occ x.length) % N + i) % N) = f ((F + (occ x.length + i)) % N)
  rw [Nat.mod_add_mod, Nat.add_assoc]
theorem Good.word {N F : Nat} {f : Nat → Int} {x : List Int} {L : List (List Int)} (h : Good N F f (x :: L)) : F + 4 ≤ N ∧ wordUp f F 4 = x.length := by
  have ho := occ_lo x.length
  have hfit := h.fit
  simp only [tot] at hfit
  have hF : F < N := by rcases h.fN with h | h <;> omega
  have f4 := h.f4
  have n4 := h.n4
  refine ⟨by omega, wordUp_byteOf f F _ (by omega) (by have := h.msg x (List.mem_cons_self); omega) fun i hi => ?_⟩
  have : f ((F + (0 + i)) % N) = byteOf x.length i := h.lin.1 i hi
  rw [Nat.zero_add, Nat.mod_eq_of_lt (by omega)] at this
  exact this
/-- the bytes as they are read: from b on, then round the end -/
theorem Good.bytes {N F : Nat} {f : Nat → Int} {x : List Int} {L : List (List Int)} (h : Good N F f (x :: L)) (b : Nat) (hb : (F + 4) % N = b) (j : Nat) (hj : j < x.length) :
    (if j < min x.length (N - b) then f (b + j) else f (0 + (j - min x.length (N - b)))) = nth x j := by
  have ho := occ_lo x.length
  have hfit := h.fit
  simp only [tot] at hfit
  have hF : F < N := by rcases h.fN with h | h <;> omega
  have k3 := round_cases' F 4 N hF (by omega)
  have k1 := round_cases F (0 + 4 + j) N hF (by omega)
  have h2 : f ((F + (0 + 4 + j)) % N) = nth x j := h.lin.2.1 j hj
  rw [← h2]
  rw [hb] at k3
  generalize (F + (0 + 4 + j)) % N = y at *
  by_cases c : j < min x.length (N - b)
  · rw [if_pos c]; congr 1; omega
  · rw [if_neg c]; congr 1; omega
end Go.Proofs.Ytneimdjgbblaoaa.R
