/- Numbers and their bits, no Go at all: how many bits are set (as the library's sum by halves counts them), the lowest one, and a set of numbers 1 to 256 in four words. -/
import Derived.Lib.TrailingZeros
namespace Go.Proofs.YtfilggkdhcjpbaaDoor

/-- how many of the n places from s on are set -/
def cn (g : Nat → Bool) : Nat → Nat → Nat
  | 0, _ => 0
  | n + 1, s => (if g s then 1 else 0) + cn g n (s + 1)

theorem cn_congr (g h : Nat → Bool) : ∀ (n s t : Nat), (∀ i, i < n → g (s + i) = h (t + i)) → cn g n s = cn h n t
  | 0, _, _, _ => rfl
  | n + 1, s, t, e => by
    have h0 := e 0 (by omega)
    have hr := cn_congr g h n (s + 1) (t + 1) fun i hi => by have := e (i + 1) (by omega); rwa [show s + (i + 1) = s + 1 + i by omega, show t + (i + 1) = t + 1 + i by omega] at this
    simp only [Nat.add_zero] at h0
    simp only [cn, h0, hr]
theorem cn_add (g : Nat → Bool) : ∀ (m n s : Nat), cn g (m + n) s = cn g m s + cn g n (s + m)
  | 0, n, s => by simp [cn]
  | m + 1, n, s => by
    rw [show m + 1 + n = (m + n) + 1 by omega]
    simp only [cn]
    rw [cn_add g m n (s + 1), show s + 1 + m = s + (m + 1) by omega]
    omega
theorem cn_le (g : Nat → Bool) : ∀ (n s : Nat), cn g n s ≤ n
  | 0, _ => Nat.le_refl _
  | n + 1, s => by have := cn_le g n (s + 1); simp only [cn]; split <;> omega

/-- how many of the lowest n bits of x are set -/
def pop (n x : Nat) : Nat := cn x.testBit n 0
theorem pop_le (n x : Nat) : pop n x ≤ n := cn_le _ _ _
theorem pop_split (m n x : Nat) : pop (m + n) x = pop m (x % 2 ^ m) + pop n (x / 2 ^ m) := by
  unfold pop
  rw [cn_add]
  congr 1
  · exact cn_congr _ _ _ _ _ fun i hi => by rw [Nat.testBit_mod_two_pow]; simp; intro h; omega
  · exact cn_congr _ _ _ _ _ fun i hi => by rw [Nat.testBit_div_two_pow, Nat.zero_add, Nat.zero_add]; congr 1; omega

/-- a number by its bytes, the lowest first -/
def num : List Nat → Nat
  | [] => 0
  | a :: l => a + 256 * num l
def bts : Nat → Nat → List Nat
  | 0, _ => []
  | n + 1, x => x % 256 :: bts n (x / 256)
theorem num_bts : ∀ (n x : Nat), x < 256 ^ n → num (bts n x) = x
  | 0, x, h => by simp at h; subst h; rfl
  | n + 1, x, h => by
    have hx : x / 256 < 256 ^ n := by rw [Nat.pow_succ] at h; omega
    simp only [bts, num, num_bts n _ hx]
    omega
theorem bts_lt : ∀ (n x a : Nat), a ∈ bts n x → a < 256
  | 0, _, _, h => by simp [bts] at h
  | n + 1, x, a, h => by
    rcases List.mem_cons.1 h with rfl | h
    · omega
    · exact bts_lt n _ a h
theorem bts_len : ∀ (n x : Nat), (bts n x).length = n
  | 0, _ => rfl
  | n + 1, x => by simp [bts, bts_len n]
theorem pop_bts : ∀ (n x : Nat), pop (8 * n) x = ((bts n x).map (pop 8)).sum
  | 0, _ => rfl
  | n + 1, x => by
    rw [show 8 * (n + 1) = 8 + 8 * n by omega, pop_split, pop_bts n]
    rfl

theorem and_bytes (a y c M : Nat) (ha : a < 256) (hc : c < 256) : (a + 256 * y) &&& (c + 256 * M) = (a &&& c) + 256 * (y &&& M) := by
  have h1 : ((a + 256 * y) &&& (c + 256 * M)) % 2 ^ 8 = a &&& c := by
    rw [Nat.and_mod_two_pow, show (a + 256 * y) % 2 ^ 8 = a by omega, show (c + 256 * M) % 2 ^ 8 = c by omega]
  have h2 : ((a + 256 * y) &&& (c + 256 * M)) / 2 ^ 8 = y &&& M := by
    rw [Nat.and_div_two_pow, show (a + 256 * y) / 2 ^ 8 = y by omega, show (c + 256 * M) / 2 ^ 8 = M by omega]
  omega

def g1 (a : Nat) : Nat := (a / 2 &&& 85) + (a &&& 85)
def g2 (a : Nat) : Nat := (a / 4 &&& 51) + (a &&& 51)
def S1 (M x : Nat) : Nat := (x / 2 &&& M) + (x &&& M)
def S2 (M x : Nat) : Nat := (x / 4 &&& M) + (x &&& M)
def S3 (M x : Nat) : Nat := (x / 16 + x) &&& M

theorem low1 : ∀ a, a < 256 → ∀ t, t < 2 → (a / 2 + 128 * t) &&& 85 = a / 2 &&& 85 := by decide +kernel
theorem low2 : ∀ a, a < 256 → ∀ t, t < 4 → (a / 4 + 64 * t) &&& 51 = a / 4 &&& 51 := by decide +kernel

theorem S1_cons (a y M : Nat) (ha : a < 256) : S1 (85 + 256 * M) (a + 256 * y) = g1 a + 256 * S1 M y := by
  unfold S1 g1
  rw [show (a + 256 * y) / 2 = (a / 2 + 128 * (y % 2)) + 256 * (y / 2) by omega, and_bytes _ _ _ _ (by omega) (by omega), and_bytes _ _ _ _ ha (by omega), low1 a ha _ (by omega)]
  omega
theorem S2_cons (a y M : Nat) (ha : a < 256) : S2 (51 + 256 * M) (a + 256 * y) = g2 a + 256 * S2 M y := by
  unfold S2 g2
  rw [show (a + 256 * y) / 4 = (a / 4 + 64 * (y % 4)) + 256 * (y / 4) by omega, and_bytes _ _ _ _ (by omega) (by omega), and_bytes _ _ _ _ ha (by omega), low2 a ha _ (by omega)]
  omega
theorem S3_cons (a y M : Nat) (h1 : a % 16 ≤ 4) (h2 : a / 16 ≤ 4) (hy : y % 16 ≤ 4) : S3 (15 + 256 * M) (a + 256 * y) = (a / 16 + a % 16) + 256 * S3 M y := by
  unfold S3
  rw [show (a + 256 * y) / 16 + (a + 256 * y) = (a / 16 + a + 16 * (y % 16)) + 256 * (y / 16 + y) by omega, and_bytes _ _ _ _ (by omega) (by omega)]
  rw [show (15 : Nat) = 2 ^ 4 - 1 by decide, Nat.and_two_pow_sub_one_eq_mod]
  omega

def rep (c : Nat) (l : List Nat) : List Nat := l.map fun _ => c
theorem S1_num : ∀ (l : List Nat), (∀ a, a ∈ l → a < 256) → S1 (num (rep 85 l)) (num l) = num (l.map g1)
  | [], _ => rfl
  | a :: l, h => by
    have := S1_num l fun b hb => h b (List.mem_cons_of_mem _ hb)
    show S1 (85 + 256 * num (rep 85 l)) (a + 256 * num l) = g1 a + 256 * num (l.map g1)
    rw [S1_cons _ _ _ (h a (List.mem_cons_self ..)), this]
theorem S2_num : ∀ (l : List Nat), (∀ a, a ∈ l → a < 256) → S2 (num (rep 51 l)) (num l) = num (l.map g2)
  | [], _ => rfl
  | a :: l, h => by
    have := S2_num l fun b hb => h b (List.mem_cons_of_mem _ hb)
    show S2 (51 + 256 * num (rep 51 l)) (a + 256 * num l) = g2 a + 256 * num (l.map g2)
    rw [S2_cons _ _ _ (h a (List.mem_cons_self ..)), this]
theorem num_mod (l : List Nat) (h : ∀ a, a ∈ l → a % 16 ≤ 4) : num l % 16 ≤ 4 := by
  cases l with
  | nil => simp [num]
  | cons a l => have := h a (List.mem_cons_self ..); simp only [num]; omega
theorem S3_num : ∀ (l : List Nat), (∀ a, a ∈ l → a % 16 ≤ 4 ∧ a / 16 ≤ 4) → S3 (num (rep 15 l)) (num l) = num (l.map fun a => a / 16 + a % 16)
  | [], _ => rfl
  | a :: l, h => by
    have := S3_num l fun b hb => h b (List.mem_cons_of_mem _ hb)
    show S3 (15 + 256 * num (rep 15 l)) (a + 256 * num l) = (a / 16 + a % 16) + 256 * num (l.map fun a => a / 16 + a % 16)
    have ha := h a (List.mem_cons_self ..)
    rw [S3_cons _ _ _ ha.1 ha.2 (num_mod l fun b hb => (h b (List.mem_cons_of_mem _ hb)).1), this]

/-- each byte, at all of the 256 -/
theorem byte_pop : ∀ a, a < 256 → g1 a < 256 ∧ g2 (g1 a) < 256 ∧ g2 (g1 a) % 16 ≤ 4 ∧ g2 (g1 a) / 16 ≤ 4 ∧ g2 (g1 a) / 16 + g2 (g1 a) % 16 = pop 8 a := by decide +kernel

theorem num_lt : ∀ (l : List Nat), (∀ a, a ∈ l → a < 256) → num l < 256 ^ l.length
  | [], _ => by decide
  | a :: l, h => by
    have := num_lt l fun b hb => h b (List.mem_cons_of_mem _ hb)
    have ha := h a (List.mem_cons_self ..)
    simp only [num, List.length_cons, Nat.pow_succ]
    omega

theorem rep_bts (c : Nat) : ∀ (n x y : Nat), num (rep c (bts n x)) = num (rep c (bts n y))
  | 0, _, _ => rfl
  | n + 1, x, y => by
    show c + 256 * num (rep c (bts n (x / 256))) = c + 256 * num (rep c (bts n (y / 256)))
    rw [rep_bts c n (x / 256) (y / 256)]
theorem m1 (x : Nat) : num (rep 85 (bts 8 x)) = 6148914691236517205 := (rep_bts 85 8 x 0).trans (by decide +kernel)
theorem m2 (x : Nat) : num (rep 51 (bts 8 x)) = 3689348814741910323 := (rep_bts 51 8 x 0).trans (by decide +kernel)
theorem m3 (x : Nat) : num (rep 15 (bts 8 x)) = 1085102592571150095 := (rep_bts 15 8 x 0).trans (by decide +kernel)
theorem rep_map (c : Nat) (l : List Nat) (g : Nat → Nat) : rep c (l.map g) = rep c l := by simp [rep]
theorem pow8 : 256 ^ 8 = 18446744073709551616 := by decide +kernel
theorem lt8 (x : Nat) (l : List Nat) (hl : l.length = (bts 8 x).length) (h : ∀ a, a ∈ l → a < 256) : num l < 18446744073709551616 := by
  have := num_lt l h
  rw [hl, bts_len, pow8] at this
  exact this
theorem dv (a m K x : Nat) (h : a < m) (e : x = a + m * K) : x / m = K := by
  rw [e, Nat.add_mul_div_left _ _ (by omega), Nat.div_eq_of_lt h, Nat.zero_add]
theorem md (a m K x : Nat) (h : a < m) (e : x = a + m * K) : x % m = a := by
  rw [e, Nat.add_mul_mod_self_left, Nat.mod_eq_of_lt h]
theorem six (c0 c1 c2 c3 c4 c5 c6 c7 x : Nat) (h : c0 ≤ 8 ∧ c1 ≤ 8 ∧ c2 ≤ 8 ∧ c3 ≤ 8 ∧ c4 ≤ 8 ∧ c5 ≤ 8 ∧ c6 ≤ 8 ∧ c7 ≤ 8)
    (hx : x = c0 + 256 * (c1 + 256 * (c2 + 256 * (c3 + 256 * (c4 + 256 * (c5 + 256 * (c6 + 256 * (c7 + 256 * 0)))))))) :
    (x + x / 256 + (x + x / 256) / 65536 + (x + x / 256 + (x + x / 256) / 65536) / 4294967296) % 128 = c0 + c1 + c2 + c3 + c4 + c5 + c6 + c7 := by
  have e1 : x / 256 = c1 + 256 * (c2 + 256 * (c3 + 256 * (c4 + 256 * (c5 + 256 * (c6 + 256 * (c7 + 256 * 0)))))) := dv c0 256 _ x (by clear hx; omega) hx
  rw [e1]
  generalize hy : x + (c1 + 256 * (c2 + 256 * (c3 + 256 * (c4 + 256 * (c5 + 256 * (c6 + 256 * (c7 + 256 * 0))))))) = y
  have ey : y = ((c0 + c1) + 256 * (c1 + c2)) + 65536 * ((c2 + c3) + 256 * (c3 + c4) + 65536 * ((c4 + c5) + 256 * (c5 + c6) + 65536 * ((c6 + c7) + 256 * c7))) := by rw [← hy, hx]; clear hy hx e1 h; omega
  have e2 : y / 65536 = (c2 + c3) + 256 * (c3 + c4) + 65536 * ((c4 + c5) + 256 * (c5 + c6) + 65536 * ((c6 + c7) + 256 * c7)) := dv _ 65536 _ y (by clear ey hy e1 hx; omega) ey
  rw [e2]
  clear hx e1 hy e2
  generalize hz : y + (c2 + c3 + 256 * (c3 + c4) + 65536 * (c4 + c5 + 256 * (c5 + c6) + 65536 * (c6 + c7 + 256 * c7))) = z
  have ez : z = ((c0 + c1 + c2 + c3) + 256 * (c1 + c2 + c3 + c4) + 65536 * ((c2 + c3 + c4 + c5) + 256 * (c3 + c4 + c5 + c6))) + 4294967296 * ((c4 + c5 + c6 + c7) + 256 * (c5 + c6 + c7) + 65536 * ((c6 + c7) + 256 * c7)) := by rw [← hz, ey]; clear hz ey h; omega
  have e3 : z / 4294967296 = (c4 + c5 + c6 + c7) + 256 * (c5 + c6 + c7) + 65536 * ((c6 + c7) + 256 * c7) := dv _ 4294967296 _ z (by clear ez hz ey; omega) ez
  rw [e3]
  exact md (c0 + c1 + c2 + c3 + c4 + c5 + c6 + c7) 128 (2 * (c1 + c2 + c3 + c4) + 512 * ((c2 + c3 + c4 + c5) + 256 * (c3 + c4 + c5 + c6)) + 33554432 * ((c4 + c5 + c6 + c7) + 256 * (c5 + c6 + c7) + 65536 * ((c6 + c7) + 256 * c7)) + 2 * (c5 + c6 + c7) + 512 * ((c6 + c7) + 256 * c7)) _ (by clear ez hz ey e3; omega) (by rw [ez]; clear ez hz ey e3 h; omega)
theorem top3 (c0 c1 c2 c3 c4 c5 c6 c7 B : Nat) (h : c0 ≤ B ∧ c1 ≤ B ∧ c2 ≤ B ∧ c3 ≤ B ∧ c4 ≤ B ∧ c5 ≤ B ∧ c6 ≤ B ∧ c7 ≤ B) : num [c0, c1, c2, c3, c4, c5, c6, c7] ≤ 72340172838076673 * B := by
  simp only [num]
  omega

/-- THE SUM BY HALVES: the six steps of the library's text, each below 2^64 -/
theorem halves (x : Nat) (hx : x < 18446744073709551616) : ∃ x1 x2 x3 : Nat,
    x1 < 18446744073709551616 ∧ x2 < 18446744073709551616 ∧ x3 < 1157442765409226769 ∧
    S1 6148914691236517205 x = x1 ∧ S2 3689348814741910323 x1 = x2 ∧ x2 / 16 + x2 < 18446744073709551616 ∧ S3 1085102592571150095 x2 = x3 ∧
    (x3 + x3 / 256 + (x3 + x3 / 256) / 65536 + (x3 + x3 / 256 + (x3 + x3 / 256) / 65536) / 4294967296) % 128 = pop 64 x := by
  have hb := bts_lt 8 x
  have hn : num (bts 8 x) = x := num_bts 8 x (by simpa using hx)
  have hp := pop_bts 8 x
  have e1 : S1 6148914691236517205 x = num ((bts 8 x).map g1) := by
    have := S1_num (bts 8 x) hb; rw [hn, m1] at this; exact this
  have hb1 : ∀ a, a ∈ (bts 8 x).map g1 → a < 256 := fun a ha => by
    obtain ⟨b, hb', rfl⟩ := List.mem_map.1 ha; exact (byte_pop b (hb b hb')).1
  have e2 : S2 3689348814741910323 (num ((bts 8 x).map g1)) = num (((bts 8 x).map g1).map g2) := by
    have := S2_num _ hb1; rw [rep_map, m2] at this; exact this
  have hb2 : ∀ a, a ∈ ((bts 8 x).map g1).map g2 → a < 256 ∧ a % 16 ≤ 4 ∧ a / 16 ≤ 4 := fun a ha => by
    obtain ⟨b, hb', rfl⟩ := List.mem_map.1 ha
    obtain ⟨c, hc, rfl⟩ := List.mem_map.1 hb'
    have := byte_pop c (hb c hc)
    exact ⟨this.2.1, this.2.2.1, this.2.2.2.1⟩
  have e3 : S3 1085102592571150095 (num (((bts 8 x).map g1).map g2)) = num ((((bts 8 x).map g1).map g2).map fun a => a / 16 + a % 16) := by
    have := S3_num _ fun a ha => (hb2 a ha).2; rw [rep_map, rep_map, m3] at this; exact this
  have e4 : (((bts 8 x).map g1).map g2).map (fun a => a / 16 + a % 16) = (bts 8 x).map (pop 8) := by
    rw [List.map_map, List.map_map]
    exact List.map_congr_left fun a ha => (byte_pop a (hb a ha)).2.2.2.2
  have l1 := lt8 x _ (by simp) hb1
  have l2 := lt8 x (((bts 8 x).map g1).map g2) (by simp) fun a ha => (hb2 a ha).1
  rw [e4] at e3
  clear e4 hn hb1
  generalize hq : ((bts 8 x).map g1).map g2 = q at *
  have hq8 : q.length = 8 := by rw [← hq]; simp [bts_len]
  generalize hr : (bts 8 x).map (pop 8) = r at *
  have hr8 : r.length = 8 := by rw [← hr]; simp [bts_len]
  have h8 : ∀ a, a ∈ r → a ≤ 8 := fun a ha => by
    rw [← hr] at ha
    obtain ⟨b, _, rfl⟩ := List.mem_map.1 ha; exact pop_le _ _
  clear hq hr
  match q, hq8, r, hr8 with
  | [b0, b1, b2, b3, b4, b5, b6, b7], _, [c0, c1, c2, c3, c4, c5, c6, c7], _ =>
    simp only [List.mem_cons, List.not_mem_nil, or_false, forall_eq_or_imp, forall_eq] at h8 hb2
    simp only [List.sum_cons, List.sum_nil, Nat.reduceMul] at hp
    refine ⟨_, _, _, l1, l2, ?_, e1, e2, ?_, e3, ?_⟩
    · have := top3 c0 c1 c2 c3 c4 c5 c6 c7 8 h8; omega
    · have := top3 b0 b1 b2 b3 b4 b5 b6 b7 68 ⟨by omega, by omega, by omega, by omega, by omega, by omega, by omega, by omega⟩
      clear e1 e2 e3 l1 l2 hb2
      omega
    · rw [hp, six c0 c1 c2 c3 c4 c5 c6 c7 (num [c0, c1, c2, c3, c4, c5, c6, c7]) h8 rfl]
      simp only [Nat.add_assoc, Nat.add_zero]
end Go.Proofs.YtfilggkdhcjpbaaDoor
