/-
  detentlaw15.MutexPlays: the program's mutexes and the document's side by side, with the call's own struct; what each call makes of them; the law's same.
-/
import Derived.Test.YtmicinenggkmlaaPlO
import Derived.Test.YtmicinenggkmlaaMtK
import Derived.Deep.RegionHeld3
namespace Go.Proofs.Ytmicinenggkmlaa.mutexPlays
open Go.RowKit
set_option linter.unusedVariables false
set_option maxRecDepth 100000

/-! ### the law's Same of two rows of numbers -/
/-- numbers that are read -/
def Nr (w : World) (v : Value) (L : List Int) : Prop :=
  ∃ (X : Option Addr) (k : Nat), v = .slice X L.length k ∧ L.length ≤ 9223372036854775807 ∧ (0 < L.length → ∃ g o : Nat, X = some ⟨g, o, none⟩ ∧ g < w.heap.size ∧ ∀ (j : Nat) (x : Int), L[j]? = some x → w.cell? ⟨g, o + j, none⟩ = some (.int .i64 x))
theorem Nr.below {w w' : World} {v : Value} {L : List Int} (h : Nr w v L) (k : Below w.heap.size w w') : Nr w' v L := by
  obtain ⟨X, c, h1, h2, h3⟩ := h
  exact ⟨X, c, h1, h2, fun h0 => by
    obtain ⟨g, o, h4, h5, h6⟩ := h3 h0
    exact ⟨g, o, h4, Nat.lt_of_lt_of_le h5 k.size, fun j x hx => (k.cell (p := ⟨g, o + j, none⟩) h5).trans (h6 j x hx)⟩⟩
theorem Nr.of_own {w : World} {B : Nat} {v : Value} {L : List Int} (h : Ow w B v L) : Nr w v L := by
  obtain ⟨X, k, rfl, h1, h2⟩ := K.own_form h
  refine ⟨X, k, rfl, by omega, fun h0 => ?_⟩
  rcases K.own_src rfl h with ⟨_, e, _⟩ | ⟨b, o, e, hb, hc⟩
  · rw [e] at h0; simp at h0
  · exact ⟨b, o, e, hb, fun j x hx => hc j _ (by rw [K.vals_ci, List.getElem?_map, hx]; rfl)⟩
theorem below_dn {a w : World} (h : Below a.heap.size a w) (n : Nat) : Below a.heap.size a (w.drewN n) := below_trans h (below_drewN w n)

set_option maxHeartbeats 1600000 in
theorem same_true (va vb : Value) (L : List Int) (w : World) (ha : Nr w va L) (hb : Nr w vb L) :
    Calls Try.prog 24 #[va, vb] w fun e w' => e = .returned (.bool true) ∧ Below w.heap.size w w' := by
  obtain ⟨XA, ka, rfl, la, fa⟩ := ha
  obtain ⟨XB, kb, rfl, lb, fb⟩ := hb
  obtain ⟨n, hn⟩ : ∃ n, L.length = n := ⟨_, rfl⟩
  rw [hn] at la lb fa fb ⊢
  have HN := Lib.hid hn
  have FA := Lib.hid fa
  have FB := Lib.hid fb
  have t1 : ((n : Int) != (n : Int)) = false := by simp
  clear hn fa fb
  go_enter Try.func24, Try.ntmps24
  go_wp2
  go_loopw [5] (fun i wr => ∃ t : Nat, t ≤ n ∧ i = .int .i64 (t : Int) ∧ Below w.heap.size w wr) (fun i _ => n - (intOf i).toNat)
  case atStart => exact ⟨0, Nat.zero_le _, rfl, Below.refl _ _⟩
  case round =>
    obtain ⟨t, ht, rfl, hb⟩ := hrel
    have HB := Lib.hid hb
    by_cases hlt : t < n
    · have hlt' : (t : Int) < (n : Int) := by omega
      obtain ⟨x, hx⟩ : ∃ x, L[t]? = some x := ⟨_, List.getElem?_eq_getElem (by rw [HN.out]; exact hlt)⟩
      obtain ⟨g1, o1, rfl, hg1, hc1⟩ := FA.out (by omega)
      obtain ⟨g2, o2, rfl, hg2, hc2⟩ := FB.out (by omega)
      have d1 := (hb.cell (p := ⟨g1, o1 + t, none⟩) hg1).trans (hc1 t x hx)
      have d2 := (hb.cell (p := ⟨g2, o2 + t, none⟩) hg2).trans (hc2 t x hx)
      clear hb hx hc1 hc2
      have t2 : (x != x) = false := by simp
      go_wp2
      go_quiet (fail)
      go_wp2
      exact ⟨⟨t + 1, by omega, by go_num, below_dn HB.out _⟩, by simp [intOf]; omega⟩
    · clear hb
      go_wp2
      go_ret
      exact ⟨rfl, HB.out⟩

/-- the call's struct, as the law holds it -/
def Cl (w : World) (b : Nat) (x0 x1 x2 x3 : Int) : Prop := w.heap[b]? = some (.cells #[.int .i64 x0, .int .i64 x1, .int .i64 x2, .int .i64 x3] 35 (0, 0))
theorem Cl.lt {w : World} {b : Nat} {x0 x1 x2 x3 : Int} (h : Cl w b x0 x1 x2 x3) : b < w.heap.size := lt_of_heap h
theorem Cl.cells {w : World} {b : Nat} {x0 x1 x2 x3 : Int} (h : Cl w b x0 x1 x2 x3) : w.cell? ⟨b, 0, none⟩ = some (.int .i64 x0) ∧ w.cell? ⟨b, 1, none⟩ = some (.int .i64 x1) ∧ w.cell? ⟨b, 2, none⟩ = some (.int .i64 x2) ∧ w.cell? ⟨b, 3, none⟩ = some (.int .i64 x3) := by
  rw [cell_of_row w b _ _ 35 (0, 0) h, cell_of_row w b _ _ 35 (0, 0) h, cell_of_row w b _ _ 35 (0, 0) h, cell_of_row w b _ _ 35 (0, 0) h]
  exact ⟨rfl, rfl, rfl, rfl⟩

section
variable {w w' : World} {a g : Nat} {q : Nat → Nat} {S T : St} {m gk go gq : Nat} {r : Nat → Nat} {N : Int → Int}
theorem mx_keep (h : Mx w a g q S) (f : Rx w m gk go gq r T N) (k : OnS (Zd m go r T.n) w w') : Mx w' a g q S := h.keep fun b hb => by
  have hz : ∀ (cs : Array Value) (e : TypeId) (fr : Nat × Nat), w.heap[b]? = some (.cells cs e fr) → e ≠ 74 → e ≠ 3 → e ≠ 79 → w'.heap[b]? = w.heap[b]? := fun cs e fr hh h1 h2 h3 => k.block b (lt_of_heap hh) (f.nz hh h1 h2 h3)
  rcases hb with rfl | ⟨h0, rfl⟩ | ⟨i, hi, rfl⟩
  · obtain ⟨cs, _, _, h1, _⟩ := h.ha; exact hz _ _ _ h1 (by decide) (by decide) (by decide)
  · obtain ⟨cs, h1, _⟩ := h.hg h0; exact hz _ _ _ h1 (by decide) (by decide) (by decide)
  · obtain ⟨cs, h1⟩ := ln_cells (h.hl i hi); exact hz _ _ _ h1 (by decide) (by decide) (by decide)
theorem rx_keep (f : Rx w m gk go gq r T N) (h : Mx w a g q S) (k : OnS (Zp a g q S.n) w w') : Rx w' m gk go gq r T N := f.keep fun b cs e hh he => k.block b (lt_of_heap hh) (by
  rcases he with ⟨_, rfl⟩ | rfl | ⟨_, _, rfl⟩ | rfl | rfl | ⟨_, rfl⟩
  all_goals exact h.nz hh (by decide) (by decide) (by decide))
theorem rd_keep (f : Rd w m gk go gq r T) (h : Mx w a g q S) (k : OnS (Zp a g q S.n) w w') : Rd w' m gk go gq r T := by obtain ⟨N, h1, h2⟩ := f; exact ⟨N, rx_keep h1 h k, h2⟩
end

/-- both, and the call's struct -/
structure Pl (w : World) (b : Nat) (x0 x1 x2 x3 : Int) (a g : Nat) (q : Nat → Nat) (S : St) (m gk go gq : Nat) (r : Nat → Nat) (T : St) (W : World) : Prop where
  at_ : At w a g q S W
  rd : Rd W m gk go gq r T
  ft : Fine T
  cl : Cl W b x0 x1 x2 x3
  zd : ∀ k, Zd m go r T.n k → w.heap.size ≤ k

section
variable {w W W' : World} {a b g m gk go gq : Nat} {q r : Nat → Nat} {x0 x1 x2 x3 : Int} {S S' T T' : St}

theorem Pl.below (h : Pl w b x0 x1 x2 x3 a g q S m gk go gq r T W) (k : Below W.heap.size W W') : Pl w b x0 x1 x2 x3 a g q S m gk go gq r T W' :=
  ⟨h.at_.below k, h.rd.below k, h.ft, (k.block b h.cl.lt).trans h.cl, h.zd⟩
theorem Pl.drew (h : Pl w b x0 x1 x2 x3 a g q S m gk go gq r T W) : Pl w b x0 x1 x2 x3 a g q S m gk go gq r T W.drew := h.below (below_drewN W 1)
/-- the program's turned -/
theorem Pl.turnP (h : Pl w b x0 x1 x2 x3 a g q S m gk go gq r T W) (d : Did W a g q S.n S' W') (f : Fine S') (hn : S'.n = S.n) : Pl w b x0 x1 x2 x3 a g q S' m gk go gq r T W' :=
  ⟨h.at_.go d f hn, rd_keep h.rd h.at_.x d.2, h.ft, (d.2.block b h.cl.lt (h.at_.x.nz h.cl (by decide) (by decide) (by decide))).trans h.cl, h.zd⟩
/-- the document's turned -/
theorem Pl.turnD (h : Pl w b x0 x1 x2 x3 a g q S m gk go gq r T W) (d : DidR W m gk go gq r T.n T' W') (f : Fine T') (hn : T'.n = T.n) : Pl w b x0 x1 x2 x3 a g q S m gk go gq r T' W' := by
  obtain ⟨N, hx, hN⟩ := h.rd
  refine ⟨⟨h.at_.ga, h.at_.gg, h.at_.gq, mx_keep h.at_.x hx d.2, h.at_.f, h.at_.b.trans (d.2.below h.at_.b.size h.zd)⟩, d.1, f, ?_, fun k hk => h.zd k (by rw [hn] at hk; exact hk)⟩
  exact (d.2.block b h.cl.lt (hx.nz h.cl (by decide) (by decide) (by decide))).trans h.cl
end

/-! ### the law's same -/
theorem wait_in {S : St} {i : Nat} (hi : i < S.n) : wait S ((i : Int) + 1) = (S.Q i).map Prod.fst := by
  have hm : isM S ((i : Int) + 1) := by unfold isM; omega
  unfold wait
  rw [if_pos hm, show ix ((i : Int) + 1) = i by unfold ix; omega]
theorem owns_in {S : St} {i : Nat} (hi : i < S.n) : owns S ((i : Int) + 1) = S.O i := by
  have hm : isM S ((i : Int) + 1) := by unfold isM; omega
  unfold owns
  rw [if_pos hm, show ix ((i : Int) + 1) = i by unfold ix; omega]
theorem wait_out {S : St} {x : Int} (h : ¬ isM S x) : wait S x = [] ∧ owns S x = 0 := by unfold wait owns; rw [if_neg h, if_neg h]; exact ⟨rfl, rfl⟩

/-! ### each call, on either side -/
section
variable {w W : World} {a b g m gk go gq : Nat} {q r : Nat → Nat} {x0 x1 x2 x3 : Int} {S S' T T' : St}
theorem lock_p {o : Bool} {c : Int} (h : Pl w b x0 x1 x2 x3 a g q S m gk go gq r T W) (hs : lockL S x1 x2 = (S', o, c)) : Calls Try.prog 14 #[PtrV a, .int .i64 x1, .int .i64 x2] W fun e W' => e = .returned (.tuple #[.bool o, .int .i64 c]) ∧ Pl w b x0 x1 x2 x3 a g q S' m gk go gq r T W' := by
  refine (lock_any a g q S S' x1 x2 c o W h.at_.x h.at_.f hs).mono ?_
  rintro e W' ⟨rfl, d⟩
  have e1 : (lockL S x1 x2).1 = S' := by rw [hs]
  exact ⟨rfl, h.turnP d (e1 ▸ h.at_.f.lockL x1 x2) (e1 ▸ lockL_n S x1 x2)⟩
theorem lock_d {o : Bool} {c : Int} (h : Pl w b x0 x1 x2 x3 a g q S m gk go gq r T W) (hs : lockL T x1 x2 = (T', o, c)) : Calls Try.prog 15 #[PtrV m, .int .i64 x1, .int .i64 x2] W fun e W' => e = .returned (.tuple #[.bool o, .int .i64 c]) ∧ Pl w b x0 x1 x2 x3 a g q S m gk go gq r T' W' := by
  refine (rlock_any m gk go gq r T T' x1 x2 c o W h.rd h.ft hs).mono ?_
  rintro e W' ⟨rfl, d⟩
  have e1 : (lockL T x1 x2).1 = T' := by rw [hs]
  exact ⟨rfl, h.turnD d (e1 ▸ h.ft.lockL x1 x2) (e1 ▸ lockL_n T x1 x2)⟩
theorem try_p {o : Bool} {c : Int} (h : Pl w b x0 x1 x2 x3 a g q S m gk go gq r T W) (hs : tryL S x1 x2 = (S', o, c)) : Calls Try.prog 16 #[PtrV a, .int .i64 x1, .int .i64 x2] W fun e W' => e = .returned (.tuple #[.bool o, .int .i64 c]) ∧ Pl w b x0 x1 x2 x3 a g q S' m gk go gq r T W' := by
  refine (try_any a g q S S' x1 x2 c o W h.at_.x h.at_.f hs).mono ?_
  rintro e W' ⟨rfl, d⟩
  have e1 : (tryL S x1 x2).1 = S' := by rw [hs]
  exact ⟨rfl, h.turnP d (e1 ▸ h.at_.f.tryL x1 x2) (e1 ▸ tryL_n S x1 x2)⟩
theorem try_d {o : Bool} {c : Int} (h : Pl w b x0 x1 x2 x3 a g q S m gk go gq r T W) (hs : tryL T x1 x2 = (T', o, c)) : Calls Try.prog 17 #[PtrV m, .int .i64 x1, .int .i64 x2] W fun e W' => e = .returned (.tuple #[.bool o, .int .i64 c]) ∧ Pl w b x0 x1 x2 x3 a g q S m gk go gq r T' W' := by
  refine (rtrylock_any m gk go gq r T T' x1 x2 c o W h.rd h.ft hs).mono ?_
  rintro e W' ⟨rfl, d⟩
  have e1 : (tryL T x1 x2).1 = T' := by rw [hs]
  exact ⟨rfl, h.turnD d (e1 ▸ h.ft.tryL x1 x2) (e1 ▸ tryL_n T x1 x2)⟩
theorem unlk_p {y : Int} {c : Int} (h : Pl w b x0 x1 x2 x3 a g q S m gk go gq r T W) (hs : unlk S x1 x2 = (S', y, c)) : Calls Try.prog 18 #[PtrV a, .int .i64 x1, .int .i64 x2] W fun e W' => e = .returned (.tuple #[.int .i64 y, .int .i64 c]) ∧ Pl w b x0 x1 x2 x3 a g q S' m gk go gq r T W' := by
  refine (unlock_any a g q S S' x1 x2 y c W h.at_.x h.at_.f hs).mono ?_
  rintro e W' ⟨rfl, d⟩
  have e1 : (unlk S x1 x2).1 = S' := by rw [hs]
  exact ⟨rfl, h.turnP d (e1 ▸ h.at_.f.unlk x1 x2) (e1 ▸ unlk_n S x1 x2)⟩
theorem unlk_d {y : Int} {c : Int} (h : Pl w b x0 x1 x2 x3 a g q S m gk go gq r T W) (hs : unlk T x1 x2 = (T', y, c)) : Calls Try.prog 19 #[PtrV m, .int .i64 x1, .int .i64 x2] W fun e W' => e = .returned (.tuple #[.int .i64 y, .int .i64 c]) ∧ Pl w b x0 x1 x2 x3 a g q S m gk go gq r T' W' := by
  refine (runlock_any m gk go gq r T T' x1 x2 y c W h.rd h.ft hs).mono ?_
  rintro e W' ⟨rfl, d⟩
  have e1 : (unlk T x1 x2).1 = T' := by rw [hs]
  exact ⟨rfl, h.turnD d (e1 ▸ h.ft.unlk x1 x2) (e1 ▸ unlk_n T x1 x2)⟩
theorem sbase_p {c : Int} (h : Pl w b x0 x1 x2 x3 a g q S m gk go gq r T W) (hs : sbase S x2 x3 = (S', c)) : Calls Try.prog 20 #[PtrV a, .int .i64 x2, .int .i64 x3] W fun e W' => e = .returned (.int .i64 c) ∧ Pl w b x0 x1 x2 x3 a g q S' m gk go gq r T W' := by
  refine (sbase_any a g q S S' x2 x3 c W h.at_.x h.at_.f hs).mono ?_
  rintro e W' ⟨rfl, d⟩
  have e1 : (sbase S x2 x3).1 = S' := by rw [hs]
  exact ⟨rfl, h.turnP d (e1 ▸ h.at_.f.sbase x2 x3) (e1 ▸ sbase_n S x2 x3)⟩
theorem sbase_d {c : Int} (h : Pl w b x0 x1 x2 x3 a g q S m gk go gq r T W) (hs : sbase T x2 x3 = (T', c)) : Calls Try.prog 21 #[PtrV m, .int .i64 x2, .int .i64 x3] W fun e W' => e = .returned (.int .i64 c) ∧ Pl w b x0 x1 x2 x3 a g q S m gk go gq r T' W' := by
  refine (rsbase_any m gk go gq r T T' x2 x3 c W h.rd h.ft hs).mono ?_
  rintro e W' ⟨rfl, d⟩
  have e1 : (sbase T x2 x3).1 = T' := by rw [hs]
  exact ⟨rfl, h.turnD d (e1 ▸ h.ft.sbase x2 x3) (e1 ▸ sbase_n T x2 x3)⟩
theorem drp_p {o : Bool} (h : Pl w b x0 x1 x2 x3 a g q S m gk go gq r T W) (hs : drp S x2 = (S', o)) : Calls Try.prog 22 #[PtrV a, .int .i64 x2] W fun e W' => e = .returned (.bool o) ∧ Pl w b x0 x1 x2 x3 a g q S' m gk go gq r T W' := by
  refine (drop_any a g q S S' x2 o W h.at_.x h.at_.f hs).mono ?_
  rintro e W' ⟨rfl, d⟩
  have e1 : (drp S x2).1 = S' := by rw [hs]
  exact ⟨rfl, h.turnP d (e1 ▸ h.at_.f.drp x2) (e1 ▸ drp_n S x2)⟩
theorem drp_d {o : Bool} (h : Pl w b x0 x1 x2 x3 a g q S m gk go gq r T W) (hs : drp T x2 = (T', o)) : Calls Try.prog 23 #[PtrV m, .int .i64 x2] W fun e W' => e = .returned (.bool o) ∧ Pl w b x0 x1 x2 x3 a g q S m gk go gq r T' W' := by
  refine (rdrop_any m gk go gq r T T' x2 o W h.rd h.ft hs).mono ?_
  rintro e W' ⟨rfl, d⟩
  have e1 : (drp T x2).1 = T' := by rw [hs]
  exact ⟨rfl, h.turnD d (e1 ▸ h.ft.drp x2) (e1 ▸ drp_n T x2)⟩
theorem fre_p {L : List Int} (h : Pl w b x0 x1 x2 x3 a g q S m gk go gq r T W) (hs : fre S x2 = (S', L)) : Calls Try.prog 25 #[PtrV a, .int .i64 x2] W fun e W' => ∃ v, e = .returned v ∧ Ow W' W.heap.size v L ∧ Pl w b x0 x1 x2 x3 a g q S' m gk go gq r T W' := by
  refine (free_any a g q S x2 W h.at_.x h.at_.f).mono ?_
  rintro e W' ⟨v, rfl, ho, d⟩
  rw [hs] at ho d
  have e1 : (fre S x2).1 = S' := by rw [hs]
  exact ⟨v, rfl, ho, h.turnP d (e1 ▸ h.at_.f.fre x2) (e1 ▸ fre_n S x2)⟩
theorem fre_d {L : List Int} (h : Pl w b x0 x1 x2 x3 a g q S m gk go gq r T W) (hs : fre T x2 = (T', L)) {B : Nat} {v0 : Value} {M : List Int} (ho0 : Ow W B v0 M) (hz : ∀ k, Zd m go r T.n k → k < B) : Calls Try.prog 26 #[PtrV m, .int .i64 x2] W fun e W' => ∃ v, e = .returned v ∧ Nr W' v L ∧ Nr W' v0 M ∧ Pl w b x0 x1 x2 x3 a g q S m gk go gq r T' W' := by
  refine (rfree_any m gk go gq r T x2 W h.rd h.ft).mono ?_
  rintro e W' ⟨v, rfl, ho, d⟩
  rw [hs] at ho d
  have e1 : (fre T x2).1 = T' := by rw [hs]
  exact ⟨v, rfl, Nr.of_own ho, Nr.of_own (own_on ho0 d.2 hz), h.turnD d (e1 ▸ h.ft.fre x2) (e1 ▸ fre_n T x2)⟩
theorem Pl.zlt (h : Pl w b x0 x1 x2 x3 a g q S m gk go gq r T W) : ∀ k, Zd m go r T.n k → k < W.heap.size := fun k hk => by obtain ⟨N, hx, _⟩ := h.rd; exact hx.zlt hk
end
end Go.Proofs.Ytmicinenggkmlaa.mutexPlays
