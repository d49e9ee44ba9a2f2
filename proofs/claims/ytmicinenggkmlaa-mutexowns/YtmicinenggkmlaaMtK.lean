/- What the laws of package mtx use: the contracts with their world held below; known. -/
import Derived.Test.YtmicinenggkmlaaMtI
namespace Go.Proofs.Ytmicinenggkmlaa
open Go.RowKit
set_option linter.unusedVariables false
set_option maxRecDepth 100000

theorem tryL_n (S : St) (m t : Int) : (tryL S m t).1.n = S.n := by
  unfold tryL
  split
  · rfl
  · split
    · rfl
    · split
      · rfl
      · split <;> rfl
theorem lockL_n (S : St) (m t : Int) : (lockL S m t).1.n = S.n := by
  unfold lockL
  split
  · exact tryL_n S m t
  · split <;> rfl
theorem unlk_n (S : St) (m t : Int) : (unlk S m t).1.n = S.n := by
  unfold unlk
  split
  · rfl
  · split <;> rfl
theorem drp_n (S : St) (t : Int) : (drp S t).1.n = S.n := by unfold drp; split <;> rfl
theorem fre_n (S : St) (t : Int) : (fre S t).1.n = S.n := by
  unfold fre
  split
  · exact frk_n S t S.n
  · rfl
theorem sbase_n (S : St) (t p : Int) : (sbase S t p).1.n = S.n := by
  unfold sbase
  split
  · rfl
  · split
    · rfl
    · split <;> rfl

/-- mutexes that came behind w; what was there ahead of them is as it was in w -/
structure At (w : World) (a g : Nat) (q : Nat → Nat) (S : St) (w' : World) : Prop where
  ga : w.heap.size ≤ a
  gg : w.heap.size ≤ g
  gq : ∀ i, i < S.n → w.heap.size ≤ q i
  x : Mx w' a g q S
  f : Fine S
  b : Below w.heap.size w w'
section
variable {w w1 w2 : World} {a g : Nat} {q : Nat → Nat} {S S' : St}
theorem At.below (h : At w a g q S w1) (k : Below w1.heap.size w1 w2) : At w a g q S w2 :=
  ⟨h.ga, h.gg, h.gq, h.x.below k, h.f, h.b.trans (k.mono h.b.size)⟩
theorem At.drewN (h : At w a g q S w1) (m : Nat) : At w a g q S (w1.drewN m) := h.below (below_drewN w1 m)
theorem At.zb (h : At w a g q S w1) : ∀ k, Zp a g q S.n k → w.heap.size ≤ k := fun k hk => by
  rcases hk with rfl | ⟨_, rfl⟩ | ⟨i, hi, rfl⟩
  · exact h.ga
  · exact h.gg
  · exact h.gq i hi
theorem At.go (h : At w a g q S w1) (d : Did w1 a g q S.n S' w2) (f : Fine S') (hn : S'.n = S.n) : At w a g q S' w2 :=
  ⟨h.ga, h.gg, fun i hi => h.gq i (by rw [← hn]; exact hi), d.1, f, h.b.trans (d.2.below h.b.size h.zb)⟩

theorem lock_at {m t c : Int} {r : Bool} (h : At w a g q S w1) (hs : lockL S m t = (S', r, c)) :
    Calls Try.prog 14 #[PtrV a, .int .i64 m, .int .i64 t] w1 fun e w' => e = .returned (.tuple #[.bool r, .int .i64 c]) ∧ At w a g q S' w' := by
  refine (lock_any a g q S S' m t c r w1 h.x h.f hs).mono ?_
  rintro e w2 ⟨rfl, d⟩
  have e1 : (lockL S m t).1 = S' := by rw [hs]
  exact ⟨rfl, h.go d (e1 ▸ h.f.lockL m t) (e1 ▸ lockL_n S m t)⟩
theorem try_at {m t c : Int} {r : Bool} (h : At w a g q S w1) (hs : tryL S m t = (S', r, c)) :
    Calls Try.prog 16 #[PtrV a, .int .i64 m, .int .i64 t] w1 fun e w' => e = .returned (.tuple #[.bool r, .int .i64 c]) ∧ At w a g q S' w' := by
  refine (try_any a g q S S' m t c r w1 h.x h.f hs).mono ?_
  rintro e w2 ⟨rfl, d⟩
  have e1 : (tryL S m t).1 = S' := by rw [hs]
  exact ⟨rfl, h.go d (e1 ▸ h.f.tryL m t) (e1 ▸ tryL_n S m t)⟩
theorem unlock_at {m t r c : Int} (h : At w a g q S w1) (hs : unlk S m t = (S', r, c)) :
    Calls Try.prog 18 #[PtrV a, .int .i64 m, .int .i64 t] w1 fun e w' => e = .returned (.tuple #[.int .i64 r, .int .i64 c]) ∧ At w a g q S' w' := by
  refine (unlock_any a g q S S' m t r c w1 h.x h.f hs).mono ?_
  rintro e w2 ⟨rfl, d⟩
  have e1 : (unlk S m t).1 = S' := by rw [hs]
  exact ⟨rfl, h.go d (e1 ▸ h.f.unlk m t) (e1 ▸ unlk_n S m t)⟩
theorem drop_at {t : Int} {r : Bool} (h : At w a g q S w1) (hs : drp S t = (S', r)) :
    Calls Try.prog 22 #[PtrV a, .int .i64 t] w1 fun e w' => e = .returned (.bool r) ∧ At w a g q S' w' := by
  refine (drop_any a g q S S' t r w1 h.x h.f hs).mono ?_
  rintro e w2 ⟨rfl, d⟩
  have e1 : (drp S t).1 = S' := by rw [hs]
  exact ⟨rfl, h.go d (e1 ▸ h.f.drp t) (e1 ▸ drp_n S t)⟩
theorem sbase_at {t p c : Int} (h : At w a g q S w1) (hs : sbase S t p = (S', c)) :
    Calls Try.prog 20 #[PtrV a, .int .i64 t, .int .i64 p] w1 fun e w' => e = .returned (.int .i64 c) ∧ At w a g q S' w' := by
  refine (sbase_any a g q S S' t p c w1 h.x h.f hs).mono ?_
  rintro e w2 ⟨rfl, d⟩
  have e1 : (sbase S t p).1 = S' := by rw [hs]
  exact ⟨rfl, h.go d (e1 ▸ h.f.sbase t p) (e1 ▸ sbase_n S t p)⟩
theorem free_at {t : Int} {L : List Int} (h : At w a g q S w1) (hs : fre S t = (S', L)) :
    Calls Try.prog 25 #[PtrV a, .int .i64 t] w1 fun e w' => ∃ X k, e = .returned (.slice X L.length k) ∧ Ow w' w1.heap.size (.slice X L.length k) L ∧ At w a g q S' w' := by
  refine (free_any a g q S t w1 h.x h.f).mono ?_
  rintro e w2 ⟨v, rfl, ho, d⟩
  rw [hs] at ho d
  have e1 : (fre S t).1 = S' := by rw [hs]
  obtain ⟨X, k, rfl, _⟩ := K.own_form ho
  exact ⟨X, k, rfl, ho, h.go d (e1 ▸ h.f.fre t) (e1 ▸ fre_n S t)⟩
theorem held_at {t : Int} {L : List Int} (h : At w a g q S w1) (hs : held S t = L) :
    Calls Try.prog 32 #[PtrV a, .int .i64 t] w1 fun e w' => ∃ X k, e = .returned (.slice X L.length k) ∧ Ow w' w1.heap.size (.slice X L.length k) L ∧ Below w1.heap.size w1 w' := by
  subst hs
  refine (held_any a g q S t w1 h.x h.f.toFine0).mono ?_
  rintro e w2 ⟨v, rfl, ho, hb⟩
  obtain ⟨X, k, rfl, _⟩ := K.own_form ho
  exact ⟨X, k, rfl, ho, hb⟩
theorem waiting_at {m : Int} {L : List Int} (h : At w a g q S w1) (hs : wait S m = L) :
    Calls Try.prog 31 #[PtrV a, .int .i64 m] w1 fun e w' => ∃ X k, e = .returned (.slice X L.length k) ∧ Ow w' w1.heap.size (.slice X L.length k) L ∧ Below w1.heap.size w1 w' := by
  subst hs
  refine (waiting_any a g q S m w1 h.x h.f.toFine0).mono ?_
  rintro e w2 ⟨v, rfl, ho, hb⟩
  obtain ⟨X, k, rfl, _⟩ := K.own_form ho
  exact ⟨X, k, rfl, ho, hb⟩
theorem pri_at {t r : Int} (h : At w a g q S w1) (hr : pri S t = r) :
    Calls Try.prog 29 #[PtrV a, .int .i64 t] w1 fun e w' => e = .returned (.int .i64 r) ∧ Below w1.heap.size w1 w' := pri_any a g q S t w1 h.x h.f.toFine0 r hr
theorem base_at {t r : Int} (h : At w a g q S w1) (hr : bas S t = r) :
    Calls Try.prog 33 #[PtrV a, .int .i64 t] w1 fun e w' => e = .returned (.int .i64 r) ∧ w1 = w' := base_any a g q S t w1 h.x r hr
theorem owner_at {m r : Int} (h : At w a g q S w1) (hr : owns S m = r) :
    Calls Try.prog 30 #[PtrV a, .int .i64 m] w1 fun e w' => e = .returned (.int .i64 r) ∧ w1 = w' := owner_any a g q S m w1 h.x r hr
theorem twin_at (h : At w a g q S w1) :
    Calls Try.prog 27 #[PtrV a] w1 fun e w' => ∃ (a' g' : Nat) (q' : Nat → Nat), e = .returned (PtrV a') ∧ At w1 a' g' q' S w' := by
  refine (mtwin_any a g q S w1 h.x h.f.toFine0).mono ?_
  rintro e w2 ⟨a', g', q', rfl, hx, h1, h2, h3, hb⟩
  exact ⟨a', g', q', rfl, h1, h2, h3, hx, h.f, hb⟩
end
theorem kfine {L : List (Int × Int)} (h8 : L.length ≤ 8) (hk : ∀ x, x ∈ L → okK x.1 x.2) : Fine (St.new L.length (kA L) (kC L)) := by
  refine Fine.new h8 fun i hi => ?_
  obtain ⟨x, hx⟩ : ∃ x, L[i]? = some x := ⟨_, List.getElem?_eq_getElem hi⟩
  have h := hk x (List.mem_of_getElem? hx)
  rw [(kA_at hx).1, (kA_at hx).2]
  unfold okK at h
  split at h <;> omega
theorem new_at {w w1 : World} (X : Option Addr) (k n : Nat) (L : List (Int × Int)) (hn : L.length = n) (h8 : L.length ≤ 8) (hs : K.Sr K.ck w1 X k L) (hk : ∀ x, x ∈ L → okK x.1 x.2) (hb : Below w.heap.size w w1) :
    Calls Try.prog 11 #[.slice X n k] w1 fun e w' => ∃ (a g : Nat) (q : Nat → Nat), e = .returned (.tuple #[PtrV a, .int .i64 0]) ∧ At w a g q (St.new L.length (kA L) (kC L)) w' := by
  subst hn
  refine (new_any X k L w1 h8 (fun _ => hs)).mono ?_
  rintro e w2 ⟨hb2, ⟨⟨x, hx, hbad⟩, _⟩ | ⟨_, a, g, q, rfl, hx, h1, h2, h3⟩⟩
  · exact absurd (hk x hx) hbad
  · exact ⟨a, g, q, rfl, Nat.le_trans hb.size h1, Nat.le_trans hb.size h2, fun i hi => Nat.le_trans hb.size (h3 i hi), hx, kfine h8 hk, hb.trans (hb2.mono hb.size)⟩
/-- a row that a call makes by itself -/
theorem K.sr_lit {α : Type} (c : α → List Value) (w : World) (e : TypeId) (L : List α) (k : Nat) : K.Sr c (w.alloc (.cells (K.vals c L).toArray e)) (some ⟨w.heap.size, 0, none⟩) k L := by
  refine .inr ⟨w.heap.size, 0, rfl, lt_of_heap (heap_alloc_new w _), fun j u hu => ?_⟩
  rw [cell_of_row _ _ _ _ e (0, 0) (heap_alloc_new w _), Nat.zero_add, List.getElem?_toArray]
  exact hu

namespace knownS
def L0 : List (Int × Int) := [(2, 0), (3, 2)]
def s0 : St := St.new L0.length (kA L0) (kC L0)
def s1 : St := (sbase s0 1 9).1
def s2 : St := (sbase s1 2 4).1
def s3 : St := (lockL s2 1 1).1
def s4 : St := (lockL s3 1 2).1
def s5 : St := (unlk s4 1 1).1
def s6 : St := (tryL s5 2 1).1
theorem e1 : sbase s0 1 9 = (s1, 0) := Prod.ext rfl (by kernel_rfl)
theorem e2 : sbase s1 2 4 = (s2, 0) := Prod.ext rfl (by kernel_rfl)
theorem e3 : lockL s2 1 1 = (s3, true, 0) := Prod.ext rfl (by kernel_rfl)
theorem e4 : lockL s3 1 2 = (s4, false, 0) := Prod.ext rfl (by kernel_rfl)
theorem p4 : pri s4 1 = 4 := by kernel_rfl
theorem e5 : unlk s4 1 1 = (s5, 2, 0) := Prod.ext rfl (by kernel_rfl)
theorem unlk_bad {S : St} {m t : Int} (h : (unlk S m t).2 = (0, -28)) (hm : isM S m) (ht : isT t) : unlk S m t = (S, 0, -28) := by
  unfold unlk at h ⊢
  rw [if_neg (fun e => e ⟨hm, ht⟩)] at h ⊢
  split
  · rfl
  · rename_i c; rw [if_neg c] at h; simp at h
theorem e6 : unlk s5 1 1 = (s5, 0, -28) := unlk_bad (by kernel_rfl) (by unfold isM; exact ⟨by omega, by show (1 : Int) ≤ 2; omega⟩) (by unfold isT; omega)
theorem e7 : tryL s5 2 1 = (s6, true, 0) := Prod.ext rfl (by kernel_rfl)
theorem p6 : pri s6 1 = 2 := by kernel_rfl
theorem b6 : bas s6 1 = 9 := by kernel_rfl
theorem o6 : owns s6 1 = 2 := by kernel_rfl
theorem h6 : held s6 1 = [2] := by kernel_rfl
end knownS

open knownS in
set_option maxHeartbeats 3200000 in
theorem known_ok (w : World) : Calls Try.prog 10 #[] w fun e w' => e = .returned (.bool true) ∧ Below w.heap.size w w' := by
  have src := K.sr_lit K.ck w 55 L0 2
  rw [show (K.vals K.ck L0).toArray = #[.int .i64 2, .int .i64 0, .int .i64 3, .int .i64 2] from rfl] at src
  have hb0 : Below w.heap.size w (w.alloc (.cells #[.int .i64 2, .int .i64 0, .int .i64 3, .int .i64 2] 55)) := (Below.refl _ _).alloc (Nat.le_refl _) _
  go_enter Try.func10, Try.ntmps10
  go_wp2_with fail
  refine (new_at (w := w) (some ⟨w.heap.size, 0, none⟩) 2 2 L0 rfl (by decide) src (by decide) hb0).mono ?_
  rintro e w1 ⟨a, g, q, rfl, h1⟩
  clear src hb0
  go_wp2_with fail
  refine (sbase_at h1 e1).mono ?_
  rintro e w2 ⟨rfl, h2⟩
  clear h1
  go_wp2_with fail
  refine (sbase_at h2 e2).mono ?_
  rintro e w3 ⟨rfl, h3⟩
  clear h2
  go_wp2_with fail
  refine (lock_at h3 e3).mono ?_
  rintro e w4 ⟨rfl, h4⟩
  clear h3
  go_wp2_with fail
  refine (lock_at h4 e4).mono ?_
  rintro e w5 ⟨rfl, h5⟩
  clear h4
  go_wp2_with fail
  refine (pri_at h5 p4).mono ?_
  rintro e w6 ⟨rfl, hb6⟩
  have h6' := h5.below hb6
  clear h5 hb6
  go_wp2_with fail
  refine (unlock_at h6' e5).mono ?_
  rintro e w7 ⟨rfl, h7⟩
  clear h6'
  go_wp2_with fail
  refine (unlock_at h7 e6).mono ?_
  rintro e w8 ⟨rfl, h8⟩
  clear h7
  go_wp2_with fail
  refine (try_at h8 e7).mono ?_
  rintro e w9 ⟨rfl, h9⟩
  clear h8
  go_wp2_with fail
  refine (pri_at h9 p6).mono ?_
  rintro e w10 ⟨rfl, hb10⟩
  have h10 := h9.below hb10
  clear h9 hb10
  go_wp2_with fail
  refine (base_at h10 b6).mono ?_
  rintro e w11 ⟨rfl, rfl⟩
  go_wp2_with fail
  refine (owner_at h10 o6).mono ?_
  rintro e w11 ⟨rfl, rfl⟩
  go_wp2_with fail
  refine (held_at h10 h6).mono ?_
  rintro e w11 ⟨XH, kH, rfl, _, hb11⟩
  have HB := Lib.hid (h10.below hb11).b
  clear h10 hb11
  simp only [List.length_cons, List.length_nil]
  go_wp2
  go_ret
  exact ⟨rfl, HB.out⟩
end Go.Proofs.Ytmicinenggkmlaa
