/- The document's mutexes: New. -/
import Derived.Test.YtmicinenggkmlaaRmH
namespace Go.Proofs.Ytmicinenggkmlaa
open Go.RowKit
set_option linter.unusedVariables false
set_option maxRecDepth 100000

/-- half built: a holders, b queues -/
structure Hr (w : World) (B m : Nat) (vk vo vq : Value) (L : List (Int × Int)) (a b : Nat) (r : Nat → Nat) : Prop where
  hm : ∃ cs : Array Value, w.heap[m]? = some (.cells cs 74 (0, 0)) ∧ cs.size = 37 ∧ cs[0]? = some vk ∧ cs[1]? = some vo ∧ cs[2]? = some vq ∧ ∀ u : Nat, u < 34 → cs[3 + u]? = some (.int .i64 0)
  hk : w.ownsRow B 75 2 vk L.length (K.vals K.ck L)
  ho : w.ownsRow B 3 1 vo a (K.vals K.ci (List.replicate a 0))
  hq : w.ownsRow B 76 1 vq b (K.vals K.cp ((List.range b).map r))
  hr : ∀ i, i < b → Rq w (r i) (decide (kA L i ≠ 0)) [] ∧ B ≤ r i
  inj : ∀ i j, i < b → j < b → r i = r j → i = j
  bm : B ≤ m

section
variable {w w' : World} {B m : Nat} {vk vo vq : Value} {L : List (Int × Int)} {a b : Nat} {r : Nat → Nat}
theorem Hr.below (h : Hr w B m vk vo vq L a b r) (k : Below w.heap.size w w') : Hr w' B m vk vo vq L a b r := by
  obtain ⟨cs, h1, h2⟩ := h.hm
  exact ⟨⟨cs, (k.block m (lt_of_heap h1)).trans h1, h2⟩, K.own_below h.hk k, K.own_below h.ho k, K.own_below h.hq k, fun i hi => ⟨(h.hr i hi).1.below k, (h.hr i hi).2⟩, h.inj, h.bm⟩
theorem Hr.cell (h : Hr w B m vk vo vq L a b r) : w.cell? ⟨m, 0, none⟩ = some vk ∧ w.cell? ⟨m, 1, none⟩ = some vo ∧ w.cell? ⟨m, 2, none⟩ = some vq := by
  obtain ⟨cs, h1, h2, h3, h4, h5, h6⟩ := h.hm
  exact ⟨by rw [cell_of_row w m 0 cs 74 (0, 0) h1]; exact h3, by rw [cell_of_row w m 1 cs 74 (0, 0) h1]; exact h4, by rw [cell_of_row w m 2 cs 74 (0, 0) h1]; exact h5⟩
theorem Hr.fz (h : Hr w B m vk vo vq L a b r) (i : Nat) : w.frozen? ⟨m, i, none⟩ = false := by obtain ⟨cs, h1, _⟩ := h.hm; exact frozen_of_row w m i cs 74 h1
theorem keep_rq {w w' : World} {q : Nat} {b : Bool} {L : List It} (h : Rq w q b L) (k : ∀ (g : Nat) (cs : Array Value) (e : TypeId), w.heap[g]? = some (.cells cs e (0, 0)) → e = 79 ∨ e = 95 → w'.heap[g]? = w.heap[g]?) : Rq w' q b L :=
  h.keepB fun g cs e hg he => k g cs e hg (by rcases he with ⟨_, h⟩ | h; exact .inl h; exact .inr h)
/-- one holder more -/
theorem Hr.stepO (h : Hr w B m vk vo vq L a b r) {X : Option Addr} {n k : Nat} (hg : w.grownBy w' vo.ownBlock) (ho : w'.ownsRow B 3 1 (.slice X n k) (a + 1) (K.vals K.ci (List.replicate a 0 ++ [0]))) :
    Hr (w'.setCell ⟨m, 1, none⟩ (.slice X n k)) B m vk (.slice X n k) vq L (a + 1) b r := by
  obtain ⟨cs, h1, h2, h3, h4, h5, h6⟩ := h.hm
  have k1 : ∀ (g : Nat) (cs : Array Value) (e : TypeId), w.heap[g]? = some (.cells cs e (0, 0)) → e ≠ 3 → w'.heap[g]? = w.heap[g]? := fun g cs e hh he => hg.block g (lt_of_heap hh) (Ne.symm (own_ne h.ho hh he))
  have hm' := (k1 m cs 74 h1 (by decide)).trans h1
  have k2 : ∀ (g : Nat) (cs : Array Value) (e : TypeId), w.heap[g]? = some (.cells cs e (0, 0)) → e ≠ 3 → e ≠ 74 → (w'.setCell ⟨m, 1, none⟩ (.slice X n k)).heap[g]? = w.heap[g]? := fun g cs e hh he h74 => (set_keep (by rintro rfl; exact h74 (htype hh h1))).trans (k1 g cs e hh he)
  refine ⟨⟨cs.setIfInBounds 1 (.slice X n k), heap_setCell_same w' m 1 cs 74 _ hm', by simpa using h2, by rw [Array.getElem?_setIfInBounds_ne (by omega)]; exact h3, Array.getElem?_setIfInBounds_self_of_lt (by omega), by rw [Array.getElem?_setIfInBounds_ne (by omega)]; exact h5, fun u hu => by rw [Array.getElem?_setIfInBounds_ne (by omega)]; exact h6 u hu⟩, ?_, ?_, ?_, fun i hi => ⟨keep_rq (h.hr i hi).1 fun g cs e hh he => k2 g cs e hh (by rcases he with rfl | rfl <;> decide) (by rcases he with rfl | rfl <;> decide), (h.hr i hi).2⟩, h.inj, h.bm⟩
  · exact K.own_keep h.hk fun g cs hh _ => k2 g cs _ hh (by decide) (by decide)
  · rw [List.replicate_succ']
    exact K.own_keep ho fun g cs hh _ => set_keep (by rintro rfl; rw [hm'] at hh; injection hh with hh; injection hh with _ hh; cases hh)
  · exact K.own_keep h.hq fun g cs hh _ => k2 g cs _ hh (by decide) (by decide)
theorem range_upd (r : Nat → Nat) (b p : Nat) : (List.range (b + 1)).map (upd r b p) = (List.range b).map r ++ [p] := by
  rw [List.range_succ, List.map_append]
  congr 1
  · apply List.map_congr_left
    intro j hj
    rw [List.mem_range] at hj
    rw [upd_ne _ _ (by omega)]
  · simp only [List.map_cons, List.map_nil, upd_at]
/-- one queue more -/
theorem Hr.stepQ (h : Hr w B m vk vo vq L a b r) {p : Nat} (hp : Rq w p (decide (kA L b ≠ 0)) []) (hpB : B ≤ p) (hne : ∀ i, i < b → r i ≠ p) {X : Option Addr} {n k : Nat} (hg : w.grownBy w' vq.ownBlock) (ho : w'.ownsRow B 76 1 (.slice X n k) (b + 1) (K.vals K.cp ((List.range b).map r ++ [p]))) :
    Hr (w'.setCell ⟨m, 2, none⟩ (.slice X n k)) B m vk vo (.slice X n k) L a (b + 1) (upd r b p) := by
  obtain ⟨cs, h1, h2, h3, h4, h5, h6⟩ := h.hm
  have k1 : ∀ (g : Nat) (cs : Array Value) (e : TypeId), w.heap[g]? = some (.cells cs e (0, 0)) → e ≠ 76 → w'.heap[g]? = w.heap[g]? := fun g cs e hh he => hg.block g (lt_of_heap hh) (Ne.symm (own_ne h.hq hh he))
  have hm' := (k1 m cs 74 h1 (by decide)).trans h1
  have k2 : ∀ (g : Nat) (cs : Array Value) (e : TypeId), w.heap[g]? = some (.cells cs e (0, 0)) → e ≠ 76 → e ≠ 74 → (w'.setCell ⟨m, 2, none⟩ (.slice X n k)).heap[g]? = w.heap[g]? := fun g cs e hh he h74 => (set_keep (by rintro rfl; exact h74 (htype hh h1))).trans (k1 g cs e hh he)
  refine ⟨⟨cs.setIfInBounds 2 (.slice X n k), heap_setCell_same w' m 2 cs 74 _ hm', by simpa using h2, by rw [Array.getElem?_setIfInBounds_ne (by omega)]; exact h3, by rw [Array.getElem?_setIfInBounds_ne (by omega)]; exact h4, Array.getElem?_setIfInBounds_self_of_lt (by omega), fun u hu => by rw [Array.getElem?_setIfInBounds_ne (by omega)]; exact h6 u hu⟩, ?_, ?_, ?_, fun i hi => ?_, fun i j hi hj e => ?_, h.bm⟩
  · exact K.own_keep h.hk fun g cs hh _ => k2 g cs _ hh (by decide) (by decide)
  · exact K.own_keep h.ho fun g cs hh _ => k2 g cs _ hh (by decide) (by decide)
  · rw [range_upd]
    exact K.own_keep ho fun g cs hh _ => set_keep (by rintro rfl; rw [hm'] at hh; injection hh with hh; injection hh with _ hh; cases hh)
  · have kq : ∀ (g : Nat) (cs : Array Value) (e : TypeId), w.heap[g]? = some (.cells cs e (0, 0)) → e = 79 ∨ e = 95 → (w'.setCell ⟨m, 2, none⟩ (.slice X n k)).heap[g]? = w.heap[g]? := fun g cs e hh he => k2 g cs e hh (by rcases he with rfl | rfl <;> decide) (by rcases he with rfl | rfl <;> decide)
    by_cases c : i = b
    · subst c
      rw [upd_at]
      exact ⟨keep_rq hp kq, hpB⟩
    · rw [upd_ne _ _ c]
      exact ⟨keep_rq (h.hr i (by omega)).1 kq, (h.hr i (by omega)).2⟩
  · by_cases c : i = b <;> by_cases d : j = b
    · omega
    · subst c
      rw [upd_at, upd_ne _ _ d] at e
      exact absurd e.symm (hne j (by omega))
    · subst d
      rw [upd_at, upd_ne _ _ c] at e
      exact absurd e (hne i (by omega))
    · rw [upd_ne _ _ c, upd_ne _ _ d] at e
      exact h.inj i j (by omega) (by omega) e
end
theorem gk_new (n : Nat) (A C : Nat → Int) (f : Int → Int) {t : Int} (ht : t ≠ 0) : ∀ k, gk (St.new n A C) f t k = 16
  | 0 => rfl
  | k + 1 => by
    unfold gk
    rw [if_neg (fun e => ht (by have : (0 : Int) = t := e; exact this.symm))]
    exact gk_new n A C f ht k
theorem P_new (n : Nat) (A C : Nat → Int) {t : Int} (ht : isT t) : P (St.new n A C) t = 16 := by
  show gk (St.new n A C) _ t _ = 16
  exact gk_new n A C _ (by unfold isT at ht; omega) _
/-- built -/
theorem Hr.rd {w w' : World} {B m : Nat} {vk vo vq : Value} {L : List (Int × Int)} {r : Nat → Nat} (h : Hr w B m vk vo vq L L.length L.length r) (k : Only m w w') {cs : Array Value} (h1 : w'.heap[m]? = some (.cells cs 74 (0, 0))) (h2 : cs.size = 37) (h3 : cs[0]? = some vk) (h4 : cs[1]? = some vo) (h5 : cs[2]? = some vq)
    (h6 : ∀ u : Nat, u < 17 → cs[3 + u]? = some (.int .i64 (if u = 0 then 0 else 16))) (h7 : ∀ u : Nat, u < 17 → cs[20 + u]? = some (.int .i64 (if u = 0 then 0 else 16))) :
    ∃ gk go gq, Rd w' m gk go gq r (St.new L.length (kA L) (kC L)) ∧ B ≤ m ∧ B ≤ go ∧ ∀ i, i < L.length → B ≤ r i := by
  obtain ⟨cs0, g1, _⟩ := h.hm
  have ht : ∀ (b : Nat) (cs : Array Value) (e : TypeId), w.heap[b]? = some (.cells cs e (0, 0)) → e ≠ 74 → w'.heap[b]? = w.heap[b]? := fun b cs e hb he => k.block b (lt_of_heap hb) (by
    rintro rfl; exact he (htype hb g1))
  obtain ⟨XK, kK, rfl, _⟩ := K.own_form h.hk
  obtain ⟨XO, kO, rfl, _⟩ := K.own_form h.ho
  obtain ⟨XQ, kQ, rfl, _⟩ := K.own_form h.hq
  by_cases c : 0 < L.length
  · obtain ⟨gk, ck, rfl, b1, hk1, hk2⟩ := K.own_at c h.hk
    obtain ⟨go, co, rfl, b2, ho1, ho2⟩ := K.own_at c h.ho
    obtain ⟨gq, cq, rfl, b3, hq1, hq2⟩ := K.own_at c h.hq
    refine ⟨gk, go, gq, ⟨fun _ => 16, ⟨⟨cs, _, _, _, kK, kO, kQ, h1, h2, h3, h4, h5, fun _ => ⟨rfl, rfl, rfl⟩, h6, h7⟩, fun _ => ⟨ck, (ht _ _ _ hk1 (by decide)).trans hk1, fun i hi => ?_⟩, fun _ => ⟨co, (ht _ _ _ ho1 (by decide)).trans ho1, fun i hi => ?_⟩, fun _ => ⟨cq, (ht _ _ _ hq1 (by decide)).trans hq1, fun i hi => ?_⟩, fun i hi => ?_, h.inj⟩, fun t ht => (P_new _ _ _ ht).symm⟩, h.bm, b2, fun i hi => (h.hr i hi).2⟩
    · have hi' : i < L.length := hi
      obtain ⟨x, hx⟩ : ∃ x, L[i]? = some x := ⟨_, List.getElem?_eq_getElem hi'⟩
      have hv := fun q (hq : q < 2) => K.vals_get (c := K.ck) (z := 2) (fun _ => rfl) L i q x hq hx
      show ck[i * 2]? = some (.int .i64 (kA L i)) ∧ ck[i * 2 + 1]? = some (.int .i64 (kC L i))
      rw [(kA_at hx).1, (kA_at hx).2]
      exact ⟨hk2 (i * 2) _ (by have := hv 0 (by omega); rw [Nat.add_zero] at this; exact this), hk2 _ _ (hv 1 (by omega))⟩
    · have hi' : i < L.length := hi
      exact ho2 i _ (by rw [K.vals_ci, List.getElem?_map, List.getElem?_replicate, if_pos hi']; rfl)
    · have hi' : i < L.length := hi
      have hv := K.vals_get (c := K.cp) (z := 1) (fun _ => rfl) ((List.range L.length).map r) i 0 (r i) (by omega) (by rw [List.getElem?_map, List.getElem?_range hi']; rfl)
      rw [Nat.mul_one, Nat.add_zero] at hv
      exact hq2 i _ hv
    · exact keep_rq (h.hr i hi).1 fun g cs e hh he => ht g cs e hh (by rcases he with rfl | rfl <;> decide)
  · refine ⟨m, m, m, ⟨fun _ => 16, ⟨⟨cs, XK, XO, XQ, kK, kO, kQ, h1, h2, h3, h4, h5, fun h0 => absurd h0 c, h6, h7⟩, fun h0 => absurd h0 c, fun h0 => absurd h0 c, fun h0 => absurd h0 c, fun i hi => absurd (Nat.lt_of_le_of_lt (Nat.zero_le _) hi) c, h.inj⟩, fun t ht => (P_new _ _ _ ht).symm⟩, h.bm, h.bm, fun i hi => (h.hr i hi).2⟩

set_option maxHeartbeats 1600000 in
theorem rnew_few (X : Option Addr) (k : Nat) (n : Nat) (w : World) (h8 : 8 < n) (hl : n ≤ 9223372036854775807) :
    Calls Try.prog 12 #[.slice X n k] w fun e w' => e = .returned (.tuple #[.pointer none, .int .i64 (-17)]) ∧ w = w' := by
  have t1 : decide ((8 : Int) < (n : Int)) = true := by simp; omega
  have t2 : (8 : Int) < (n : Int) := by omega
  go_enter Try.func12, Try.ntmps12
  go_wp2
  go_ret2
  exact ⟨rfl, rfl⟩

def badK (L : List (Int × Int)) : Prop := ∃ x, x ∈ L ∧ ¬ okK x.1 x.2
def allK (L : List (Int × Int)) : Prop := ∀ x, x ∈ L → okK x.1 x.2
def zero74 (X : Option Addr) (n k : Nat) : Array Value := #[.slice X n k, .slice none 0 0, .slice none 0 0, .int .i64 0, .int .i64 0, .int .i64 0, .int .i64 0, .int .i64 0, .int .i64 0, .int .i64 0, .int .i64 0, .int .i64 0, .int .i64 0, .int .i64 0, .int .i64 0, .int .i64 0, .int .i64 0, .int .i64 0, .int .i64 0, .int .i64 0, .int .i64 0, .int .i64 0, .int .i64 0, .int .i64 0, .int .i64 0, .int .i64 0, .int .i64 0, .int .i64 0, .int .i64 0, .int .i64 0, .int .i64 0, .int .i64 0, .int .i64 0, .int .i64 0, .int .i64 0, .int .i64 0, .int .i64 0]
theorem zero74_at {X : Option Addr} {n k u : Nat} (h : u < 34) : (zero74 X n k)[3 + u]? = some (.int .i64 0) := by
  have : u = 0 ∨ u = 1 ∨ u = 2 ∨ u = 3 ∨ u = 4 ∨ u = 5 ∨ u = 6 ∨ u = 7 ∨ u = 8 ∨ u = 9 ∨ u = 10 ∨ u = 11 ∨ u = 12 ∨ u = 13 ∨ u = 14 ∨ u = 15 ∨ u = 16 ∨ u = 17 ∨ u = 18 ∨ u = 19 ∨ u = 20 ∨ u = 21 ∨ u = 22 ∨ u = 23 ∨ u = 24 ∨ u = 25 ∨ u = 26 ∨ u = 27 ∨ u = 28 ∨ u = 29 ∨ u = 30 ∨ u = 31 ∨ u = 32 ∨ u = 33 := by omega
  rcases this with rfl | rfl | rfl | rfl | rfl | rfl | rfl | rfl | rfl | rfl | rfl | rfl | rfl | rfl | rfl | rfl | rfl | rfl | rfl | rfl | rfl | rfl | rfl | rfl | rfl | rfl | rfl | rfl | rfl | rfl | rfl | rfl | rfl | rfl <;> rfl

set_option maxHeartbeats 6400000 in
theorem rnew_any (v0 : Value) (L : List (Int × Int)) (w : World) (B0 : Nat) (h8 : L.length ≤ 8) (hs : w.ownsRow B0 75 2 v0 L.length (K.vals K.ck L)) :
    Calls Try.prog 12 #[v0] w fun e w' => Below w.heap.size w w' ∧ (badK L ∧ e = .returned (.tuple #[.pointer none, .int .i64 (-17)]) ∨
      allK L ∧ ∃ (m gk go gq : Nat) (r : Nat → Nat), e = .returned (.tuple #[PtrV m, .int .i64 0]) ∧ Rd w' m gk go gq r (St.new L.length (kA L) (kC L)) ∧ w.heap.size ≤ m ∧ w.heap.size ≤ go ∧ ∀ i, i < L.length → w.heap.size ≤ r i) := by
  obtain ⟨X, k, rfl, hk1, hk2⟩ := K.own_form hs
  have hsrc := K.own_src rfl hs
  obtain ⟨n, hn⟩ : ∃ n, L.length = n := ⟨_, rfl⟩
  have HN := Lib.hid hn
  have HSR := Lib.hid hsrc
  obtain ⟨wa, hwa⟩ : ∃ wa, w.alloc (.cells #[] 75) = wa := ⟨_, rfl⟩
  have hba : Below w.heap.size w wa := by rw [← hwa]; exact (Below.refl _ _).alloc (Nat.le_refl _) _
  have hown0 : wa.ownsRow w.heap.size 75 2 (.slice (some ⟨w.heap.size, 0, none⟩) 0 0) 0 (K.vals K.ck []) := by rw [← hwa]; exact World.ownsRow_lit w #[] 0 (Nat.le_refl _) (by unfold maxLen; omega) rfl
  have srca := hsrc.below hba
  have HBA := Lib.hid hba
  rw [hn] at h8 ⊢
  have b2 : 0 + n ≤ 100000 := by omega
  have HSA := Lib.hid hba.size
  clear hn hs hsrc hba hk1
  go_enter Try.func12, Try.ntmps12
  go_wp2_with (first
    | (refine K.wpList_append_row K.kr (by decide) rfl _ _ rfl w.heap.size _ [] L 0 rfl rfl hown0 X n k rfl HN.out srca b2 HSA.out n (Nat.zero_add _) ?_
       intro X7 k7 w7 hown7 hgr7
       have HO7 := Lib.hid hown7
       have HB7 := Lib.hid (HBA.out.grown hgr7 HSA.out (fun q hq => (hown0.lt q hq).1))
       clear hown7 hgr7))
  have hb8' : Below w.heap.size w (w7.alloc (.cells (zero74 X7 n k7) 74)) := HB7.out.alloc HB7.out.size _
  have hm0 : (w7.alloc (.cells (zero74 X7 n k7) 74)).heap[w7.heap.size]? = some (.cells (zero74 X7 n k7) 74 (0, 0)) := heap_alloc_new w7 _
  have hrow0 : (w7.alloc (.cells (zero74 X7 n k7) 74)).ownsRow w.heap.size 75 2 (.slice X7 n k7) n (K.vals K.ck L) := K.own_below HO7.out ((Below.refl _ _).alloc (Nat.le_refl _) _)
  change Code.wp _ _ _ _ (w7.alloc (.cells (zero74 X7 n k7) 74))
  generalize w7.alloc (.cells (zero74 X7 n k7) 74) = w6 at *
  obtain ⟨m, hm⟩ : ∃ m, w7.heap.size = m := ⟨_, rfl⟩
  have HM := Lib.hid (show w.heap.size ≤ m by rw [← hm]; exact HB7.out.size)
  rw [hm] at hm0 ⊢
  have hh0 : Hr w6 w.heap.size m (.slice X7 n k7) (.slice none 0 0) (.slice none 0 0) L 0 0 (fun _ => 0) := ⟨⟨_, hm0, rfl, rfl, rfl, rfl, fun u hu => zero74_at hu⟩, by rw [HN.out]; exact hrow0, ⟨rfl, .inl ⟨rfl, rfl⟩⟩, ⟨rfl, .inl ⟨rfl, rfl⟩⟩, fun i hi => absurd hi (by omega), fun i j hi => absurd hi (by omega), HM.out⟩
  have HH0 := Lib.hid hh0
  have HB6 := Lib.hid hb8'
  clear hb8' hm0 hrow0 hh0 hwa hown0 srca hm HSA HBA HO7 HB7
  go_loopw [5] (fun i wr => ∃ (v : Nat) (vo vq : Value) (r : Nat → Nat), v ≤ n ∧ i = .int .i64 (v : Int) ∧ Hr wr w.heap.size m (.slice X7 n k7) vo vq L v v r ∧ (∀ j : Nat, j < v → okK (kA L j) (kC L j)) ∧ Below w.heap.size w wr) (fun i _ => n - (intOf i).toNat)
  case atStart => exact ⟨0, _, _, _, Nat.zero_le _, rfl, HH0.out, fun j hj => absurd hj (by omega), HB6.out⟩
  case round =>
    obtain ⟨v, vo, vq, r, hv, rfl, hh, hok, hb⟩ := hrel
    obtain ⟨XO, kO, rfl, _, _⟩ := K.own_form hh.ho
    obtain ⟨XQ, kQ, rfl, _, _⟩ := K.own_form hh.hq
    have HH := Lib.hid hh
    have HOK := Lib.hid hok
    have HB := Lib.hid hb
    by_cases hlt : v < n
    · obtain ⟨x, hx⟩ : ∃ x, L[v]? = some x := ⟨_, List.getElem?_eq_getElem (by rw [HN.out]; exact hlt)⟩
      have hcell : ∃ b o : Nat, X = some ⟨b, o, none⟩ ∧ w.cell? ⟨b, o + v * 2, none⟩ = some (.int .i64 x.1) ∧ w.cell? ⟨b, o + v * 2 + 1, none⟩ = some (.int .i64 x.2) := by
        rcases HSR.out with ⟨_, e, _⟩ | ⟨b, o, e, _, hc⟩
        · rw [e] at hx; simp at hx
        · have hv2 := fun r (hr : r < 2) => K.vals_get (c := K.ck) (z := 2) (fun _ => rfl) L v r x hr hx
          exact ⟨b, o, e, by have := hc _ _ (hv2 0 (by omega)); rwa [Nat.add_zero] at this, by have := hc _ _ (hv2 1 (by omega)); rwa [← Nat.add_assoc] at this⟩
      obtain ⟨gx, ox, rfl, f0, f1⟩ := hcell
      have e0 := (hb.cell (p := ⟨gx, ox + v * 2, none⟩) (block_lt_of_cell f0)).trans f0
      have e1 := (hb.cell (p := ⟨gx, ox + v * 2 + 1, none⟩) (block_lt_of_cell f1)).trans f1
      have HE0 := Lib.hid f0
      have HX := Lib.hid hx
      obtain ⟨_, c0, _⟩ := hh.cell
      obtain ⟨wb, hwb⟩ : ∃ wb, wr.alloc (.cells #[.int .i64 0] 3) = wb := ⟨_, rfl⟩
      have hbb : Below wr.heap.size wr wb := by rw [← hwb]; exact (Below.refl _ _).alloc (Nat.le_refl _) _
      have hhb := hh.below hbb
      have HHB := Lib.hid hhb
      have hownb := hhb.ho
      have srcb := K.sr_one K.ci wr 3 0
      rw [show (K.ci 0).toArray = #[.int .i64 0] from rfl, hwb] at srcb
      have HBS := Lib.hid (show w.heap.size ≤ wb.heap.size from Nat.le_trans hb.size hbb.size)
      have HBW := Lib.hid (hb.trans (hbb.mono hb.size))
      have bnd : v + 1 ≤ 100000 := by omega
      have i0 : (0 : Int) ≤ (v : Int) := by omega
      have i1 : (v : Int) < (n : Int) := by omega
      clear f0 f1 hh hok hb hx hbb hhb
      go_upto_block 1 with fail
      go_cut [5] from 16 to 98 (fun i wx => i = .int .i64 (v : Int) ∧ okK x.1 x.2 ∧ ∃ (vo vq : Value) (r : Nat → Nat), Hr wx w.heap.size m (.slice X7 n k7) vo vq L (v + 1) (v + 1) r ∧ Below w.heap.size w wx)
      case first =>
        by_cases c3 : x.1 = 3
        · have t3 : (x.1 == 3) = true := by simpa using c3
          have u1 : decide (x.1 < 0) = false := by simp; omega
          have u2 : decide (3 < x.1) = false := by simp; omega
          by_cases c4 : x.2 < 1
          · have t4 := decide_eq_true c4
            have HBAD := Lib.hid (show ¬ okK x.1 x.2 by unfold okK; rw [if_pos c3]; omega)
            clear hwb c0
            go_wp2
            go_ret2
            exact ⟨HB.out, .inl ⟨⟨x, List.mem_of_getElem? HX.out, HBAD.out⟩, rfl⟩⟩
          · have t4 := decide_eq_false c4
            by_cases c5 : 16 < x.2
            · have t5 := decide_eq_true c5
              have HBAD := Lib.hid (show ¬ okK x.1 x.2 by unfold okK; rw [if_pos c3]; omega)
              clear hwb c0
              go_wp2
              go_ret2
              exact ⟨HB.out, .inl ⟨⟨x, List.mem_of_getElem? HX.out, HBAD.out⟩, rfl⟩⟩
            · have t5 := decide_eq_false c5
              have HOKX := Lib.hid (show okK x.1 x.2 by unfold okK; rw [if_pos c3]; omega)
              clear c3 c4 c5
              go_wp2_with (first
                | (refine K.wpList_append_row K.ki (by decide) rfl _ _ rfl w.heap.size (.slice XO v kO) (List.replicate v 0) [0] v (by simp) rfl hownb _ 1 1 rfl rfl srcb bnd HBS.out (v + 1) rfl ?_
                   intro X8 k8 w8 hown8 hgr8
                   have hh8 := HHB.out
                   obtain ⟨cs8, g8, _, _, g81, _⟩ : ∃ cs : Array Value, w8.heap[m]? = some (.cells cs 74 (0, 0)) ∧ cs.size = 37 ∧ True ∧ cs[1]? = some (.slice XO v kO) ∧ True := by
                     obtain ⟨cs, h1, h2, h3, h4, h5, h6⟩ := hh8.hm
                     exact ⟨cs, (hgr8.block m (lt_of_heap h1) (Ne.symm (own_ne hh8.ho h1 (by decide)))).trans h1, h2, trivial, h4, trivial⟩
                   have c8 : w8.cell? ⟨m, 1, none⟩ = some (.slice XO v kO) := (cell_of_row w8 m 1 cs8 74 (0, 0) g8).trans g81
                   have z8 := frozen_of_row w8 m 1 cs8 74 g8
                   have HST := Lib.hid (hh8.stepO hgr8 hown8)
                   have HB8 := Lib.hid (((HBW.out.grown hgr8 HBS.out (fun k hk => (hownb.lt k hk).1)).setCell (p := ⟨m, 1, none⟩) HM.out (.slice X8 (v + 1) k8)))
                   clear hown8 hgr8 hownb srcb hh8))
              obtain ⟨w9, hw9⟩ : ∃ w9, w8.setCell ⟨m, 1, none⟩ (.slice X8 (v + 1) k8) = w9 := ⟨_, rfl⟩
              rw [hw9] at HST HB8 ⊢
              obtain ⟨q0, q1, q2⟩ := HST.out.cell
              have e0' : w9.cell? ⟨gx, ox + v * 2, none⟩ = some (.int .i64 x.1) := (HB8.out.cell (p := ⟨gx, ox + v * 2, none⟩) (block_lt_of_cell HE0.out)).trans HE0.out
              obtain ⟨wc, hwc⟩ : ∃ wc, w9.alloc (.cells #[.bool (x.1 != 0), .slice none 0 0] 79) = wc := ⟨_, rfl⟩
              have hbc : Below w9.heap.size w9 wc := by rw [← hwc]; exact (Below.refl _ _).alloc (Nat.le_refl _) _
              have hqc : wc.heap[w9.heap.size]? = some (.cells #[.bool (x.1 != 0), .slice none 0 0] 79 (0, 0)) := by rw [← hwc]; exact heap_alloc_new w9 _
              obtain ⟨wd, hwd⟩ : ∃ wd, wc.alloc (.cells #[PtrV w9.heap.size] 76) = wd := ⟨_, rfl⟩
              have hbd : Below wc.heap.size wc wd := by rw [← hwd]; exact (Below.refl _ _).alloc (Nat.le_refl _) _
              have hbcd := below_trans hbc hbd
              have hqd := (hbd.block _ (lt_of_heap hqc)).trans hqc
              have HQD := Lib.hid (show Rq wd w9.heap.size (decide (kA L v ≠ 0)) [] by
                have e : decide (kA L v ≠ 0) = (x.1 != 0) := by rw [(kA_at HX.out).1, Bool.eq_iff_iff]; simp
                rw [e]
                exact ⟨none, 0, hqd, .inl ⟨rfl, rfl⟩, Nat.le_refl _, by omega⟩)
              have srcd := K.sr_one K.cp wc 76 w9.heap.size
              rw [show (K.cp w9.heap.size).toArray = #[PtrV w9.heap.size] from rfl, hwd] at srcd
              have hHD := HST.out.below hbcd
              have HHD := Lib.hid hHD
              obtain ⟨_, _, q2c⟩ := (HST.out.below hbc).cell
              obtain ⟨_, _, q2d⟩ := hHD.cell
              have hownq := hHD.hq
              have e0c : wc.cell? ⟨gx, ox + v * 2, none⟩ = some (.int .i64 x.1) := (hbc.cell (p := ⟨gx, ox + v * 2, none⟩) (block_lt_of_cell e0')).trans e0'
              have e0d : wd.cell? ⟨gx, ox + v * 2, none⟩ = some (.int .i64 x.1) := (hbcd.cell (p := ⟨gx, ox + v * 2, none⟩) (block_lt_of_cell e0')).trans e0'
              have hszq : w.heap.size ≤ w9.heap.size := HB8.out.size
              have HSZQ := Lib.hid hszq
              have hszd : w.heap.size ≤ wd.heap.size := Nat.le_trans hszq hbcd.size
              have HSZD := Lib.hid hszd
              have HNEQ := Lib.hid (show ∀ i, i < v → r i ≠ w9.heap.size from fun i hi e => by
                have := (HST.out.hr i hi).1.lt
                omega)
              have HBWD := Lib.hid (HB8.out.trans (hbcd.mono HB8.out.size))
              have srcl : ((List.range v).map r).length = v := by simp
              have HSL := Lib.hid srcl
              obtain ⟨bq, hbq⟩ : ∃ bq, w9.heap.size = bq := ⟨_, rfl⟩
              rw [hbq] at hwd srcd HQD HSZQ HNEQ
              have hws : wc.heap.size = bq + 1 := by rw [← hwc, ← hbq]; simp
              rw [hws] at srcd
              clear hbc hbd hbcd hqc hqd hHD hszq hszd srcl c8 z8 q0 q1 hw9
              go_wp2
              go_region_law (first
                | (refine K.step_append_row K.kp (by decide) rfl _ _ rfl w.heap.size (.slice XQ v kQ) ((List.range v).map r) [bq] v HSL.out rfl hownq _ 1 1 rfl rfl srcd bnd HSZD.out (v + 1) rfl ?_
                   intro Xa ka wx hownx hgrx
                   have hgry : wd.grownBy wx (Value.slice XQ v kQ).ownBlock := ⟨hgrx.os, hgrx.tape, hgrx.output, hgrx.size, hgrx.block⟩
                   obtain ⟨csx, gx1, gx2⟩ : ∃ cs : Array Value, wx.heap[m]? = some (.cells cs 74 (0, 0)) ∧ cs[2]? = some (.slice XQ v kQ) := by
                     obtain ⟨cs, h1, h2, h3, h4, h5, h6⟩ := HHD.out.hm
                     exact ⟨cs, (hgry.block m (lt_of_heap h1) (Ne.symm (own_ne HHD.out.hq h1 (by decide)))).trans h1, h5⟩
                   have cx : wx.cell? ⟨m, 2, none⟩ = some (.slice XQ v kQ) := (cell_of_row wx m 2 csx 74 (0, 0) gx1).trans gx2
                   have zx := frozen_of_row wx m 2 csx 74 gx1))
              all_goals
                have HSX := Lib.hid (HHD.out.stepQ HQD.out HSZQ.out HNEQ.out hgry hownx)
                have HBX := Lib.hid (((HBWD.out.grown hgry HSZD.out (fun k hk => (hownq.lt k hk).1)).setCell (p := ⟨m, 2, none⟩) HM.out (.slice Xa (v + 1) ka)))
                go_wp2
                go_meet
                exact ⟨rfl, HOKX.out, _, _, _, HSX.out, HBX.out⟩
        · have t3 : (x.1 == 3) = false := by simpa using c3
          by_cases c4 : x.1 < 0
          · have t4 := decide_eq_true c4
            have HBAD := Lib.hid (show ¬ okK x.1 x.2 by unfold okK; rw [if_neg c3]; omega)
            clear hwb c0
            go_wp2
            go_ret2
            exact ⟨HB.out, .inl ⟨⟨x, List.mem_of_getElem? HX.out, HBAD.out⟩, rfl⟩⟩
          · have t4 := decide_eq_false c4
            by_cases c5 : 3 < x.1
            · have t5 := decide_eq_true c5
              have HBAD := Lib.hid (show ¬ okK x.1 x.2 by unfold okK; rw [if_neg c3]; omega)
              clear hwb c0
              go_wp2
              go_ret2
              exact ⟨HB.out, .inl ⟨⟨x, List.mem_of_getElem? HX.out, HBAD.out⟩, rfl⟩⟩
            · have t5 := decide_eq_false c5
              by_cases c6 : x.2 = 0
              · have t6 : (x.2 != 0) = false := by simpa using c6
                have HOKX := Lib.hid (show okK x.1 x.2 by unfold okK; rw [if_neg c3]; omega)
                clear c3 c4 c5 c6
                go_wp2_with (first
                  | (refine K.wpList_append_row K.ki (by decide) rfl _ _ rfl w.heap.size (.slice XO v kO) (List.replicate v 0) [0] v (by simp) rfl hownb _ 1 1 rfl rfl srcb bnd HBS.out (v + 1) rfl ?_
                     intro X8 k8 w8 hown8 hgr8
                     have hh8 := HHB.out
                     obtain ⟨cs8, g8, _, _, g81, _⟩ : ∃ cs : Array Value, w8.heap[m]? = some (.cells cs 74 (0, 0)) ∧ cs.size = 37 ∧ True ∧ cs[1]? = some (.slice XO v kO) ∧ True := by
                       obtain ⟨cs, h1, h2, h3, h4, h5, h6⟩ := hh8.hm
                       exact ⟨cs, (hgr8.block m (lt_of_heap h1) (Ne.symm (own_ne hh8.ho h1 (by decide)))).trans h1, h2, trivial, h4, trivial⟩
                     have c8 : w8.cell? ⟨m, 1, none⟩ = some (.slice XO v kO) := (cell_of_row w8 m 1 cs8 74 (0, 0) g8).trans g81
                     have z8 := frozen_of_row w8 m 1 cs8 74 g8
                     have HST := Lib.hid (hh8.stepO hgr8 hown8)
                     have HB8 := Lib.hid (((HBW.out.grown hgr8 HBS.out (fun k hk => (hownb.lt k hk).1)).setCell (p := ⟨m, 1, none⟩) HM.out (.slice X8 (v + 1) k8)))
                     clear hown8 hgr8 hownb srcb hh8))
                obtain ⟨w9, hw9⟩ : ∃ w9, w8.setCell ⟨m, 1, none⟩ (.slice X8 (v + 1) k8) = w9 := ⟨_, rfl⟩
                rw [hw9] at HST HB8 ⊢
                obtain ⟨q0, q1, q2⟩ := HST.out.cell
                have e0' : w9.cell? ⟨gx, ox + v * 2, none⟩ = some (.int .i64 x.1) := (HB8.out.cell (p := ⟨gx, ox + v * 2, none⟩) (block_lt_of_cell HE0.out)).trans HE0.out
                obtain ⟨wc, hwc⟩ : ∃ wc, w9.alloc (.cells #[.bool (x.1 != 0), .slice none 0 0] 79) = wc := ⟨_, rfl⟩
                have hbc : Below w9.heap.size w9 wc := by rw [← hwc]; exact (Below.refl _ _).alloc (Nat.le_refl _) _
                have hqc : wc.heap[w9.heap.size]? = some (.cells #[.bool (x.1 != 0), .slice none 0 0] 79 (0, 0)) := by rw [← hwc]; exact heap_alloc_new w9 _
                obtain ⟨wd, hwd⟩ : ∃ wd, wc.alloc (.cells #[PtrV w9.heap.size] 76) = wd := ⟨_, rfl⟩
                have hbd : Below wc.heap.size wc wd := by rw [← hwd]; exact (Below.refl _ _).alloc (Nat.le_refl _) _
                have hbcd := below_trans hbc hbd
                have hqd := (hbd.block _ (lt_of_heap hqc)).trans hqc
                have HQD := Lib.hid (show Rq wd w9.heap.size (decide (kA L v ≠ 0)) [] by
                  have e : decide (kA L v ≠ 0) = (x.1 != 0) := by rw [(kA_at HX.out).1, Bool.eq_iff_iff]; simp
                  rw [e]
                  exact ⟨none, 0, hqd, .inl ⟨rfl, rfl⟩, Nat.le_refl _, by omega⟩)
                have srcd := K.sr_one K.cp wc 76 w9.heap.size
                rw [show (K.cp w9.heap.size).toArray = #[PtrV w9.heap.size] from rfl, hwd] at srcd
                have hHD := HST.out.below hbcd
                have HHD := Lib.hid hHD
                obtain ⟨_, _, q2c⟩ := (HST.out.below hbc).cell
                obtain ⟨_, _, q2d⟩ := hHD.cell
                have hownq := hHD.hq
                have e0c : wc.cell? ⟨gx, ox + v * 2, none⟩ = some (.int .i64 x.1) := (hbc.cell (p := ⟨gx, ox + v * 2, none⟩) (block_lt_of_cell e0')).trans e0'
                have e0d : wd.cell? ⟨gx, ox + v * 2, none⟩ = some (.int .i64 x.1) := (hbcd.cell (p := ⟨gx, ox + v * 2, none⟩) (block_lt_of_cell e0')).trans e0'
                have hszq : w.heap.size ≤ w9.heap.size := HB8.out.size
                have HSZQ := Lib.hid hszq
                have hszd : w.heap.size ≤ wd.heap.size := Nat.le_trans hszq hbcd.size
                have HSZD := Lib.hid hszd
                have HNEQ := Lib.hid (show ∀ i, i < v → r i ≠ w9.heap.size from fun i hi e => by
                  have := (HST.out.hr i hi).1.lt
                  omega)
                have HBWD := Lib.hid (HB8.out.trans (hbcd.mono HB8.out.size))
                have srcl : ((List.range v).map r).length = v := by simp
                have HSL := Lib.hid srcl
                obtain ⟨bq, hbq⟩ : ∃ bq, w9.heap.size = bq := ⟨_, rfl⟩
                rw [hbq] at hwd srcd HQD HSZQ HNEQ
                have hws : wc.heap.size = bq + 1 := by rw [← hwc, ← hbq]; simp
                rw [hws] at srcd
                clear hbc hbd hbcd hqc hqd hHD hszq hszd srcl c8 z8 q0 q1 hw9
                go_wp2
                go_region_law (first
                  | (refine K.step_append_row K.kp (by decide) rfl _ _ rfl w.heap.size (.slice XQ v kQ) ((List.range v).map r) [bq] v HSL.out rfl hownq _ 1 1 rfl rfl srcd bnd HSZD.out (v + 1) rfl ?_
                     intro Xa ka wx hownx hgrx
                     have hgry : wd.grownBy wx (Value.slice XQ v kQ).ownBlock := ⟨hgrx.os, hgrx.tape, hgrx.output, hgrx.size, hgrx.block⟩
                     obtain ⟨csx, gx1, gx2⟩ : ∃ cs : Array Value, wx.heap[m]? = some (.cells cs 74 (0, 0)) ∧ cs[2]? = some (.slice XQ v kQ) := by
                       obtain ⟨cs, h1, h2, h3, h4, h5, h6⟩ := HHD.out.hm
                       exact ⟨cs, (hgry.block m (lt_of_heap h1) (Ne.symm (own_ne HHD.out.hq h1 (by decide)))).trans h1, h5⟩
                     have cx : wx.cell? ⟨m, 2, none⟩ = some (.slice XQ v kQ) := (cell_of_row wx m 2 csx 74 (0, 0) gx1).trans gx2
                     have zx := frozen_of_row wx m 2 csx 74 gx1))
                all_goals
                  have HSX := Lib.hid (HHD.out.stepQ HQD.out HSZQ.out HNEQ.out hgry hownx)
                  have HBX := Lib.hid (((HBWD.out.grown hgry HSZD.out (fun k hk => (hownq.lt k hk).1)).setCell (p := ⟨m, 2, none⟩) HM.out (.slice Xa (v + 1) ka)))
                  go_wp2
                  go_meet
                  exact ⟨rfl, HOKX.out, _, _, _, HSX.out, HBX.out⟩
              · have t6 : (x.2 != 0) = true := by simpa using c6
                have HBAD := Lib.hid (show ¬ okK x.1 x.2 by unfold okK; rw [if_neg c3]; omega)
                clear hwb c0
                go_wp2
                go_ret2
                exact ⟨HB.out, .inl ⟨⟨x, List.mem_of_getElem? HX.out, HBAD.out⟩, rfl⟩⟩
      case rest =>
        obtain ⟨rfl, hokx, vo2, vq2, r2, hst, hb8⟩ := hcut
        have HST := Lib.hid hst
        have HB8 := Lib.hid hb8
        have HOKX := Lib.hid hokx
        clear hst hb8 hokx e0 e1 c0 hwb hownb srcb
        go_wp2
        go_roundw
        case rel =>
          refine ⟨v + 1, _, _, _, by omega, by go_num, HST.out, fun j hj => ?_, HB8.out⟩
          by_cases e : j = v
          · subst e; rw [(kA_at HX.out).1, (kA_at HX.out).2]; exact HOKX.out
          · exact HOK.out j (by omega)
        case measure => simp [intOf]; omega
    · have HE := Lib.hid (show v = n by omega)
      obtain ⟨cs1, m1, m2, m3, m4, m5, m6⟩ := hh.hm
      obtain ⟨w1, hw1⟩ : ∃ w1, wr = w1 := ⟨_, rfl⟩
      rw [hw1] at HH HB m1 ⊢
      have HM1 := Lib.hid m1
      have HM6 := Lib.hid m6
      clear hh hok hb hw1 m1 m6
      go_wp2
      go_loopw [7] (fun i wr => ∃ u : Nat, 1 ≤ u ∧ u ≤ 17 ∧ i = .int .i64 (u : Int) ∧ Only m w1 wr ∧ ∃ cs : Array Value, wr.heap[m]? = some (.cells cs 74 (0, 0)) ∧ cs.size = 37 ∧ cs[0]? = some (.slice X7 n k7) ∧ cs[1]? = some (.slice XO v kO) ∧ cs[2]? = some (.slice XQ v kQ) ∧
        (∀ k : Nat, k < 17 → cs[3 + k]? = some (.int .i64 (if k = 0 then 0 else if k < u then 16 else 0))) ∧ (∀ k : Nat, k < 17 → cs[20 + k]? = some (.int .i64 (if k = 0 then 0 else if k < u then 16 else 0)))) (fun i _ => 17 - (intOf i).toNat)
      case atStart =>
        refine ⟨1, by omega, by omega, rfl, Only.refl _ _, cs1, HM1.out, m2, m3, m4, m5, fun k hk => ?_, fun k hk => ?_⟩
        · rw [HM6.out k (by omega)]
          split
          · rfl
          · rw [if_neg (by omega)]
        · rw [show 20 + k = 3 + (17 + k) by omega, HM6.out (17 + k) (by omega)]
          split
          · rfl
          · rw [if_neg (by omega)]
      case round =>
        obtain ⟨u, hu1, hu, rfl, hon, cs, h1, h2, h3, h4, h5, h6, h7⟩ := hrel
        have HON := Lib.hid hon
        have H1 := Lib.hid h1
        have H6 := Lib.hid h6
        have H7 := Lib.hid h7
        by_cases hlu : u ≤ 16
        · have d0 : wr.cell? ⟨m, 3 + u, none⟩ = some (.int .i64 0) := by rw [cell_of_row wr m _ cs 74 (0, 0) h1, h6 u (by omega), if_neg (by omega), if_neg (by omega)]
          have d1 : wr.cell? ⟨m, 20 + u, none⟩ = some (.int .i64 0) := by rw [cell_of_row wr m _ cs 74 (0, 0) h1, h7 u (by omega), if_neg (by omega), if_neg (by omega)]
          have y0 := frozen_of_row wr m (3 + u) cs 74 h1
          have g1 := heap_setCell_same wr m (3 + u) cs 74 (.int .i64 16) h1
          have y1 := frozen_of_row _ m (20 + u) _ 74 g1
          have d2 : (wr.setCell ⟨m, 3 + u, none⟩ (.int .i64 16)).cell? ⟨m, 20 + u, none⟩ = some (.int .i64 0) := by
            rw [cell_of_row _ m _ _ 74 (0, 0) g1, Array.getElem?_setIfInBounds_ne (by omega), h7 u (by omega), if_neg (by omega), if_neg (by omega)]
          have G1 := Lib.hid g1
          have G2 := Lib.hid (heap_setCell_same _ m (20 + u) _ 74 (.int .i64 16) g1)
          have O2 := Lib.hid (((hon.setCell (q := ⟨m, 3 + u, none⟩) (.inl rfl) (.int .i64 16)).setCell (q := ⟨m, 20 + u, none⟩) (.inl rfl) (.int .i64 16)))
          have i2 : (u : Int) < 17 := by omega
          have i3 : (u : Int) ≤ 16 := by omega
          clear hon h1 h6 h7 g1
          go_wp2
          go_roundw
          case rel =>
            refine ⟨u + 1, by omega, by omega, by go_num, O2.out, _, G2.out, by simpa using h2, by rw [Array.getElem?_setIfInBounds_ne (by omega), Array.getElem?_setIfInBounds_ne (by omega)]; exact h3, by rw [Array.getElem?_setIfInBounds_ne (by omega), Array.getElem?_setIfInBounds_ne (by omega)]; exact h4, by rw [Array.getElem?_setIfInBounds_ne (by omega), Array.getElem?_setIfInBounds_ne (by omega)]; exact h5, fun k hk => ?_, fun k hk => ?_⟩
            · rw [Array.getElem?_setIfInBounds_ne (by omega)]
              by_cases c : k = u
              · subst c; rw [if_neg (by omega), if_pos (by omega), Array.getElem?_setIfInBounds_self_of_lt (by omega)]
              · rw [Array.getElem?_setIfInBounds_ne (by omega), H6.out k hk]
                by_cases d : k = 0
                · rw [if_pos d, if_pos d]
                · rw [if_neg d, if_neg d]
                  by_cases d2 : k < u
                  · rw [if_pos d2, if_pos (by omega)]
                  · rw [if_neg d2, if_neg (by omega)]
            · by_cases c : k = u
              · subst c; rw [if_neg (by omega), if_pos (by omega), Array.getElem?_setIfInBounds_self_of_lt (by simp; omega)]
              · rw [Array.getElem?_setIfInBounds_ne (by omega), Array.getElem?_setIfInBounds_ne (by omega), H7.out k hk]
                by_cases d : k = 0
                · rw [if_pos d, if_pos d]
                · rw [if_neg d, if_neg d]
                  by_cases d2 : k < u
                  · rw [if_pos d2, if_pos (by omega)]
                  · rw [if_neg d2, if_neg (by omega)]
          case measure => simp [intOf]; omega
        · have tl : decide ((u : Int) ≤ 16) = false := by simp; omega
          have HVN := Lib.hid (HE.out.trans HN.out.symm)
          have hrd := (show Hr w1 w.heap.size m (.slice X7 n k7) (.slice XO v kO) (.slice XQ v kQ) L L.length L.length r by rw [← HVN.out]; exact HH.out).rd hon h1 h2 h3 h4 h5 (fun k hk => by rw [h6 k hk]; split; rfl; rw [if_pos (by omega)]) (fun k hk => by rw [h7 k hk]; split; rfl; rw [if_pos (by omega)])
          have HRD := Lib.hid hrd
          clear hon h1 h6 h7 hrd
          go_wp2
          go_ret2
          obtain ⟨gk, go, gq, hd, b1, b2, b3⟩ := HRD.out
          refine ⟨HB.out.trans (HON.out.below HB.out.size HM.out), .inr ⟨fun x hx => ?_, m, gk, go, gq, r, rfl, ?_, b1, b2, fun i hi => b3 i (by rw [HN.out]; exact hi)⟩⟩
          · obtain ⟨j, hj⟩ := List.getElem?_of_mem hx
            have := (List.getElem?_eq_some_iff.1 hj).1
            have h2 := HOK.out j (by rw [HN.out, ← HE.out] at this; exact this)
            rw [(kA_at hj).1, (kA_at hj).2] at h2
            exact h2
          · rw [HN.out] at hd; exact hd
end Go.Proofs.Ytmicinenggkmlaa
