/- The document's mutexes in memory (detentref15): its block of 37 cells, the rows of kinds, holders and queues; what is read of them: waits, pri, Pri, round. -/
import Derived.Test.YtmicinenggkmlaaMtG
import Derived.Test.YtmicinenggkmlaaRefC
import Derived.Deep.MidRow
namespace Go.Proofs.Ytmicinenggkmlaa
open Go.RowKit
set_option linter.unusedVariables false
set_option maxRecDepth 100000

/-- the document's mutexes: block m, kinds in gk, holders in go, queues' pointers in gq, the queues in r -/
structure Rx (w : World) (m gk go gq : Nat) (r : Nat → Nat) (S : St) (N : Int → Int) : Prop where
  ha : ∃ (cs : Array Value) (XK XO XQ : Option Addr) (kK kO kQ : Nat), w.heap[m]? = some (.cells cs 74 (0, 0)) ∧ cs.size = 37 ∧ cs[0]? = some (.slice XK S.n kK) ∧ cs[1]? = some (.slice XO S.n kO) ∧ cs[2]? = some (.slice XQ S.n kQ) ∧
    (0 < S.n → XK = some ⟨gk, 0, none⟩ ∧ XO = some ⟨go, 0, none⟩ ∧ XQ = some ⟨gq, 0, none⟩) ∧
    (∀ u : Nat, u < 17 → cs[3 + u]? = some (.int .i64 (if u = 0 then 0 else S.B (u : Int)))) ∧ (∀ u : Nat, u < 17 → cs[20 + u]? = some (.int .i64 (if u = 0 then 0 else N (u : Int))))
  hk : 0 < S.n → ∃ ds : Array Value, w.heap[gk]? = some (.cells ds 75 (0, 0)) ∧ ∀ i, i < S.n → ds[i * 2]? = some (.int .i64 (S.A i)) ∧ ds[i * 2 + 1]? = some (.int .i64 (S.C i))
  ho : 0 < S.n → ∃ ds : Array Value, w.heap[go]? = some (.cells ds 3 (0, 0)) ∧ ∀ i, i < S.n → ds[i]? = some (.int .i64 (S.O i))
  hq : 0 < S.n → ∃ ds : Array Value, w.heap[gq]? = some (.cells ds 76 (0, 0)) ∧ ∀ i, i < S.n → ds[i]? = some (PtrV (r i))
  hr : ∀ i, i < S.n → Rq w (r i) (S.bp i) (S.Q i)
  inj : ∀ i j, i < S.n → j < S.n → r i = r j → i = j

def Zd (m go : Nat) (r : Nat → Nat) (n : Nat) (k : Nat) : Prop := k = m ∨ (0 < n ∧ k = go) ∨ ∃ i, i < n ∧ k = r i

theorem Rq.keepB {w w' : World} {q : Nat} {b : Bool} {L : List It} (h : Rq w q b L) (k : ∀ (g : Nat) (cs : Array Value) (e : TypeId), w.heap[g]? = some (.cells cs e (0, 0)) → (g = q ∧ e = 79) ∨ e = 95 → w'.heap[g]? = w.heap[g]?) : Rq w' q b L := by
  obtain ⟨X, c, h1, h2, h3⟩ := h
  exact ⟨X, c, (k q _ _ h1 (.inl ⟨rfl, rfl⟩)).trans h1, h2.keep fun g cs hg => k g cs _ hg (.inr rfl), h3⟩
theorem Rq.cells {w : World} {q : Nat} {b : Bool} {L : List It} (h : Rq w q b L) : ∃ cs, w.heap[q]? = some (.cells cs 79 (0, 0)) := by obtain ⟨X, c, h1, _⟩ := h; exact ⟨_, h1⟩

section
variable {w w' : World} {m gk go gq : Nat} {r : Nat → Nat} {S : St} {N : Int → Int}

theorem Rx.lt (h : Rx w m gk go gq r S N) : m < w.heap.size := by obtain ⟨cs, _, _, _, _, _, _, h1, _⟩ := h.ha; exact lt_of_heap h1
/-- what is of these types stays: all stays -/
theorem Rx.keep (h : Rx w m gk go gq r S N) (k : ∀ (g : Nat) (cs : Array Value) (e : TypeId), w.heap[g]? = some (.cells cs e (0, 0)) → (g = m ∧ e = 74) ∨ e = 75 ∨ (0 < S.n ∧ g = go ∧ e = 3) ∨ e = 76 ∨ e = 95 ∨ ((∃ i, i < S.n ∧ g = r i) ∧ e = 79) → w'.heap[g]? = w.heap[g]?) : Rx w' m gk go gq r S N := by
  obtain ⟨cs, XK, XO, XQ, kK, kO, kQ, h1, h2⟩ := h.ha
  refine ⟨⟨cs, XK, XO, XQ, kK, kO, kQ, (k m _ _ h1 (.inl ⟨rfl, rfl⟩)).trans h1, h2⟩, fun h0 => ?_, fun h0 => ?_, fun h0 => ?_, fun i hi => ?_, h.inj⟩
  · obtain ⟨ds, h3, h4⟩ := h.hk h0; exact ⟨ds, (k _ _ _ h3 (.inr (.inl rfl))).trans h3, h4⟩
  · obtain ⟨ds, h3, h4⟩ := h.ho h0; exact ⟨ds, (k _ _ _ h3 (.inr (.inr (.inl ⟨h0, rfl, rfl⟩)))).trans h3, h4⟩
  · obtain ⟨ds, h3, h4⟩ := h.hq h0; exact ⟨ds, (k _ _ _ h3 (.inr (.inr (.inr (.inl rfl))))).trans h3, h4⟩
  · refine (h.hr i hi).keepB fun g cs e hg he => k g cs e hg ?_
    rcases he with ⟨rfl, rfl⟩ | rfl
    · exact .inr (.inr (.inr (.inr (.inr ⟨⟨i, hi, rfl⟩, rfl⟩))))
    · exact .inr (.inr (.inr (.inr (.inl rfl))))
theorem Rx.below (h : Rx w m gk go gq r S N) (k : Below w.heap.size w w') : Rx w' m gk go gq r S N := h.keep fun g cs e hg _ => k.block g (lt_of_heap hg)
/-- blocks of other types are not among those that turn -/
theorem Rx.nz (h : Rx w m gk go gq r S N) {b : Nat} {cs : Array Value} {e : TypeId} {fr : Nat × Nat} (hb : w.heap[b]? = some (.cells cs e fr)) (h1 : e ≠ 74) (h2 : e ≠ 3) (h3 : e ≠ 79) : ¬ Zd m go r S.n b := by
  rintro (rfl | ⟨h0, rfl⟩ | ⟨i, hi, rfl⟩)
  · obtain ⟨cs, _, _, _, _, _, _, h4, _⟩ := h.ha; exact h1 (htype hb h4)
  · obtain ⟨ds, h4, _⟩ := h.ho h0; exact h2 (htype hb h4)
  · obtain ⟨ds, h4⟩ := (h.hr i hi).cells; exact h3 (htype hb h4)
theorem Rx.zlt (h : Rx w m gk go gq r S N) {b : Nat} (hz : Zd m go r S.n b) : b < w.heap.size := by
  rcases hz with rfl | ⟨h0, rfl⟩ | ⟨i, hi, rfl⟩
  · exact h.lt
  · obtain ⟨ds, h4, _⟩ := h.ho h0; exact lt_of_heap h4
  · obtain ⟨ds, h4⟩ := (h.hr i hi).cells; exact lt_of_heap h4
/-- what is read -/
theorem Rx.rows (h : Rx w m gk go gq r S N) : ∃ (XK XO XQ : Option Addr) (kK kO kQ : Nat), w.cell? ⟨m, 0, none⟩ = some (.slice XK S.n kK) ∧ w.cell? ⟨m, 1, none⟩ = some (.slice XO S.n kO) ∧ w.cell? ⟨m, 2, none⟩ = some (.slice XQ S.n kQ) ∧ (0 < S.n → XK = some ⟨gk, 0, none⟩ ∧ XO = some ⟨go, 0, none⟩ ∧ XQ = some ⟨gq, 0, none⟩) := by
  obtain ⟨cs, XK, XO, XQ, kK, kO, kQ, h1, h2, h3, h4, h5, h6, _⟩ := h.ha
  exact ⟨XK, XO, XQ, kK, kO, kQ, by rw [cell_of_row w m 0 cs 74 (0, 0) h1]; exact h3, by rw [cell_of_row w m 1 cs 74 (0, 0) h1]; exact h4, by rw [cell_of_row w m 2 cs 74 (0, 0) h1]; exact h5, h6⟩
theorem Rx.base (h : Rx w m gk go gq r S N) {u : Nat} (h0 : u ≠ 0) (hu : u < 17) : w.cell? ⟨m, 3 + u, none⟩ = some (.int .i64 (S.B (u : Int))) := by
  obtain ⟨cs, XK, XO, XQ, kK, kO, kQ, h1, h2, h3, h4, h5, h6, h7, h8⟩ := h.ha
  rw [cell_of_row w m _ cs 74 (0, 0) h1, h7 u hu, if_neg h0]
theorem Rx.now (h : Rx w m gk go gq r S N) {u : Nat} (h0 : u ≠ 0) (hu : u < 17) : w.cell? ⟨m, 20 + u, none⟩ = some (.int .i64 (N (u : Int))) := by
  obtain ⟨cs, XK, XO, XQ, kK, kO, kQ, h1, h2, h3, h4, h5, h6, h7, h8⟩ := h.ha
  rw [cell_of_row w m _ cs 74 (0, 0) h1, h8 u hu, if_neg h0]
theorem Rx.kind (h : Rx w m gk go gq r S N) {i : Nat} (hi : i < S.n) : w.cell? ⟨gk, i * 2, none⟩ = some (.int .i64 (S.A i)) ∧ w.cell? ⟨gk, i * 2 + 1, none⟩ = some (.int .i64 (S.C i)) := by
  obtain ⟨ds, h1, h2⟩ := h.hk (Nat.lt_of_le_of_lt (Nat.zero_le _) hi)
  rw [cell_of_row w gk _ ds 75 (0, 0) h1, cell_of_row w gk _ ds 75 (0, 0) h1]; exact h2 i hi
theorem Rx.own (h : Rx w m gk go gq r S N) {i : Nat} (hi : i < S.n) : w.cell? ⟨go, i, none⟩ = some (.int .i64 (S.O i)) := by
  obtain ⟨ds, h1, h2⟩ := h.ho (Nat.lt_of_le_of_lt (Nat.zero_le _) hi)
  rw [cell_of_row w go _ ds 3 (0, 0) h1]; exact h2 i hi
theorem Rx.ptr (h : Rx w m gk go gq r S N) {i : Nat} (hi : i < S.n) : w.cell? ⟨gq, i, none⟩ = some (PtrV (r i)) := by
  obtain ⟨ds, h1, h2⟩ := h.hq (Nat.lt_of_le_of_lt (Nat.zero_le _) hi)
  rw [cell_of_row w gq _ ds 76 (0, 0) h1]; exact h2 i hi
theorem Rx.fzo (h : Rx w m gk go gq r S N) (h0 : 0 < S.n) (i : Nat) : w.frozen? ⟨go, i, none⟩ = false := by obtain ⟨ds, h1, _⟩ := h.ho h0; exact frozen_of_row w go i ds 3 h1
theorem Rx.fzm (h : Rx w m gk go gq r S N) (i : Nat) : w.frozen? ⟨m, i, none⟩ = false := by obtain ⟨cs, _, _, _, _, _, _, h1, _⟩ := h.ha; exact frozen_of_row w m i cs 74 h1
theorem Rx.rq (h : Rx w m gk go gq r S N) {i p : Nat} (hi : i < S.n) (hp : r i = p) : Rq w p (S.bp i) (S.Q i) := hp ▸ h.hr i hi
/-- one queue turned -/
theorem Rx.turn (h : Rx w m gk go gq r S N) {i : Nat} (hi : i < S.n) {L : List It} (k : Only (r i) w w') (hl : Rq w' (r i) (S.bp i) L) : Rx w' m gk go gq r { S with Q := upd S.Q i L } N := by
  have ht : ∀ (b : Nat) (cs : Array Value) (e : TypeId), w.heap[b]? = some (.cells cs e (0, 0)) → e ≠ 79 → w'.heap[b]? = w.heap[b]? := fun b cs e hb he => k.block b (lt_of_heap hb) (by
    rintro rfl; obtain ⟨ds, h4⟩ := (h.hr i hi).cells; exact he (htype hb h4))
  obtain ⟨cs, XK, XO, XQ, kK, kO, kQ, h1, h2⟩ := h.ha
  refine ⟨⟨cs, XK, XO, XQ, kK, kO, kQ, (ht m _ _ h1 (by decide)).trans h1, h2⟩, fun h0 => ?_, fun h0 => ?_, fun h0 => ?_, fun j hj => ?_, h.inj⟩
  · obtain ⟨ds, h3, h4⟩ := h.hk h0; exact ⟨ds, (ht _ _ _ h3 (by decide)).trans h3, h4⟩
  · obtain ⟨ds, h3, h4⟩ := h.ho h0; exact ⟨ds, (ht _ _ _ h3 (by decide)).trans h3, h4⟩
  · obtain ⟨ds, h3, h4⟩ := h.hq h0; exact ⟨ds, (ht _ _ _ h3 (by decide)).trans h3, h4⟩
  · show Rq w' (r j) (S.bp j) (upd S.Q i L j)
    by_cases e : j = i
    · subst e; rw [upd_at]; exact hl
    · rw [upd_ne _ _ e]
      refine (h.hr j hj).keepB fun g cs e2 hg he => ?_
      rcases he with ⟨rfl, _⟩ | rfl
      · exact k.block _ (lt_of_heap hg) (fun e3 => e (h.inj j i hj hi e3))
      · exact ht g cs _ hg (by decide)
/-- a cell of block b turned: what is of other blocks stays -/
theorem set_keep {w : World} {b i : Nat} {v : Value} {g : Nat} (h : g ≠ b) : (w.setCell ⟨b, i, none⟩ v).heap[g]? = w.heap[g]? := Below.heap_setCell w ⟨b, i, none⟩ v g h
theorem Rx.setO (h : Rx w m gk go gq r S N) {i : Nat} (hi : i < S.n) (v : Int) : Rx (w.setCell ⟨go, i, none⟩ (.int .i64 v)) m gk go gq r { S with O := upd S.O i v } N := by
  obtain ⟨ds, h3, h4⟩ := h.ho (Nat.lt_of_le_of_lt (Nat.zero_le _) hi)
  have ht : ∀ (b : Nat) (cs : Array Value) (e : TypeId), w.heap[b]? = some (.cells cs e (0, 0)) → e ≠ 3 → (w.setCell ⟨go, i, none⟩ (.int .i64 v)).heap[b]? = w.heap[b]? := fun b cs e hb he => set_keep (by
    rintro rfl; exact he (htype hb h3))
  obtain ⟨cs, XK, XO, XQ, kK, kO, kQ, h1, h2⟩ := h.ha
  refine ⟨⟨cs, XK, XO, XQ, kK, kO, kQ, (ht m _ _ h1 (by decide)).trans h1, h2⟩, fun h0 => ?_, fun h0 => ?_, fun h0 => ?_, fun j hj => ?_, h.inj⟩
  · obtain ⟨ds, h3, h4⟩ := h.hk h0; exact ⟨ds, (ht _ _ _ h3 (by decide)).trans h3, h4⟩
  · refine ⟨ds.setIfInBounds i (.int .i64 v), heap_setCell_same w go i ds 3 _ h3, fun j hj => ?_⟩
    have hsz : i < ds.size := (Array.getElem?_eq_some_iff.1 (h4 i hi)).1
    show _ = some (Value.int .i64 (upd S.O i v j))
    by_cases c : j = i
    · subst c; rw [upd_at, Array.getElem?_setIfInBounds_self_of_lt hsz]
    · rw [upd_ne _ _ c, Array.getElem?_setIfInBounds_ne (by omega)]; exact h4 j hj
  · obtain ⟨ds, h3, h4⟩ := h.hq h0; exact ⟨ds, (ht _ _ _ h3 (by decide)).trans h3, h4⟩
  · refine (h.hr j hj).keepB fun g cs e hg he => ht g cs e hg ?_
    rcases he with ⟨_, rfl⟩ | rfl <;> decide
theorem Rx.setB (h : Rx w m gk go gq r S N) {u : Nat} (h0 : u ≠ 0) (hu : u < 17) (v : Int) : Rx (w.setCell ⟨m, 3 + u, none⟩ (.int .i64 v)) m gk go gq r (setB S (u : Int) v) N := by
  obtain ⟨cs, XK, XO, XQ, kK, kO, kQ, h1, h2, h3, h4, h5, h6, h7, h8⟩ := h.ha
  have ht : ∀ (b : Nat) (cs : Array Value) (e : TypeId), w.heap[b]? = some (.cells cs e (0, 0)) → e ≠ 74 → (w.setCell ⟨m, 3 + u, none⟩ (.int .i64 v)).heap[b]? = w.heap[b]? := fun b cs e hb he => set_keep (by
    rintro rfl; exact he (htype hb h1))
  refine ⟨⟨cs.setIfInBounds (3 + u) (.int .i64 v), XK, XO, XQ, kK, kO, kQ, heap_setCell_same w m _ cs 74 _ h1, by simpa using h2, by rw [Array.getElem?_setIfInBounds_ne (by omega)]; exact h3, by rw [Array.getElem?_setIfInBounds_ne (by omega)]; exact h4, by rw [Array.getElem?_setIfInBounds_ne (by omega)]; exact h5, h6, fun k hk => ?_, fun k hk => by rw [Array.getElem?_setIfInBounds_ne (by omega)]; exact h8 k hk⟩, fun h0 => ?_, fun h0 => ?_, fun h0 => ?_, fun j hj => ?_, h.inj⟩
  · unfold Ytmicinenggkmlaa.setB
    simp only
    by_cases c : k = u
    · subst c; rw [if_neg h0, if_pos rfl, Array.getElem?_setIfInBounds_self_of_lt (by omega)]
    · rw [Array.getElem?_setIfInBounds_ne (by omega), h7 k hk]
      by_cases d : k = 0
      · rw [if_pos d, if_pos d]
      · rw [if_neg d, if_neg d, if_neg (by omega)]
  · obtain ⟨ds, h3, h4⟩ := h.hk h0; exact ⟨ds, (ht _ _ _ h3 (by decide)).trans h3, h4⟩
  · obtain ⟨ds, h3, h4⟩ := h.ho h0; exact ⟨ds, (ht _ _ _ h3 (by decide)).trans h3, h4⟩
  · obtain ⟨ds, h3, h4⟩ := h.hq h0; exact ⟨ds, (ht _ _ _ h3 (by decide)).trans h3, h4⟩
  · refine (h.hr j hj).keepB fun g cs e hg he => ht g cs e hg ?_
    rcases he with ⟨_, rfl⟩ | rfl <;> decide
theorem zr {n i : Nat} (hi : i < n) : Zd m go r n (r i) := .inr (.inr ⟨i, hi, rfl⟩)
end

set_option maxHeartbeats 400000 in
theorem ris_any (x : Int) (w : World) (b : Bool) (hb : decide (isT x) = b) :
    Calls Try.prog 50 #[.int .i64 x] w fun e w' => e = .returned (.bool b) ∧ w = w' := by
  subst hb
  by_cases c1 : 1 ≤ x
  · have e : decide (isT x) = decide (x ≤ 16) := decide_eq_decide.2 (by unfold isT; omega)
    rw [e]
    go_enter Try.func50, Try.ntmps50
    go_wp2
    go_ret
    exact ⟨rfl, rfl⟩
  · have e : decide (isT x) = false := decide_eq_false (by unfold isT; omega)
    have t1 : decide (1 ≤ x) = false := by simpa using c1
    rw [e]
    go_enter Try.func50, Try.ntmps50
    go_wp2
    go_ret
    exact ⟨rfl, rfl⟩
set_option maxHeartbeats 400000 in
theorem rmutex_any (m gk go gq : Nat) (r : Nat → Nat) (S : St) (N : Int → Int) (x : Int) (w : World) (h : Rx w m gk go gq r S N) (b : Bool) (hb : decide (isM S x) = b) :
    Calls Try.prog 49 #[PtrV m, .int .i64 x] w fun e w' => e = .returned (.bool b) ∧ w = w' := by
  subst hb
  obtain ⟨XK, _, _, kK, _, _, c0, _, _, _⟩ := h.rows
  clear h
  by_cases c1 : 1 ≤ x
  · have e : decide (isM S x) = decide (x ≤ (S.n : Int)) := decide_eq_decide.2 (by unfold isM; omega)
    rw [e]
    generalize S.n = n at *
    go_enter Try.func49, Try.ntmps49
    go_wp2
    go_ret
    exact ⟨rfl, rfl⟩
  · have e : decide (isM S x) = false := decide_eq_false (by unfold isM; omega)
    have t1 : decide (1 ≤ x) = false := by simpa using c1
    rw [e]
    generalize S.n = n at *
    go_enter Try.func49, Try.ntmps49
    go_wp2
    go_ret
    exact ⟨rfl, rfl⟩

set_option maxHeartbeats 1600000 in
theorem rwaits_any (m gk go gq : Nat) (r : Nat → Nat) (S : St) (N : Int → Int) (t : Int) (w : World) (h : Rx w m gk go gq r S N) (hf : Fine0 S) (x : Int) (hx : (if fi S t < S.n then ((fi S t : Nat) : Int) else -1) = x) :
    Calls Try.prog 56 #[PtrV m, .int .i64 t] w fun e w' => e = .returned (.int .i64 x) ∧ w = w' := by
  obtain ⟨_, _, XQ, _, _, kQ, _, _, c2, hX⟩ := h.rows
  have hn8 := hf.n8
  have HR := Lib.hid hx
  have HF := Lib.hid hf
  have HX := Lib.hid hX
  have HH := Lib.hid h
  clear hx hf hX h
  obtain ⟨n, hn⟩ : ∃ n, S.n = n := ⟨_, rfl⟩
  have HN := Lib.hid hn
  rw [hn] at c2 hn8
  clear hn
  go_enter Try.func56, Try.ntmps56
  go_wp2
  go_loopw [5] (fun i wr => ∃ v : Nat, v ≤ n ∧ i = .int .i64 (v : Int) ∧ (∀ j, j < v → ¬ inq S j t) ∧ w = wr) (fun i _ => n - (intOf i).toNat)
  case atStart => exact ⟨0, Nat.zero_le _, rfl, fun j hj => absurd hj (by omega), rfl⟩
  case round =>
    obtain ⟨v, hv, rfl, hno, rfl⟩ := hrel
    have HO := Lib.hid hno
    clear hno
    by_cases hlt : v < n
    · have hvn : v < S.n := by rw [HN.out]; exact hlt
      obtain rfl := (HX.out (by omega)).2.2
      have d0 := HH.out.ptr hvn
      obtain ⟨p, hp⟩ : ∃ p, r v = p := ⟨_, rfl⟩
      rw [hp] at d0
      have HQ := Lib.hid (HH.out.rq hvn hp)
      have HVN := Lib.hid hvn
      clear hvn hp
      by_cases c : inq S v t
      · have HA := Lib.hid (rat_any p (S.bp v) (S.Q v) w HQ.out (HF.out.gd v HVN.out).len t _ (if_pos (pos_inq.2 c)))
        have HC := Lib.hid c
        obtain ⟨z, hz⟩ : ∃ z, pos (S.Q v) t = z := ⟨_, rfl⟩
        rw [hz] at HA
        have tz : decide ((0 : Int) ≤ (z : Int)) = true := by simp
        clear c hz
        go_wp2_with fail
        refine HA.out.mono ?_
        rintro e w1 ⟨rfl, rfl⟩
        go_wp2
        go_ret
        refine ⟨?_, rfl⟩
        rw [← HR.out, fi_eq HVN.out HC.out HO.out, if_pos HVN.out]
        rfl
      · have HA := Lib.hid (rat_any p (S.bp v) (S.Q v) w HQ.out (HF.out.gd v HVN.out).len t _ (if_neg (fun e => c (pos_inq.1 e))))
        have HC := Lib.hid c
        clear c
        go_wp2_with fail
        refine HA.out.mono ?_
        rintro e w1 ⟨rfl, rfl⟩
        go_wp2
        go_roundw
        case rel =>
          refine ⟨v + 1, by omega, by go_num, fun j hj => ?_, trivial⟩
          by_cases e : j = v
          · subst e; exact HC.out
          · exact HO.out j (by omega)
        case measure => simp [intOf]; omega
    · go_wp2
      go_ret
      refine ⟨?_, rfl⟩
      rw [← HR.out, fi_none fun j hj => HO.out j (by rw [HN.out] at hj; omega), if_neg (by omega)]
      rfl
end Go.Proofs.Ytmicinenggkmlaa
