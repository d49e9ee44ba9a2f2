/- Contracts of package mtx: New, Twin: the mutexes while they are built. -/
import Derived.Test.YtmicinenggkmlaaMtG
import Derived.Deep.RegionLaw
import Derived.Great.BuildSlice
import Derived.Deep.CutRange
import Derived.Deep.CutBlock
namespace Go.Proofs.Ytmicinenggkmlaa
open Go.RowKit
set_option linter.unusedVariables false
set_option maxRecDepth 100000

/-- the first v mutexes as a row -/
def rowM (S : St) (q : Nat → Nat) (v : Nat) : List (Int × Int × Int × Nat) := (List.range v).map fun j => (S.A j, S.C j, S.O j, q j)
theorem rowM_len (S : St) (q : Nat → Nat) (v : Nat) : (rowM S q v).length = v := by unfold rowM; simp
theorem rowM_snoc (S : St) (q : Nat → Nat) (v p : Nat) : rowM S (upd q v p) (v + 1) = rowM S q v ++ [(S.A v, S.C v, S.O v, p)] := by
  unfold rowM
  rw [List.range_succ, List.map_append]
  congr 1
  · apply List.map_congr_left
    intro j hj
    rw [List.mem_range] at hj
    rw [upd_ne _ _ (by omega)]
  · simp only [List.map_cons, List.map_nil, upd_at]
theorem rowM_get (S : St) (q : Nat → Nat) {v i : Nat} (hi : i < v) : (rowM S q v)[i]? = some (S.A i, S.C i, S.O i, q i) := by
  unfold rowM
  rw [List.getElem?_map, List.getElem?_range hi]; rfl

/-- half built: v mutexes are there -/
structure Hb (w : World) (B a : Nat) (vo : Value) (q : Nat → Nat) (S : St) (v : Nat) : Prop where
  ha : ∃ cs : Array Value, w.heap[a]? = some (.cells cs 66 (0, 0)) ∧ cs.size = 17 ∧ (∀ u : Nat, u < 16 → cs[u]? = some (.int .i64 (S.B ((u : Int) + 1)))) ∧ cs[16]? = some vo
  ow : w.ownsRow B 70 4 vo v (K.vals K.cm (rowM S q v))
  hl : ∀ i, i < v → Ln w (q i) 87 (S.bp i) (S.Q i) ∧ B ≤ q i
  inj : ∀ i j, i < v → j < v → q i = q j → i = j
  ba : B ≤ a

theorem own_ne {w : World} {B n z : Nat} {e f : TypeId} {v : Value} {xs : List Value} (h : w.ownsRow B e z v n xs) {b : Nat} {cs : Array Value} {fr : Nat × Nat} (hb : w.heap[b]? = some (.cells cs f fr)) (hne : f ≠ e) : v.ownBlock ≠ some b := by
  intro hv
  rcases h.2 with ⟨h1, _⟩ | ⟨g', cap, cur, h1, _, h2, _⟩
  · rw [h1] at hv; cases hv
  · rw [h1] at hv; injection hv with hv; subst hv
    exact hne (htype hb h2)
theorem ln_cells {w : World} {p : Nat} {b : Bool} {L : List It} (h : Ln w p 87 b L) : ∃ cs, w.heap[p]? = some (.cells cs 87 (0, 0)) := by
  obtain ⟨f, ⟨cs, hh, _⟩, _⟩ := h; exact ⟨cs, hh⟩

section
variable {w w' : World} {B a v : Nat} {vo : Value} {q : Nat → Nat} {S : St}
theorem Hb.below (h : Hb w B a vo q S v) (k : Below w.heap.size w w') : Hb w' B a vo q S v := by
  obtain ⟨cs, h1, h2⟩ := h.ha
  exact ⟨⟨cs, (k.block a (lt_of_heap h1)).trans h1, h2⟩, K.own_below h.ow k, fun i hi => ⟨(h.hl i hi).1.below k, (h.hl i hi).2⟩, h.inj, h.ba⟩
theorem Hb.c16 (h : Hb w B a vo q S v) : w.cell? ⟨a, 16, none⟩ = some vo := by
  obtain ⟨cs, h1, h2, h3, h4⟩ := h.ha
  rw [cell_of_row w a 16 cs 66 (0, 0) h1]; exact h4
theorem Hb.fz (h : Hb w B a vo q S v) (i : Nat) : w.frozen? ⟨a, i, none⟩ = false := by
  obtain ⟨cs, h1, _⟩ := h.ha; exact frozen_of_row w a i cs 66 h1
/-- only the row's own block turned -/
theorem Hb.grown (h : Hb w B a vo q S v) (k : w.grownBy w' vo.ownBlock) :
    (∃ cs : Array Value, w'.heap[a]? = some (.cells cs 66 (0, 0)) ∧ cs.size = 17 ∧ (∀ u : Nat, u < 16 → cs[u]? = some (.int .i64 (S.B ((u : Int) + 1)))) ∧ cs[16]? = some vo) ∧ ∀ i, i < v → Ln w' (q i) 87 (S.bp i) (S.Q i) := by
  obtain ⟨cs, h1, h2⟩ := h.ha
  refine ⟨⟨cs, (k.block a (lt_of_heap h1) (Ne.symm (own_ne h.ow h1 (by decide)))).trans h1, h2⟩, fun i hi => ?_⟩
  obtain ⟨ds, h3⟩ := ln_cells (h.hl i hi).1
  exact (h.hl i hi).1.keep (k.block (q i) (lt_of_heap h3) (Ne.symm (own_ne h.ow h3 (by decide))))
/-- one mutex more, its queue in p -/
theorem Hb.step (h : Hb w B a vo q S v) {p : Nat} (hp : Ln w p 87 (S.bp v) (S.Q v)) (hpB : B ≤ p) (hne : ∀ i, i < v → q i ≠ p) {X : Option Addr} {n k : Nat} (hg : w.grownBy w' vo.ownBlock)
    (ho : w'.ownsRow B 70 4 (.slice X n k) (v + 1) (K.vals K.cm (rowM S q v ++ [(S.A v, S.C v, S.O v, p)]))) :
    Hb (w'.setCell ⟨a, 16, none⟩ (.slice X n k)) B a (.slice X n k) (upd q v p) S (v + 1) := by
  obtain ⟨⟨cs, h1, h2, h3, h4⟩, h5⟩ := h.grown hg
  have hset : ∀ b, b ≠ a → (w'.setCell ⟨a, 16, none⟩ (.slice X n k)).heap[b]? = w'.heap[b]? := fun b hb => Below.heap_setCell w' ⟨a, 16, none⟩ _ b hb
  obtain ⟨ds, h6⟩ := ln_cells hp
  have hp' : Ln w' p 87 (S.bp v) (S.Q v) := hp.keep (hg.block p (lt_of_heap h6) (Ne.symm (own_ne h.ow h6 (by decide))))
  have hna : ∀ (p : Nat) (b : Bool) (L : List It), Ln w' p 87 b L → p ≠ a := fun p b L hl e => by
    subst e
    exact hl.type (e := 66) (by decide) _ _ h1
  refine ⟨⟨cs.setIfInBounds 16 (.slice X n k), heap_setCell_same w' a 16 cs 66 _ h1, by simpa using h2, fun u hu => by rw [Array.getElem?_setIfInBounds_ne (by omega)]; exact h3 u hu, Array.getElem?_setIfInBounds_self_of_lt (by omega)⟩, ?_, fun i hi => ?_, fun i j hi hj e => ?_, h.ba⟩
  · rw [rowM_snoc]
    refine K.own_keep ho fun g cs2 hg2 he => hset g ?_
    rintro rfl
    rw [h1] at hg2; injection hg2 with hg2; injection hg2 with _ hg2; cases hg2
  · by_cases c : i = v
    · subst c
      rw [upd_at]
      exact ⟨hp'.keep (hset p (hna _ _ _ hp')), hpB⟩
    · rw [upd_ne _ _ c]
      have := h5 i (by omega)
      exact ⟨this.keep (hset _ (hna _ _ _ this)), (h.hl i (by omega)).2⟩
  · by_cases c : i = v <;> by_cases d : j = v
    · omega
    · subst c
      rw [upd_at, upd_ne _ _ d] at e
      exact absurd e.symm (hne j (by omega))
    · subst d
      rw [upd_at, upd_ne _ _ c] at e
      exact absurd e (hne i (by omega))
    · rw [upd_ne _ _ c, upd_ne _ _ d] at e
      exact h.inj i j (by omega) (by omega) e
/-- built -/
theorem Hb.mx (h : Hb w B a vo q S S.n) : ∃ g, Mx w a g q S ∧ B ≤ g := by
  obtain ⟨cs, h1, h2, h3, h4⟩ := h.ha
  obtain ⟨X, k, rfl, hk1, hk2⟩ := K.own_form h.ow
  by_cases c : 0 < S.n
  · obtain ⟨g, cur, rfl, hg, hh, hc⟩ := K.own_at c h.ow
    refine ⟨g, ⟨⟨cs, _, k, h1, h2, h3, h4, hk1, hk2, fun _ => rfl⟩, fun _ => ⟨cur, hh, fun i hi => ?_⟩, fun i hi => (h.hl i hi).1, h.inj⟩, hg⟩
    have hv := fun r (hr : r < 4) => K.vals_get (c := K.cm) (z := 4) (fun _ => rfl) (rowM S q S.n) i r _ hr (rowM_get S q hi)
    exact ⟨hc (i * 4) _ (by have := hv 0 (by omega); rw [Nat.add_zero] at this; exact this), hc _ _ (hv 1 (by omega)), hc _ _ (hv 2 (by omega)), hc _ _ (hv 3 (by omega))⟩
  · exact ⟨a, ⟨⟨cs, _, k, h1, h2, h3, h4, hk1, hk2, fun h0 => absurd h0 c⟩, fun h0 => absurd h0 c, fun i hi => (h.hl i hi).1, h.inj⟩, h.ba⟩
end

/-- kinds that are read -/
def kA (L : List (Int × Int)) (i : Nat) : Int := ((L[i]?).getD (0, 0)).1
def kC (L : List (Int × Int)) (i : Nat) : Int := ((L[i]?).getD (0, 0)).2
theorem kA_at {L : List (Int × Int)} {i : Nat} {x : Int × Int} (h : L[i]? = some x) : kA L i = x.1 ∧ kC L i = x.2 := by unfold kA kC; rw [h]; exact ⟨rfl, rfl⟩

set_option maxHeartbeats 3200000 in
theorem new_few (X : Option Addr) (k : Nat) (L : List (Int × Int)) (w : World) (h8 : 8 < L.length) (hl : L.length ≤ 9223372036854775807) :
    Calls Try.prog 11 #[.slice X L.length k] w fun e w' => e = .returned (.tuple #[.pointer none, .int .i64 (-17)]) ∧ w = w' := by
  generalize L.length = n at *
  have t1 : decide ((8 : Int) < (n : Int)) = true := by simp; omega
  have t2 : (8 : Int) < (n : Int) := by omega
  go_enter Try.func11, Try.ntmps11
  go_wp2
  go_ret2
  exact ⟨rfl, rfl⟩

theorem two_grown {b i j : Nat} {x y : Value} {W W' : World} {cs : Array Value} {f e : TypeId} {fr : Nat × Nat} {B n z : Nat} {v : Value} {xs : List Value} (hb : W.heap[b]? = some (.cells cs f fr)) (ho : W.ownsRow B e z v n xs) (hne : f ≠ e) (hg : W.grownBy W' v.ownBlock)
    (h : W.cell? ⟨b, i, none⟩ = some x ∧ W.cell? ⟨b, j, none⟩ = some y) : W'.cell? ⟨b, i, none⟩ = some x ∧ W'.cell? ⟨b, j, none⟩ = some y := by
  have := hg.block b (lt_of_heap hb) (Ne.symm (own_ne ho hb hne))
  exact ⟨(World.cell?_of_block (w := W) this).trans h.1, (World.cell?_of_block (w := W) this).trans h.2⟩
theorem two_set {b i j : Nat} {x y u : Value} {W : World} {c : Addr} (hne : b ≠ c.block) (h : W.cell? ⟨b, i, none⟩ = some x ∧ W.cell? ⟨b, j, none⟩ = some y) : (W.setCell c u).cell? ⟨b, i, none⟩ = some x ∧ (W.setCell c u).cell? ⟨b, j, none⟩ = some y := by
  have := Below.heap_setCell W c u b hne
  exact ⟨(World.cell?_of_block (w := W) this).trans h.1, (World.cell?_of_block (w := W) this).trans h.2⟩
theorem new_alloc {w : World} {b : Nat} {o' : Obj} (h : w.heap[b]? = some o') (o : Obj) : (w.alloc o).heap[b]? = some o' := (Below.heap_alloc w o b (lt_of_heap h)).trans h

/-- no mutexes yet -/
def zero66 : Array Value := #[.int .i64 0, .int .i64 0, .int .i64 0, .int .i64 0, .int .i64 0, .int .i64 0, .int .i64 0, .int .i64 0, .int .i64 0, .int .i64 0, .int .i64 0, .int .i64 0, .int .i64 0, .int .i64 0, .int .i64 0, .int .i64 0, .slice none 0 0]
theorem zero66_at {u : Nat} (h : u < 16) : zero66[u]? = some (.int .i64 0) := by
  have : u = 0 ∨ u = 1 ∨ u = 2 ∨ u = 3 ∨ u = 4 ∨ u = 5 ∨ u = 6 ∨ u = 7 ∨ u = 8 ∨ u = 9 ∨ u = 10 ∨ u = 11 ∨ u = 12 ∨ u = 13 ∨ u = 14 ∨ u = 15 := by omega
  rcases this with rfl | rfl | rfl | rfl | rfl | rfl | rfl | rfl | rfl | rfl | rfl | rfl | rfl | rfl | rfl | rfl <;> rfl

set_option maxHeartbeats 6400000 in
theorem new_any (X : Option Addr) (k : Nat) (L : List (Int × Int)) (w : World) (h8 : L.length ≤ 8) (hs : 0 < L.length → K.Sr K.ck w X k L) :
    Calls Try.prog 11 #[.slice X L.length k] w fun e w' => Below w.heap.size w w' ∧ ((∃ x, x ∈ L ∧ ¬ okK x.1 x.2) ∧ e = .returned (.tuple #[.pointer none, .int .i64 (-17)]) ∨
      (∀ x, x ∈ L → okK x.1 x.2) ∧ ∃ (a g : Nat) (q : Nat → Nat), e = .returned (.tuple #[PtrV a, .int .i64 0]) ∧ Mx w' a g q (St.new L.length (kA L) (kC L)) ∧ w.heap.size ≤ a ∧ w.heap.size ≤ g ∧ ∀ i, i < L.length → w.heap.size ≤ q i) := by
  obtain ⟨n, hn⟩ : ∃ n, L.length = n := ⟨_, rfl⟩
  have HN := Lib.hid hn
  have HS := Lib.hid hs
  rw [hn] at h8 ⊢
  clear hn hs
  go_enter Try.func11, Try.ntmps11
  go_wp2
  have hb0 : Below w.heap.size w (w.alloc (.cells zero66 66)) := (Below.refl _ _).alloc (Nat.le_refl _) _
  have ha0 : (w.alloc (.cells zero66 66)).heap[w.heap.size]? = some (.cells zero66 66 (0, 0)) := heap_alloc_new w _
  change Code.wp _ _ _ _ (w.alloc (.cells zero66 66))
  generalize w.alloc (.cells zero66 66) = wa at *
  obtain ⟨a, haa⟩ : ∃ a, w.heap.size = a := ⟨_, rfl⟩
  rw [haa] at ha0 ⊢
  have HAA := Lib.hid haa
  have HB0 := Lib.hid hb0
  have HA0 := Lib.hid ha0
  clear hb0 ha0 haa
  go_loopw [13] (fun i wr => ∃ v : Nat, v ≤ 16 ∧ i = .int .i64 (v : Int) ∧ (∃ cs : Array Value, wr.heap[a]? = some (.cells cs 66 (0, 0)) ∧ cs.size = 17 ∧ (∀ u : Nat, u < 16 → cs[u]? = some (.int .i64 (if u < v then 16 else 0))) ∧ cs[16]? = some (.slice none 0 0)) ∧ Below w.heap.size w wr) (fun i _ => 16 - (intOf i).toNat)
  case atStart => exact ⟨0, by omega, rfl, ⟨zero66, HA0.out, rfl, fun u hu => by rw [if_neg (by omega)]; exact zero66_at hu, rfl⟩, HB0.out⟩
  case round =>
    obtain ⟨v, hv, rfl, ⟨cs, h1, h2, h3, h4⟩, hb⟩ := hrel
    have HB := Lib.hid hb
    have H1 := Lib.hid h1
    have H3 := Lib.hid h3
    by_cases hlt : v < 16
    · have c0 : wr.cell? ⟨a, v, none⟩ = some (.int .i64 0) := by rw [cell_of_row wr a v cs 66 (0, 0) h1, h3 v hlt, if_neg (by omega)]
      have z0 := frozen_of_row wr a v cs 66 h1
      have hi0 : (v : Int) < 16 := by omega
      clear hb h1 h3
      go_wp2
      go_roundw
      case rel =>
        refine ⟨v + 1, by omega, by go_num, ⟨cs.setIfInBounds v (.int .i64 16), heap_setCell_same wr a v cs 66 _ H1.out, by simpa using h2, fun u hu => ?_, by rw [Array.getElem?_setIfInBounds_ne (by omega)]; exact h4⟩, HB.out.setCell (by rw [HAA.out]; exact Nat.le_refl _) _⟩
        by_cases c : u = v
        · subst c; rw [if_pos (by omega), Array.getElem?_setIfInBounds_self_of_lt (by omega)]
        · rw [Array.getElem?_setIfInBounds_ne (by omega), H3.out u hu]
          by_cases d : u < v
          · rw [if_pos d, if_pos (by omega)]
          · rw [if_neg d, if_neg (by omega)]
      case measure => simp [intOf]; omega
    · have e : v = 16 := by omega
      subst e
      have h3' : ∀ u : Nat, u < 16 → cs[u]? = some (.int .i64 16) := fun u hu => by rw [h3 u hu, if_pos hu]
      have hhb : Hb wr w.heap.size a (.slice none 0 0) (fun _ => 0) (St.new n (kA L) (kC L)) 0 := ⟨⟨cs, h1, h2, h3', h4⟩, ⟨rfl, .inl ⟨rfl, rfl⟩⟩, fun i hi => absurd hi (by omega), fun i j hi => absurd hi (by omega), by rw [HAA.out]; exact Nat.le_refl _⟩
      have HHB := Lib.hid hhb
      clear hb h1 h3 h3' hhb H1 H3
      obtain ⟨w1, hw1⟩ : ∃ w1, wr = w1 := ⟨_, rfl⟩
      rw [hw1] at HB HHB ⊢
      clear hw1
      go_wp2
      go_loopw [24] (fun i wr => ∃ (v : Nat) (vo : Value) (q : Nat → Nat), v ≤ n ∧ i = .int .i64 (v : Int) ∧ Hb wr w.heap.size a vo q (St.new n (kA L) (kC L)) v ∧ (∀ j : Nat, j < v → okK (kA L j) (kC L j)) ∧ Below w.heap.size w wr) (fun i _ => n - (intOf i).toNat)
      case atStart => exact ⟨0, _, _, Nat.zero_le _, rfl, HHB.out, fun j hj => absurd hj (by omega), HB.out⟩
      case round =>
        obtain ⟨v, vo, q, hv, rfl, hh, hok, hb⟩ := hrel
        obtain ⟨X1, k1, rfl, _, _⟩ := K.own_form hh.ow
        have HB2 := Lib.hid hb
        have HH := Lib.hid hh
        have HOK := Lib.hid hok
        by_cases hlt : v < n
        · obtain ⟨x, hx⟩ : ∃ x, L[v]? = some x := ⟨_, List.getElem?_eq_getElem (by rw [HN.out]; exact hlt)⟩
          have HX := Lib.hid hx
          have hcell : ∃ b o : Nat, X = some ⟨b, o, none⟩ ∧ wr.cell? ⟨b, o + v * 2, none⟩ = some (.int .i64 x.1) ∧ wr.cell? ⟨b, o + v * 2 + 1, none⟩ = some (.int .i64 x.2) := by
            rcases (HS.out (by rw [HN.out]; omega)).below hb with ⟨_, e, _⟩ | ⟨b, o, e, _, hc⟩
            · rw [e] at hx; simp at hx
            · have hv2 := fun r (hr : r < 2) => K.vals_get (c := K.ck) (z := 2) (fun _ => rfl) L v r x hr hx
              exact ⟨b, o, e, by have := hc _ _ (hv2 0 (by omega)); rwa [Nat.add_zero] at this, by have := hc _ _ (hv2 1 (by omega)); rwa [← Nat.add_assoc] at this⟩
          obtain ⟨b, o, rfl, e0, e1⟩ := hcell
          have hkx := kA_at hx
          have HKX := Lib.hid hkx
          clear hh hok hb hx hkx
          go_upto_block 3 with fail
          go_cut [24] from 24 to 46 (fun i wx => i = .int .i64 (v : Int) ∧ okK x.1 x.2 ∧ ∃ (vo : Value) (q : Nat → Nat), Hb wx w.heap.size a vo q (St.new n (kA L) (kC L)) (v + 1) ∧ Below w.heap.size w wx)
          case first =>
            go_wp2_with fail
            have hal : Below wr.heap.size wr (wr.alloc (.cells #[.int .i64 x.1, .int .i64 x.2] 55)) := (Below.refl wr.heap.size wr).alloc (Nat.le_refl _) _
            have hbox := heap_alloc_new wr (.cells #[.int .i64 x.1, .int .i64 x.2] 55)
            by_cases c : okK x.1 x.2
            · refine (allowed_any x.1 x.2 _ true (decide_eq_true c)).mono ?_
              rintro e w2 ⟨rfl, hb2⟩
              have hb3 := below_trans hal hb2
              have hbox2 := (hb2.block wr.heap.size (lt_of_heap hbox)).trans hbox
              have h2 := HH.out.below hb3
              have HBW2 := Lib.hid (HB2.out.trans (hb3.mono HB2.out.size))
              have HC := Lib.hid c
              obtain ⟨b3, hb3'⟩ : ∃ b3, wr.heap.size = b3 := ⟨_, rfl⟩
              rw [hb3'] at hbox2 ⊢
              have f0 : w2.cell? ⟨b3, 0, none⟩ = some (.int .i64 x.1) := by rw [cell_of_row w2 _ 0 _ 55 (0, 0) hbox2]; rfl
              have f1 : w2.cell? ⟨b3, 1, none⟩ = some (.int .i64 x.2) := by rw [cell_of_row w2 _ 1 _ 55 (0, 0) hbox2]; rfl
              have c16 := h2.c16
              have H2 := Lib.hid h2
              have HBX := Lib.hid hbox2
              have hba : b3 ≠ a := by
                rintro rfl
                obtain ⟨cs, g1, _⟩ := h2.ha
                exact absurd (htype g1 hbox2) (by decide)
              have HBA := Lib.hid hba
              clear hal hbox hb2 hb3 hbox2 hb3' h2 c e0 e1 HH HB2 hba
              go_wp2
              have bnd : v + 1 ≤ 100000 := by omega
              have B2 := Lib.hid HBW2.out.size
              go_region_law (first
                | (refine K.step_append_row K.km (by decide) rfl _ _ rfl w.heap.size (.slice X1 v k1) (rowM (St.new n (kA L) (kC L)) q v) [(x.1, x.2, 0, p)] v (rowM_len _ _ _) rfl hown7 _ 1 1 rfl rfl (K.sr_one K.cm w5 70 (x.1, x.2, 0, p)) bnd (Nat.le_trans B2.out (Nat.le_trans hb5.size ((Below.refl w5.heap.size w5).alloc (Nat.le_refl _) (.cells #[.int .i64 x.1, .int .i64 x.2, .int .i64 0, PtrV p] 70)).size)) (v + 1) rfl ?_
                   intro X8 k8 w8 hown8 hgrow8
                   have h7 := h5.below ((Below.refl w5.heap.size w5).alloc (Nat.le_refl _) (.cells #[.int .i64 x.1, .int .i64 x.2, .int .i64 0, PtrV p] 70))
                   obtain ⟨cs8, g8, _, _, g16⟩ := (h7.grown hgrow8).1
                   have c8 : w8.cell? ⟨a, 16, none⟩ = some (.slice X1 v k1) := (cell_of_row w8 a 16 cs8 66 (0, 0) g8).trans g16
                   have z8 := frozen_of_row w8 a 16 cs8 66 g8)
                | (go_simp
                   go_at_call 35
                   refine (new_ok (x.1 != 0) _).mono ?_
                   rintro en w5 ⟨p, hp1, rfl, hp2, hb5⟩
                   have h5 := (H2.out.below (below_drewN w2 1)).below hb5
                   have c5 := h5.c16
                   obtain ⟨f5, f6⟩ := two_below hb5 (show w2.drew.cell? ⟨b3, 0, none⟩ = some (.int .i64 x.1) ∧ w2.drew.cell? ⟨b3, 1, none⟩ = some (.int .i64 x.2) from ⟨f0, f1⟩)
                   have c7 := (h5.below ((Below.refl w5.heap.size w5).alloc (Nat.le_refl _) (.cells #[.int .i64 x.1, .int .i64 x.2, .int .i64 0, PtrV p] 70))).c16
                   have hown7 := K.own_below h5.ow ((Below.refl w5.heap.size w5).alloc (Nat.le_refl _) (.cells #[.int .i64 x.1, .int .i64 x.2, .int .i64 0, PtrV p] 70))))
              all_goals
                have hln : Ln (w5.alloc (.cells #[.int .i64 x.1, .int .i64 x.2, .int .i64 0, PtrV p] 70)) p 87 ((St.new n (kA L) (kC L)).bp v) ((St.new n (kA L) (kC L)).Q v) := by
                  have e : (St.new n (kA L) (kC L)).bp v = (x.1 != 0) := by
                    show decide (kA L v ≠ 0) = (x.1 != 0)
                    rw [HKX.out.1, Bool.eq_iff_iff]; simp
                  rw [e]
                  exact hp2.alloc _
                have hpB : w.heap.size ≤ p := Nat.le_trans B2.out hp1
                have hne : ∀ i, i < v → q i ≠ p := fun i hi e => by
                  have h1 := (H2.out.hl i hi).1.lt
                  have h2 : w2.heap.size ≤ p := hp1
                  omega
                have hrow : (x.1, x.2, (0 : Int), p) = ((St.new n (kA L) (kC L)).A v, (St.new n (kA L) (kC L)).C v, (St.new n (kA L) (kC L)).O v, p) := by
                  show _ = (kA L v, kC L v, (0 : Int), p)
                  rw [HKX.out.1, HKX.out.2]
                rw [hrow] at hown8
                have HST := Lib.hid (h7.step hln hpB hne hgrow8 hown8)
                have hb7 : Below w.heap.size w (w5.alloc (.cells #[.int .i64 x.1, .int .i64 x.2, .int .i64 0, PtrV p] 70)) := (HBW2.out.trans ((below_trans (below_drewN w2 1) hb5).mono B2.out)).alloc (Nat.le_trans B2.out hb5.size) _
                have HB8 := Lib.hid (((hb7.grown hgrow8 hb7.size (fun k hk => (hown7.lt k hk).1)).setCell (p := ⟨a, 16, none⟩) (by rw [HAA.out]; exact Nat.le_refl _) (.slice X8 (v + 1) k8)))
                go_wp2
                go_meet
                exact ⟨rfl, HC.out, _, _, HST.out, HB8.out⟩
            · refine (allowed_any x.1 x.2 _ false (decide_eq_false c)).mono ?_
              rintro e w2 ⟨rfl, hb2⟩
              have HB3 := Lib.hid (HB2.out.trans ((below_trans hal hb2).mono HB2.out.size))
              have HC := Lib.hid c
              have hbox2 := (hb2.block wr.heap.size (lt_of_heap hbox)).trans hbox
              clear hal hbox hb2 c e0 e1 HH HB2
              go_wp2
              go_ret2
              exact ⟨HB3.out, .inl ⟨⟨x, List.mem_of_getElem? HX.out, HC.out⟩, rfl⟩⟩
          case rest =>
            obtain ⟨rfl, hcx, vo2, q2, hst, hb8⟩ := hcut
            have HST := Lib.hid hst
            have HB8 := Lib.hid hb8
            clear hst hb8 e0 e1
            go_wp2
            go_roundw
            case rel =>
              refine ⟨v + 1, _, _, by omega, by go_num, HST.out, fun j hj => ?_, HB8.out⟩
              by_cases e : j = v
              · subst e; rw [HKX.out.1, HKX.out.2]; exact hcx
              · exact HOK.out j (by omega)
            case measure => simp [intOf]; omega
        · have e : v = n := by omega
          subst e
          clear hh hok hb
          go_wp2
          go_ret2
          obtain ⟨g, hmx, hgB⟩ := Hb.mx (S := St.new v (kA L) (kC L)) HH.out
          refine ⟨HB2.out, .inr ⟨fun x hx => ?_, a, g, q, rfl, hmx, by rw [HAA.out]; exact Nat.le_refl _, hgB, fun i hi => (HH.out.hl i hi).2⟩⟩
          obtain ⟨j, hj⟩ := List.getElem?_of_mem hx
          have := (List.getElem?_eq_some_iff.1 hj).1
          have h2 := HOK.out j (by rw [HN.out] at this; exact this)
          rw [(kA_at hj).1, (kA_at hj).2] at h2
          exact h2
end Go.Proofs.Ytmicinenggkmlaa
