/- The document's own ring: Get. -/
import Derived.Test.YtneimdjgbblaoaaRgRefB
namespace Go.Proofs.Ytneimdjgbblaoaa.R
open Go.RowKit
set_option maxRecDepth 100000

/-- Block g holds the bytes of the text s. -/
def Bk (w : World) (g : Nat) (s : ByteArray) : Prop :=
  ∃ (cs : Array Value) (fr : Nat × Nat), w.heap[g]? = some (.cells cs 5 fr) ∧ ∀ j (hj : j < s.data.toList.length), cs[j]? = some (.int .u8 (s.data.toList[j].toNat : Int))
theorem Bk.lt {w : World} {g : Nat} {s : ByteArray} (h : Bk w g s) : g < w.heap.size := by obtain ⟨cs, fr, h, _⟩ := h; exact lt_of_heap h
theorem Bk.keep {w w' : World} {g : Nat} {s : ByteArray} (h : Bk w g s) (e : w'.heap[g]? = w.heap[g]?) : Bk w' g s := by obtain ⟨cs, fr, h1, h2⟩ := h; exact ⟨cs, fr, e.trans h1, h2⟩
theorem Bk.below {w w' : World} {g : Nat} {s : ByteArray} (h : Bk w g s) (k : Below w.heap.size w w') : Bk w' g s := h.keep (k.block g h.lt)
theorem Bk.only {w w' : World} {g p m : Nat} {s : ByteArray} (h : Bk w g s) (k : Only p m w w') (h1 : g ≠ p) (h2 : g ≠ m) : Bk w' g s := h.keep (k.block g h.lt h1 h2)
theorem Bk.str {w : World} {g cap n : Nat} {s : ByteArray} (h : Bk w g s) (hn : s.size = n) : (convert 31 9 (.slice (some ⟨g, 0, none⟩) n cap)).run Try.prog w = .ok (.string s) w := by
  subst hn
  obtain ⟨cs, fr, h1, h2⟩ := h
  have hl : s.data.toList.length = s.size := Array.length_toList
  have := run_convert_bytes_back (P := Try.prog) w 31 9 5 ⟨g, 0, none⟩ cap s.data.toList Try.underlying31 Try.underlying5 Try.underlying9 (fun j hj => by
    rw [add_at, Nat.zero_add, cell_of_row w g j cs 5 fr h1]; exact h2 j hj)
  rw [hl] at this
  rw [this]

theorem bytes_of (w : World) (s : ByteArray) : ∃ (cap : Nat) (wa : World), (convert 9 31 (.string s)).run Try.prog w = .ok (.slice (some ⟨w.heap.size, 0, none⟩) s.size cap) wa ∧ Bk wa w.heap.size s ∧ Below w.heap.size w wa := by
  refine ⟨_, _, run_bytes_of_string (P := Try.prog) w 9 31 5 s Try.underlying9 Try.underlying31 Try.underlying5, ⟨_, _, heap_alloc_new _ _, fun j hj => ?_⟩, ((Below.refl _ _).drew).alloc (Nat.le_refl _) _⟩
  have hj' : j < s.data.size := by simpa using hj
  unfold bytesRow
  rw [Array.getElem?_append_left (by simpa using hj'), Array.getElem?_map, Array.getElem?_eq_getElem hj']
  simp

theorem elem39 : Try.prog.elem 71 = 9 := by kernel_rfl
theorem size39 (W : World) : (sizeOf (Try.prog.elem 71)).run Try.prog W = .ok 1 W := by
  obtain ⟨i0, hi, _, hz1, _⟩ := info_parts info9'
  rw [elem39]; simp [sizeOf, typeInfo, hi, hz1]
/-- r.L[1:] -/
theorem cut_one {w : World} {X : Option Addr} {n k : Nat} {x : List Int} {L : List (List Int)} (h : Sl w (.slice X (n + 1) k) (x :: L)) (hn : L.length = n) : ∃ (X2 : Option Addr) (k2 : Nat),
    (∀ W : World, (Instr.slice 71 (.slice X (n + 1) k) (some (.int .i64 1)) none none).run Try.prog W = .ok (.slice X2 n k2) W) ∧ Sr w X2 k2 L := by
  have hu : Try.prog.underlying 71 = some (.slice (Try.prog.elem 71)) := by kernel_rfl
  subst hn
  rcases h with ⟨_, h⟩ | ⟨g, o, c, cs, h1, h2, h3, h4, h5⟩
  · cases h
  · injection h1 with h1 _ h6
    subst h1 h6
    simp only [List.length_cons] at h2
    have hrun : ∀ W : World, (Instr.slice 71 (.slice (some ⟨g, o, none⟩) (L.length + 1) k) (some (.int .i64 1)) none none).run Try.prog W = .ok (.slice (if k = 1 then some ⟨g, o, none⟩ else some ⟨g, o + 1, none⟩) L.length (k - 1)) W := fun W => by
      have := run_slice_l W 71 (some ⟨g, o, none⟩) (L.length + 1) k hu .i64 1 (by omega) (by omega)
      rw [size39] at this
      rw [this]
      by_cases c1 : k = 1 <;> simp [Result.andThen, sliced, c1, add_at]
    by_cases c1 : k = 1
    · refine ⟨_, _, hrun, ?_⟩
      obtain rfl : L = [] := List.eq_nil_of_length_eq_zero (by omega)
      rw [if_pos c1]
      exact .inr ⟨g, o, rfl, lt_of_heap h4, fun j u hu => by simp [vals] at hu⟩
    · refine ⟨_, _, hrun, ?_⟩
      rw [if_neg c1]
      refine .inr ⟨g, o + 1, rfl, lt_of_heap h4, fun j u hu => ?_⟩
      rw [cell_of_row w g _ cs 9 (0, 0) h4]
      have := h5 (j + 1) u (by simpa [vals] using hu)
      have e : o + 1 + j = o + (j + 1) := by omega
      rw [e]; exact this

set_option maxHeartbeats 400000 in
theorem rget_none (q N : Nat) (w : World) (h : Rf w q N []) :
    Calls Try.prog 51 #[.pointer (some ⟨q, 0, none⟩)] w fun e w' => e = .returned (.tuple #[.slice none 0 0, .bool false]) ∧ w = w' := by
  obtain ⟨X, k, _, c1, _⟩ := h.open
  rw [List.length_nil] at c1
  clear h
  go_enter Try.func51, Try.ntmps51
  go_wp2
  go_ret2
  exact ⟨rfl, rfl⟩

def RGet (q N : Nat) (x : List Int) (L : List (List Int)) (w : World) (e : Ending) (w' : World) : Prop :=
  ∃ g k : Nat, w.heap.size ≤ g ∧ e = .returned (.tuple #[.slice (some ⟨g, 0, none⟩) x.length k, .bool true]) ∧ Bk w' g (str x) ∧ Rf w' q N L ∧ Only q q w w'

set_option maxHeartbeats 1600000 in
theorem rget_some (q N : Nat) (x : List Int) (L : List (List Int)) (w : World) (h : Rf w q N (x :: L)) (hl : L.length ≤ 20000) :
    Calls Try.prog 51 #[.pointer (some ⟨q, 0, none⟩)] w (RGet q N x L w) := by
  obtain ⟨n, hnn⟩ : ∃ n, L.length = n := ⟨_, rfl⟩
  obtain ⟨X, k, _, c1, hsl, hk1, hk2, hz⟩ := h.open
  obtain ⟨g, o, rfl, hc⟩ := sl_open hsl (by simp)
  have hcx := hc 0 x rfl
  rw [Nat.add_zero] at hcx
  rw [List.length_cons, hnn] at c1 hk1 hsl
  obtain ⟨cap, wa, hcv, hbk, hba⟩ := bytes_of w (str x)
  obtain ⟨X2, k2, hcut, hsr⟩ := cut_one hsl hnn
  have hsz := str_size x
  rw [hsz] at hcv
  have HH := Lib.hid (h.below hba)
  have hqa := (hba.cell (p := ⟨q, 1, none⟩) (block_lt_of_cell c1)).trans c1
  have HSR := Lib.hid (hsr.below hba)
  have HBK := Lib.hid hbk
  have HBA := Lib.hid hba
  have HNN := Lib.hid hnn
  have gq : w.heap.size ≠ q := by have := h.lt; omega
  have q1 : ((n : Int) + 1 == 0) = false := by simp; omega
  have lq : q < wa.heap.size := Nat.lt_of_lt_of_le h.lt hba.size
  rw [hnn] at hl
  clear hnn h hc hsl hbk hba hsr hsz
  unfold RGet
  generalize str x = s at *
  generalize x.length = y at *
  go_enter Try.func51, Try.ntmps51
  go_wp2_with (first
    | (at_builtin; refine wpList_append_row rfl _ _ rfl wa.heap.size (.slice (some ⟨wa.heap.size, 0, none⟩) 0 0) [] L 0 rfl rfl (own0 _ (Nat.le_refl _)) X2 n k2 rfl HNN.out (HSR.out.below ((Below.refl _ _).alloc (Nat.le_refl _) _)) (by omega) (by simp) n (Nat.zero_add _) ?_; intro Y1 j1 w1 hown1 hg1; have hb1 : Below wa.heap.size wa w1 := ((Below.refl _ _).alloc (Nat.le_refl _) _).grown hg1 (by simp) (fun k hk => by simp [Value.ownBlock] at hk; omega); obtain ⟨X5, k5, _, hc5, _, _, _, hz5⟩ := (HH.out.below hb1).open))
  go_ret2
  have hba := HBA.out
  have hb1' := hba.trans (hb1.mono hba.size)
  obtain ⟨X6, k6, e6, h61, h62⟩ := own_form9 hown1
  injection e6 with e6 _ e7
  subst e6 e7
  refine ⟨w.heap.size, cap, Nat.le_refl _, rfl, ?_, (HH.out.below hb1).set (L' := L) Y1 n j1 HNN.out (Sl.own HNN.out (by simpa using hown1)) h61 h62, (Only.of_below hb1').setCell (q := ⟨q, 1, none⟩) (.inl rfl) _⟩
  exact (HBK.out.below hb1).keep (Below.heap_setCell w1 ⟨q, 1, none⟩ _ _ gq)
end Go.Proofs.Ytneimdjgbblaoaa.R
