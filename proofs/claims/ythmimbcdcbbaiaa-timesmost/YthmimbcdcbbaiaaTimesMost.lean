/-
  PROVED: the Go function detentlaw1.TimesMost returns true for every input, and each argument reads behind the call as it read before (Rows.TimesMostSaid). No condition.
-/
import Derived.Test.YthmimbcdcbbaiaaRows
import Derived.Test.YthmimbcdcbbaiaaConK
import Derived.WalkKit
import Derived.ProofKit
import Derived.OpenShut
import Derived.ShutString
import Derived.ChangeOld
import Derived.Below
namespace Go.Proofs.Ythmimbcdcbbaiaa.timesMost
open Go.ChangeShapes Go.WideShapes Go.ChangeAt Go.RowKit
open Go.ChangeMaps (open_string shut_string)
set_option linter.unusedVariables false

theorem own : ownKnob Try.prog.godebug = none := by kernel_rfl
theorem laidOut : laidOutB Try.prog = true := by kernel_rfl

/-- WHAT THE WALK IS TOLD OF A SLICE OF INTEGERS THAT CAME IN: it is nil; or it leads to a row of 'cap' cells, the numbers 'zs' (the first 'len' are its elements, the rest its spare room), each fitting its kind. -/
def IsRow (k : IntKind) (w : World) (a : Option Addr) (len cap : Nat) (zs : List Int) : Prop :=
  (a = none ∧ len = 0 ∧ cap = 0 ∧ zs = []) ∨
  ∃ x, a = some x ∧ len ≤ cap ∧ cap ≤ maxLen ∧ zs.length = cap ∧ (∀ i, i < zs.length → w.cell? (x.add i) = some (.int k (zs.getD i 0))) ∧ ∀ n ∈ zs, (Lit.int k n).wf = true

theorem lt_of_cell {w : World} {p : Addr} {v : Value} (h : w.cell? p = some v) : p.block < w.heap.size := by
  rcases Nat.lt_or_ge p.block w.heap.size with g | g
  · exact g
  · have e : w.heap[p.block]? = none := by simp; omega
    simp [World.cell?, e] at h
theorem add_eq (b off i : Nat) : (⟨b, off, none⟩ : Addr).add i = ⟨b, off + i, none⟩ := by cases i <;> simp [Addr.add]
theorem max_ge (f : Nat → Int) (n : Nat) : ∀ i, i ≤ n → f i ≤ maxUp f n := by
  induction n with
  | zero => intro i hi; obtain rfl : i = 0 := by omega
            exact Int.le_refl _
  | succ k ih =>
    intro i hi
    simp only [maxUp]
    by_cases h : i = k + 1
    · subst h; split <;> omega
    · have := ih i (by omega); split <;> omega
theorem max_mem (f : Nat → Int) (n : Nat) : ∃ i, i ≤ n ∧ f i = maxUp f n := by
  induction n with
  | zero => exact ⟨0, Nat.le_refl _, rfl⟩
  | succ k ih =>
    simp only [maxUp]
    obtain ⟨i, hi, h⟩ := ih
    split
    · exact ⟨k + 1, Nat.le_refl _, rfl⟩
    · exact ⟨i, by omega, h⟩
theorem min_le (f : Nat → Int) (n : Nat) : ∀ i, i ≤ n → minUp f n ≤ f i := by
  induction n with
  | zero => intro i hi; obtain rfl : i = 0 := by omega
            exact Int.le_refl _
  | succ k ih =>
    intro i hi
    simp only [minUp]
    by_cases h : i = k + 1
    · subst h; split <;> omega
    · have := ih i (by omega); split <;> omega
theorem min_mem (f : Nat → Int) (n : Nat) : ∃ i, i ≤ n ∧ f i = minUp f n := by
  induction n with
  | zero => exact ⟨0, Nat.le_refl _, rfl⟩
  | succ k ih =>
    simp only [minUp]
    obtain ⟨i, hi, h⟩ := ih
    split
    · exact ⟨k + 1, Nat.le_refl _, rfl⟩
    · exact ⟨i, by omega, h⟩
/-- has one of the first k numbers that value? -/
def anyB (f : Nat → Int) (v : Int) : Nat → Bool
  | 0 => false
  | k + 1 => anyB f v k || f k == v
theorem anyB_of (f : Nat → Int) (v : Int) (n i : Nat) (h : i < n) (e : f i = v) : anyB f v n = true := by
  induction n with
  | zero => omega
  | succ k ih =>
    simp only [anyB]
    by_cases c : i = k
    · subst c; simp [e]
    · simp [ih (by omega)]
theorem big (a : Option Addr) (len cap : Nat) (h : 200 < len) (w : World) :
    Calls Try.prog 6 #[.slice a len cap] w fun e w' => e = .returned (.bool true) ∧ Below w.heap.size w w' := by
  have h' : (200 : Int) < len := by omega
  go_enter Try.func6, Try.ntmps6
  go_wp2_with fail
  refine (known_any _).mono ?_; rintro e w1 ⟨rfl, hg, hb⟩
  go_wp2
  go_ret
  exact ⟨rfl, hb⟩
theorem empty (a : Option Addr) (cap : Nat) (w : World) :
    Calls Try.prog 6 #[.slice a 0 cap] w fun e w' => e = .returned (.bool true) ∧ Below w.heap.size w w' := by
  go_enter Try.func6, Try.ntmps6
  go_wp2_with fail
  refine (known_any _).mono ?_; rintro e w1 ⟨rfl, hg, hb⟩
  go_wp2_with fail
  refine (max_nil _ _ _).mono ?_; rintro e w' ⟨rfl, rfl⟩
  go_wp2_with fail
  refine (min_nil _ _ _).mono ?_; rintro e w' ⟨rfl, rfl⟩
  go_wp2
  go_ret
  exact ⟨rfl, hb⟩
set_option maxRecDepth 100000 in
set_option maxHeartbeats 1000000 in
theorem more (f : Nat → Int) (b off n cap : Nat) (hn : n + 1 ≤ cap) (hc : cap ≤ maxLen) (hlen : n < 200) (w : World)
    (hb0 : b < w.heap.size) (hcell : ∀ i, i < n + 1 → w.cell? ⟨b, off + i, none⟩ = some (.int .i64 (f i))) :
    Calls Try.prog 6 #[.slice (some ⟨b, off, none⟩) (n + 1) cap] w fun e w' => e = .returned (.bool true) ∧ Below w.heap.size w w' := by
  have hl1 : ((n : Int) + 1 == 0) = false := by simp; omega
  have hl2 : decide ((200 : Int) < (n : Int) + 1) = false := by simp; omega
  have HC := Lib.hid hcell
  have HX := Lib.hid (max_ge f n)
  have HN := Lib.hid (min_le f n)
  have HXm := Lib.hid (max_mem f n)
  have HNm := Lib.hid (min_mem f n)
  clear hcell
  go_enter Try.func6, Try.ntmps6
  go_wp2_with fail
  refine (known_any _).mono ?_; rintro e w1 ⟨rfl, hg, hb⟩
  have HC1 := Lib.hid (show ∀ i, i < n + 1 → w1.cell? ⟨b, off + i, none⟩ = some (.int .i64 (f i)) from fun i hi => (hb.cell (p := ⟨b, off + i, none⟩) hb0).trans (HC.out i hi))
  go_wp2_with fail
  refine (max_any f _ _ _ n cap hn hc HC1.out).mono ?_; rintro e w' ⟨rfl, rfl⟩
  go_wp2_with fail
  refine (min_any f _ _ _ n cap hn hc HC1.out).mono ?_; rintro e w' ⟨rfl, rfl⟩
  generalize maxUp f n = hi at *
  generalize minUp f n = lo at *
  go_wp2
  go_loop [5, 6, 7] (fun u d i => ∃ k : Nat, k ≤ n + 1 ∧ i = .int .i64 k ∧ u = .bool (anyB f hi k) ∧ d = .bool (anyB f lo k)) (fun _ _ i => n + 1 - (intOf i).toNat)
  case atStart => exact ⟨0, Nat.zero_le _, rfl, rfl, rfl⟩
  case round =>
    obtain ⟨k, hk, rfl, rfl, rfl⟩ := hrel
    by_cases hlt : k < n + 1
    · have hck := HC1.out k hlt
      have hx := HX.out k (by omega)
      have hn' := HN.out k (by omega)
      cases hA : anyB f hi k <;> cases hB : anyB f lo k
      all_goals
        go_wp2
        go_round
        case rel => exact ⟨k + 1, by omega, by go_num, by simp [anyB, hA], by simp [anyB, hB]⟩
        case measure => simp [intOf]; omega
    · have hlt' : decide ((k : Int) < (n : Int) + 1) = false := by simp; omega
      have hA : anyB f hi k = true := by obtain ⟨i, h1, h2⟩ := HXm.out; exact anyB_of f hi k i (by omega) h2
      have hB : anyB f lo k = true := by obtain ⟨i, h1, h2⟩ := HNm.out; exact anyB_of f lo k i (by omega) h2
      go_wp2
      go_ret
      exact ⟨rfl, hb⟩

/-! ### STEP 1: THE WALK: the Go text returns true, AND WRITES NOTHING THAT WAS THERE: 'Below w.heap.size w w'' (Derived/Below.lean: '.refl', '.alloc', '.drew', '.setCell' at a new block, '.trans'). Open each 'IsRow' by 'rcases' AHEAD of 'go_enter'; part every test ahead of the walk. -/
theorem walk (a0 : Option Addr) (len0 cap0 : Nat) (z0 : List Int) (w : World) (w0 : IsRow .i64 w a0 len0 cap0 z0) :
    Calls Try.prog 6 #[.slice a0 len0 cap0] w fun e w' => e = .returned (.bool true) ∧ Below w.heap.size w w' := by
  rcases w0 with ⟨rfl, rfl, rfl, rfl⟩ | ⟨x, rfl, hl, hm, hz, hcell, hwz⟩
  · exact empty none 0 w
  · by_cases c : 200 < len0
    · exact big _ len0 cap0 c w
    · match len0, c, hl with
      | 0, _, _ => exact empty _ cap0 w
      | n + 1, c, hl =>
        obtain ⟨b, off, spot⟩ := x
        have hc0 := hcell 0 (by omega)
        have hspot : spot = none := by simpa [Addr.add] using World.cell?_spot hc0
        subst hspot
        exact more (fun i => z0.getD i 0) b off n cap0 hl hm (by omega) w (lt_of_cell hc0) fun i hi => by rw [← add_eq]; exact hcell i (by omega)

/-! ### THE ROW's STEP: WRITTEN OUT: LEAVE IT -/
set_option maxRecDepth 100000 in
theorem lifted (os : Os) (started : os.Started) (H : Type) (enc : TypeId × Value → H) :
    ReturnsInHanded {} Try.checked os 6 .any (Rows.timesMostSpec.pre6 enc Try.prog Try.f6 Rows.timesMostRow.domain false) (Rows.timesMostSpec.post enc Try.prog Try.f6 false true false false) := by
  refine returnsInHanded_of_change (C := Try.checked) own started (by kernel_rfl) Try.func6
    (ChangeSpec.witness6 (enc := enc) (C := Try.checked) false ⟨#[], #[.slice none 0 0], []⟩ 8 (by kernel_rfl) (by kernel_rfl) (by kernel_rfl) (by kernel_rfl)) ?_
  intro W base args ds gs before hval0 hW hcnd _
  have hval : ∀ (j : Nat) t v, Try.f6.params[j]? = some t → args[j]? = some v → Value.okWide Try.prog W .any base t v := hval0
  have hW' := hW
  obtain ⟨p, q, hA0, hV, rfl, hfz, hnd⟩ := hW
  have hA : DataW.TrodAll enc Try.prog W 0 (fun _ => true) true Try.f6.params.toList args.toList ds p := hA0
  rw [Try.params6] at hA hval
  obtain ⟨v0, vs0, d0, ds0, p0, q0, hargs, rfl, rfl, h0, r0⟩ := trodAll_cons hA
  obtain ⟨rfl, rfl, rfl⟩ := trodAll_nil r0
  obtain rfl : args = #[v0] := by cases args; simp_all
  obtain ⟨rfl, rfl⟩ := trodVars_none hV
  obtain ⟨a0, len0, cap0, rfl⟩ := okWide_slice Try.underlying37 (hval 0 37 v0 rfl rfl)
  have k0 := h0
  have lt0 : ∀ x ∈ p0, x.block < W.heap.size := by obtain ⟨m, hm⟩ := k0; exact DataW.trod_lt m _ _ _ hm
  obtain ⟨z0, w0⟩ : ∃ zs, IsRow .i64 W a0 len0 cap0 zs := by
    obtain ⟨fuel, hf⟩ := h0
    rcases open_ints Try.underlying37 Try.underlying3 (by kernel_rfl) hf with ⟨hcs, _⟩ | ⟨x, l, c, zs, hcs, _, hl, hm, hz, _, hcell, hwz⟩
    · simp [Value.cells] at hcs
      obtain ⟨rfl, rfl, rfl⟩ := hcs
      exact ⟨[], .inl ⟨rfl, rfl, rfl, rfl⟩⟩
    · simp [Value.cells] at hcs
      obtain ⟨rfl, rfl, rfl⟩ := hcs
      exact ⟨zs, .inr ⟨_, rfl, hl, hm, by simpa using hz, hcell, hwz⟩⟩
  clear hA0 hval0
  refine (walk a0 len0 cap0 z0 W w0).mono fun e W' ⟨he, bel⟩ => ?_
  subst he
  exact ⟨_, rfl, _, _, _, [], _, [], hW', trodAll_mk1 (shut_bool Try.underlying4 _), (trodAll_cons_mk (Below.trod laidOut (by kernel_rfl) (of_decide_eq_true (by kernel_rfl)) k0 bel lt0) trodAll_mk0), rfl, bel.frame _, fun h => by cases h⟩

theorem over : Rows.timesMostRow.holds Try.pinned (OpenSpec.ofChange Rows.timesMostSpec) :=
  OpenClaim.holds_of_wide 6 Try.f6 rfl rfl rfl rfl rfl rfl rfl ⟨rfl, rfl, rfl, rfl, rfl⟩ rfl rfl rfl rfl rfl (by kernel_rfl) Try.func6 (by kernel_rfl)
    (of_decide_eq_true (by kernel_rfl)) (by unfold Func.isWrapper; first | (rw [if_pos (by decide +kernel)]; kernel_rfl) | (rw [if_neg (by decide +kernel)]; exact ⟨rfl, rfl⟩))
    (fun os started H enc _ => lifted os started H enc)

/-- ████ THE STATEMENT ████ -/
theorem proved : Rows.TimesMostSaid := over
#print axioms proved
end Go.Proofs.Ythmimbcdcbbaiaa.timesMost
namespace Go.Proofs.Ythmimbcdcbbaiaa
theorem timesMost_holds : Rows.TimesMostSaid := timesMost.proved
end Go.Proofs.Ythmimbcdcbbaiaa
