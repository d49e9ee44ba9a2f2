/-
  PROVED: the Go function detentlaw1.TimesSums returns true for every input, and each argument reads behind the call as it read before (Rows.TimesSumsSaid). No condition.
-/
import Derived.Test.YthmimbcdcbbaiaaRows
import Derived.Test.YthmimbcdcbbaiaaConK
import Derived.WalkKit
import Derived.ProofKit
import Derived.OpenShut
import Derived.ShutString
import Derived.ChangeOld
import Derived.Below
namespace Go.Proofs.Ythmimbcdcbbaiaa.timesSums
open Go.ChangeShapes Go.WideShapes Go.ChangeAt Go.RowKit
open Go.ChangeMaps (open_string shut_string)
set_option linter.unusedVariables false

theorem own : ownKnob Try.prog.godebug = none := by kernel_rfl
theorem laidOut : laidOutB Try.prog = true := by kernel_rfl

/-- WHAT THE WALK IS TOLD OF A SLICE OF INTEGERS THAT CAME IN: it is nil; or it leads to a row of 'cap' cells, the numbers 'zs' (the first 'len' are its elements, the rest its spare room), each fitting its kind. -/
def IsRow (k : IntKind) (w : World) (a : Option Addr) (len cap : Nat) (zs : List Int) : Prop :=
  (a = none ∧ len = 0 ∧ cap = 0 ∧ zs = []) ∨
  ∃ x, a = some x ∧ len ≤ cap ∧ cap ≤ maxLen ∧ zs.length = cap ∧ (∀ i, i < zs.length → w.cell? (x.add i) = some (.int k (zs.getD i 0))) ∧ ∀ n ∈ zs, (Lit.int k n).wf = true

theorem lt_of_cell {w : World} {p : Addr} {v : Value} (h : w.cell? p = some v) : p.block < w.heap.size := by
  rcases Nat.lt_or_ge p.block w.heap.size with g | g
  · exact g
  · have e : w.heap[p.block]? = none := by simp; omega
    simp [World.cell?, e] at h
theorem add_eq (b off i : Nat) : (⟨b, off, none⟩ : Addr).add i = ⟨b, off + i, none⟩ := by cases i <;> simp [Addr.add]
/-- the first k numbers added up -/
def sumZ (f : Nat → Int) : Nat → Int
  | 0 => 0
  | k + 1 => sumZ f k + f k
/-- the time behind the first k steps -/
def accZ (f : Nat → Int) (t : Int) : Nat → Int
  | 0 => t
  | k + 1 => M.addZ (accZ f t k) (f k)
theorem sum_bd (f : Nat → Int) (n : Nat) (hf : ∀ i, i < n → 0 ≤ f i ∧ f i ≤ 4294967295) : ∀ k, k ≤ n → 0 ≤ sumZ f k ∧ sumZ f k ≤ 4294967295 * k := by
  intro k
  induction k with
  | zero => intro _; simp [sumZ]
  | succ k ih =>
    intro hk
    have := ih (by omega); have := hf k (by omega)
    simp only [sumZ]; omega
theorem acc_eq (f : Nat → Int) (t : Int) : ∀ k, M.addZ (accZ f t k) 0 = M.addZ t (sumZ f k) := by
  intro k
  induction k with
  | zero => rfl
  | succ k ih => revert ih; simp only [accZ, sumZ]; unfold M.addZ; omega
theorem rnd (t : Int) (h : 0 ≤ t) : M.addZ t 281474976710656 = t % 281474976710656 := by unfold M.addZ; omega
theorem gp (t s : Int) (h : 0 ≤ s) (h2 : s ≤ 429496729500) : M.gapZ t (M.addZ t s) = s := by unfold M.addZ M.gapZ; omega
set_option maxRecDepth 100000 in
theorem big (t : Int) (a : Option Addr) (len cap : Nat) (h : 100 < len) (w : World) :
    Calls Try.prog 9 #[.int .u64 t, .slice a len cap] w fun e w' => e = .returned (.bool true) ∧ Below w.heap.size w w' := by
  have h' : decide ((100 : Int) < len) = true := by simp; omega
  clear h
  go_enter Try.func9, Try.ntmps9
  go_wp2_with fail
  refine (known_any _).mono ?_; rintro e w1 ⟨rfl, hg, hb⟩
  go_wp2
  go_ret
  exact ⟨rfl, hb⟩
set_option maxRecDepth 100000 in
set_option maxHeartbeats 1000000 in
theorem all (t : Int) (ht : 0 ≤ t) (f : Nat → Int) (a : Option Addr) (n cap : Nat) (hlen : n ≤ 100) (w : World) (hf : ∀ i, i < n → 0 ≤ f i ∧ f i ≤ 4294967295)
    (hcell : n = 0 ∨ ∃ b off, a = some ⟨b, off, none⟩ ∧ b < w.heap.size ∧ ∀ i, i < n → w.cell? ⟨b, off + i, none⟩ = some (.int .u32 (f i))) :
    Calls Try.prog 9 #[.int .u64 t, .slice a n cap] w fun e w' => e = .returned (.bool true) ∧ Below w.heap.size w w' := by
  have hl2 : decide ((100 : Int) < (n : Int)) = false := by simp; omega
  have HL := Lib.hid hlen
  have HC := Lib.hid hcell
  have HF := Lib.hid hf
  have HS := Lib.hid (sum_bd f n hf)
  have HA := Lib.hid (acc_eq f t)
  clear hcell hf hlen
  go_enter Try.func9, Try.ntmps9
  go_wp2_with fail
  refine (known_any _).mono ?_; rintro e w1 ⟨rfl, hg, hb⟩
  have HC1 := Lib.hid (show n = 0 ∨ ∃ b off, a = some ⟨b, off, none⟩ ∧ ∀ i, i < n → w1.cell? ⟨b, off + i, none⟩ = some (.int .u32 (f i)) from HC.out.imp id fun ⟨b, off, h1, h2, h3⟩ => ⟨b, off, h1, fun i hi => (hb.cell (p := ⟨b, off + i, none⟩) h2).trans (h3 i hi)⟩)
  clear HC
  go_wp2
  go_loop [5, 6, 7] (fun x s i => ∃ k : Nat, k ≤ n ∧ i = .int .i64 k ∧ x = .int .u64 (accZ f t k) ∧ s = .int .u64 (sumZ f k)) (fun _ _ i => n - (intOf i).toNat)
  case atStart => exact ⟨0, Nat.zero_le _, rfl, rfl, rfl⟩
  case round =>
    obtain ⟨k, hk, rfl, rfl, rfl⟩ := hrel
    by_cases hlt : k < n
    · obtain ⟨b, off, hab, hc⟩ := HC1.out.resolve_left (by omega)
      subst hab
      have hck := hc k hlt
      obtain ⟨f0, f1⟩ := HF.out k hlt
      obtain ⟨s0, s1⟩ := HS.out k hk
      have s2 : sumZ f k ≤ 429496729500 := by have := HL.out; omega
      have k100 : (k : Int) ≤ 100 := by have := HL.out; omega
      clear hc HC1 s1
      go_wp2_with fail
      refine (add_any _ _ _ rfl _).mono ?_; rintro e w' ⟨rfl, rfl⟩
      go_wp2
      go_round
      case rel => exact ⟨k + 1, by omega, by go_num, rfl, rfl⟩
      case measure => simp [intOf]; omega
    · have hlt' : decide ((k : Int) < (n : Int)) = false := by simp; omega
      obtain ⟨s0, s1⟩ := HS.out k hk
      have s2 : sumZ f k ≤ 429496729500 := by have := HL.out; omega
      clear s1
      generalize hs : sumZ f k = s at *
      have EA := Lib.hid (HA.out k)
      rw [hs] at EA
      clear hs
      generalize accZ f t k = x at *
      go_wp2_with fail
      refine (add_any _ _ _ EA.out _).mono ?_; rintro e w' ⟨rfl, rfl⟩
      go_wp2_with fail
      refine (add_any _ _ _ rfl _).mono ?_; rintro e w' ⟨rfl, rfl⟩
      go_wp2_with fail
      refine (add_any _ _ _ (rnd t ht) _).mono ?_; rintro e w' ⟨rfl, rfl⟩
      go_wp2_with fail
      refine (add_any _ _ _ rfl _).mono ?_; rintro e w' ⟨rfl, rfl⟩
      go_wp2_with fail
      refine (gap_any _ _ _ (gp t s s0 s2) _).mono ?_; rintro e w' ⟨rfl, rfl⟩
      go_wp2
      go_ret
      exact ⟨rfl, hb⟩

/-! ### STEP 1: THE WALK: the Go text returns true, AND WRITES NOTHING THAT WAS THERE: 'Below w.heap.size w w'' (Derived/Below.lean: '.refl', '.alloc', '.drew', '.setCell' at a new block, '.trans'). Open each 'IsRow' by 'rcases' AHEAD of 'go_enter'; part every test ahead of the walk. -/
theorem walk (a0 : Int) (a1 : Option Addr) (len1 cap1 : Nat) (z1 : List Int) (w : World) (w0 : (Lit.int .u64 a0).wf = true) (w1 : IsRow .u32 w a1 len1 cap1 z1) :
    Calls Try.prog 9 #[.int .u64 a0, .slice a1 len1 cap1] w fun e w' => e = .returned (.bool true) ∧ Below w.heap.size w w' := by
  have ht := (bounds_u64 w0).1
  by_cases c : 100 < len1
  · exact big a0 _ len1 cap1 c w
  · rcases w1 with ⟨rfl, rfl, rfl, rfl⟩ | ⟨x, rfl, hl, hm, hz, hcell, hwz⟩
    · exact all a0 ht (fun _ => 0) none 0 0 (by omega) w (fun i hi => by omega) (.inl rfl)
    · refine all a0 ht (fun i => z1.getD i 0) (some x) len1 cap1 (by omega) w (fun i hi => ?_) ?_
      · refine bounds_u32 (hwz _ ?_)
        rw [List.getD_eq_getElem?_getD, List.getElem?_eq_getElem (by omega)]
        exact List.getElem_mem _
      · by_cases h0 : len1 = 0
        · exact .inl h0
        · right
          obtain ⟨b, off, spot⟩ := x
          have hc0 := hcell 0 (by omega)
          have hspot : spot = none := by simpa [Addr.add] using World.cell?_spot hc0
          subst hspot
          exact ⟨b, off, rfl, lt_of_cell hc0, fun i hi => by rw [← add_eq]; exact hcell i (by omega)⟩

/-! ### THE ROW's STEP: WRITTEN OUT: LEAVE IT -/
set_option maxRecDepth 100000 in
theorem lifted (os : Os) (started : os.Started) (H : Type) (enc : TypeId × Value → H) :
    ReturnsInHanded {} Try.checked os 9 .any (Rows.timesSumsSpec.pre6 enc Try.prog Try.f9 Rows.timesSumsRow.domain false) (Rows.timesSumsSpec.post enc Try.prog Try.f9 false true false false) := by
  refine returnsInHanded_of_change (C := Try.checked) own started (by kernel_rfl) Try.func9
    (ChangeSpec.witness6 (enc := enc) (C := Try.checked) false ⟨#[], #[.int .u64 0, .slice none 0 0], []⟩ 8 (by kernel_rfl) (by kernel_rfl) (by kernel_rfl) (by kernel_rfl)) ?_
  intro W base args ds gs before hval0 hW hcnd _
  have hval : ∀ (j : Nat) t v, Try.f9.params[j]? = some t → args[j]? = some v → Value.okWide Try.prog W .any base t v := hval0
  have hW' := hW
  obtain ⟨p, q, hA0, hV, rfl, hfz, hnd⟩ := hW
  have hA : DataW.TrodAll enc Try.prog W 0 (fun _ => true) true Try.f9.params.toList args.toList ds p := hA0
  rw [Try.params9] at hA hval
  obtain ⟨v0, vs0, d0, ds0, p0, q0, hargs, rfl, rfl, h0, r0⟩ := trodAll_cons hA
  obtain ⟨v1, vs1, d1, ds1, p1, q1, rfl, rfl, rfl, h1, r1⟩ := trodAll_cons r0
  obtain ⟨rfl, rfl, rfl⟩ := trodAll_nil r1
  obtain rfl : args = #[v0, v1] := by cases args; simp_all
  obtain ⟨rfl, rfl⟩ := trodVars_none hV
  obtain ⟨a0, rfl, rfl, rfl, w0⟩ := open_int Try.underlying22 (hval 0 22 v0 rfl rfl) h0
  obtain ⟨a1, len1, cap1, rfl⟩ := okWide_slice Try.underlying43 (hval 1 43 v1 rfl rfl)
  have k1 := h1
  have lt1 : ∀ x ∈ p1, x.block < W.heap.size := by obtain ⟨m, hm⟩ := k1; exact DataW.trod_lt m _ _ _ hm
  obtain ⟨z1, w1⟩ : ∃ zs, IsRow .u32 W a1 len1 cap1 zs := by
    obtain ⟨fuel, hf⟩ := h1
    rcases open_ints Try.underlying43 Try.underlying28 (by kernel_rfl) hf with ⟨hcs, _⟩ | ⟨x, l, c, zs, hcs, _, hl, hm, hz, _, hcell, hwz⟩
    · simp [Value.cells] at hcs
      obtain ⟨rfl, rfl, rfl⟩ := hcs
      exact ⟨[], .inl ⟨rfl, rfl, rfl, rfl⟩⟩
    · simp [Value.cells] at hcs
      obtain ⟨rfl, rfl, rfl⟩ := hcs
      exact ⟨zs, .inr ⟨_, rfl, hl, hm, by simpa using hz, hcell, hwz⟩⟩
  clear hA0 hval0
  refine (walk a0 a1 len1 cap1 z1 W w0 w1).mono fun e W' ⟨he, bel⟩ => ?_
  subst he
  exact ⟨_, rfl, _, _, _, [], _, [], hW', trodAll_mk1 (shut_bool Try.underlying4 _), (trodAll_cons_mk (shut_int Try.underlying22 w0) (trodAll_cons_mk (Below.trod laidOut (by kernel_rfl) (of_decide_eq_true (by kernel_rfl)) k1 bel lt1) trodAll_mk0)), rfl, bel.frame _, fun h => by cases h⟩

theorem over : Rows.timesSumsRow.holds Try.pinned (OpenSpec.ofChange Rows.timesSumsSpec) :=
  OpenClaim.holds_of_wide 9 Try.f9 rfl rfl rfl rfl rfl rfl rfl ⟨rfl, rfl, rfl, rfl, rfl⟩ rfl rfl rfl rfl rfl (by kernel_rfl) Try.func9 (by kernel_rfl)
    (of_decide_eq_true (by kernel_rfl)) (by unfold Func.isWrapper; first | (rw [if_pos (by decide +kernel)]; kernel_rfl) | (rw [if_neg (by decide +kernel)]; exact ⟨rfl, rfl⟩))
    (fun os started H enc _ => lifted os started H enc)

/-- ████ THE STATEMENT ████ -/
theorem proved : Rows.TimesSumsSaid := over
#print axioms proved
end Go.Proofs.Ythmimbcdcbbaiaa.timesSums
namespace Go.Proofs.Ythmimbcdcbbaiaa
theorem timesSums_holds : Rows.TimesSumsSaid := timesSums.proved
end Go.Proofs.Ythmimbcdcbbaiaa
