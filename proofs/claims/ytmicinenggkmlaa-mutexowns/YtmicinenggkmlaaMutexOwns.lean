/-
  PROVED: the Go function detentlaw15.MutexOwns returns true for every input, and each argument reads behind the call as it read before (Rows.MutexOwnsSaid). No condition.
-/
import Derived.Test.YtmicinenggkmlaaRows
import Derived.Test.YtmicinenggkmlaaMtL
import Derived.WalkKit
import Derived.ProofKit
import Derived.OpenShut
import Derived.ShutString
import Derived.ChangeOld
import Derived.Below
namespace Go.Proofs.Ytmicinenggkmlaa.mutexOwns
open Go.ChangeShapes Go.WideShapes Go.ChangeAt Go.RowKit
open Go.ChangeMaps (open_string shut_string)
set_option linter.unusedVariables false      -- a walk need not use every 'w<i>' (that an integer argument fits its kind)

theorem own : ownKnob Try.prog.godebug = none := by kernel_rfl

/-- one mutex of that kind -/
def ks (x : Int) : List (Int × Int) := [(x, 0)]
section
variable {x a : Int}
theorem s_m : isM (St.new (ks x).length (kA (ks x)) (kC (ks x))) 1 := ⟨by omega, by show (1 : Int) ≤ 1; omega⟩
theorem s_A : (St.new (ks x).length (kA (ks x)) (kC (ks x))).A (ix 1) = x := rfl
theorem s_lock (hx : ¬ 2 < x) (ha : isT a) : lockL (St.new (ks x).length (kA (ks x)) (kC (ks x))) 1 a = ({ (St.new (ks x).length (kA (ks x)) (kC (ks x))) with O := upd (fun _ => 0) 0 a }, true, 0) :=
  lockL_free s_m ha rfl (no_over (by rw [s_A]; omega)) (fun j _ ⟨y, hy, _⟩ => absurd hy List.not_mem_nil)
end

/-! ### the walk -/
set_option maxRecDepth 100000 in
set_option maxHeartbeats 4000000 in
theorem walk (a0 : Int) (a1 : Int) (a2 : Int) (w0 : (Lit.int .i64 a0).wf = true) (w1 : (Lit.int .i64 a1).wf = true) (w2 : (Lit.int .i64 a2).wf = true) (w : World) :
    Calls Try.prog 9 #[.int .i64 a0, .int .i64 a1, .int .i64 a2] w fun e w' => e = .returned (.bool true) ∧ Below w.heap.size w w' := by
  by_cases c0 : a0 < 0
  · have t0 := decide_eq_true c0
    go_enter Try.func9, Try.ntmps9
    go_wp2_with fail
    refine (known_ok w).mono ?_
    rintro e w1 ⟨rfl, hb⟩
    go_wp2
    go_ret
    exact ⟨rfl, hb⟩
  have t0 := decide_eq_false c0
  by_cases c1 : 2 < a0
  · have t1 := decide_eq_true c1
    go_enter Try.func9, Try.ntmps9
    go_wp2_with fail
    refine (known_ok w).mono ?_
    rintro e w1 ⟨rfl, hb⟩
    go_wp2
    go_ret
    exact ⟨rfl, hb⟩
  have t1 := decide_eq_false c1
  by_cases c2 : a1 < 1
  · have t2 := decide_eq_true c2
    go_enter Try.func9, Try.ntmps9
    go_wp2_with fail
    refine (known_ok w).mono ?_
    rintro e w1 ⟨rfl, hb⟩
    go_wp2
    go_ret
    exact ⟨rfl, hb⟩
  have t2 := decide_eq_false c2
  by_cases c3 : 16 < a1
  · have t3 := decide_eq_true c3
    go_enter Try.func9, Try.ntmps9
    go_wp2_with fail
    refine (known_ok w).mono ?_
    rintro e w1 ⟨rfl, hb⟩
    go_wp2
    go_ret
    exact ⟨rfl, hb⟩
  have t3 := decide_eq_false c3
  by_cases c4 : a2 < 1
  · have t4 := decide_eq_true c4
    go_enter Try.func9, Try.ntmps9
    go_wp2_with fail
    refine (known_ok w).mono ?_
    rintro e w1 ⟨rfl, hb⟩
    go_wp2
    go_ret
    exact ⟨rfl, hb⟩
  have t4 := decide_eq_false c4
  by_cases c5 : 16 < a2
  · have t5 := decide_eq_true c5
    go_enter Try.func9, Try.ntmps9
    go_wp2_with fail
    refine (known_ok w).mono ?_
    rintro e w1 ⟨rfl, hb⟩
    go_wp2
    go_ret
    exact ⟨rfl, hb⟩
  have t5 := decide_eq_false c5
  by_cases c6 : a1 = a2
  · have t6 : (a1 == a2) = true := by simpa using c6
    go_enter Try.func9, Try.ntmps9
    go_wp2_with fail
    refine (known_ok w).mono ?_
    rintro e w1 ⟨rfl, hb⟩
    go_wp2
    go_ret
    exact ⟨rfl, hb⟩
  have t6 : (a1 == a2) = false := by simpa using c6
  have h1 : isT a1 := ⟨by omega, by omega⟩
  have h2 : isT a2 := ⟨by omega, by omega⟩
  have hok : ∀ x, x ∈ ks a0 → okK x.1 x.2 := by
    intro x hx
    obtain rfl := List.mem_singleton.1 hx
    unfold okK
    rw [if_neg (by show ¬ a0 = 3; omega)]
    exact ⟨by show 0 ≤ a0; omega, by show a0 < 3; omega, rfl⟩
  obtain ⟨S1, hS1⟩ : ∃ S1 : St, ({ (St.new (ks a0).length (kA (ks a0)) (kC (ks a0))) with O := upd (fun _ => 0) 0 a1 } : St) = S1 := ⟨_, rfl⟩
  have E1 := s_lock (x := a0) c1 h1
  rw [hS1] at E1
  have m1 : isM S1 1 := by rw [← hS1]; exact @s_m a0
  have o1 : S1.O (ix 1) = a1 := by rw [← hS1]; rfl
  have E2 : lockL S1 1 a1 = (S1, false, -28) := lockL_own m1 h1 (.inl o1)
  have E3 : tryL S1 1 a1 = (S1, false, -28) := tryL_own m1 h1 (.inl o1)
  have E4 : unlk S1 1 a2 = (S1, 0, -28) := unlk_not m1 h2 (by rw [o1]; exact c6)
  have E5 : unlk S1 2 a1 = (S1, 0, -18) := unlk_id (fun e => by have := e.1.2; rw [← hS1] at this; have h3 : (2 : Int) ≤ 1 := this; omega)
  have E6 : lockL S1 1 17 = (S1, false, -18) := lockL_id (fun e => by have := e.2; unfold isT at this; omega)
  have E7 : owns S1 1 = a1 := by unfold owns; rw [if_pos m1]; exact o1
  have E8 : wait S1 1 = [] := by unfold wait; rw [if_pos m1, ← hS1]; rfl
  have HE := Lib.hid (And.intro E1 (And.intro E2 (And.intro E3 (And.intro E4 (And.intro E5 (And.intro E6 (And.intro E7 E8)))))))
  have HOK := Lib.hid hok
  clear E1 E2 E3 E4 E5 E6 E7 E8 m1 o1 hS1 hok h1 h2
  go_enter Try.func9, Try.ntmps9
  go_wp2_with fail
  refine (known_ok w).mono ?_
  rintro e w1 ⟨rfl, hb⟩
  have HB := Lib.hid hb
  have src := K.sr_lit K.ck w1 55 (ks a0) 1
  rw [show (K.vals K.ck (ks a0)).toArray = #[.int .i64 a0, .int .i64 0] from rfl] at src
  have SRC := Lib.hid src
  have hb1 := hb.alloc hb.size (.cells #[.int .i64 a0, .int .i64 0] 55)
  have HB1 := Lib.hid hb1
  clear hb src hb1
  go_wp2_with fail
  refine (new_at (w := w) (some ⟨w1.heap.size, 0, none⟩) 1 1 (ks a0) rfl (by show (1 : Nat) ≤ 8; omega) SRC.out HOK.out HB1.out).mono ?_
  rintro e w2 ⟨a, g, q, rfl, g2⟩
  go_wp2_with fail
  refine (lock_at g2 HE.out.1).mono ?_
  rintro e w3 ⟨rfl, g3⟩
  clear g2
  go_wp2_with fail
  refine (lock_at g3 HE.out.2.1).mono ?_
  rintro e w4 ⟨rfl, g4⟩
  clear g3
  go_wp2_with fail
  refine (try_at g4 HE.out.2.2.1).mono ?_
  rintro e w5 ⟨rfl, g5⟩
  clear g4
  go_wp2_with fail
  refine (unlock_at g5 HE.out.2.2.2.1).mono ?_
  rintro e w6 ⟨rfl, g6⟩
  clear g5
  go_wp2_with fail
  refine (unlock_at g6 HE.out.2.2.2.2.1).mono ?_
  rintro e w7 ⟨rfl, g7⟩
  clear g6
  go_wp2_with fail
  refine (lock_at g7 HE.out.2.2.2.2.2.1).mono ?_
  rintro e w8 ⟨rfl, g8⟩
  clear g7
  go_wp2_with fail
  refine (owner_at g8 HE.out.2.2.2.2.2.2.1).mono ?_
  rintro e w9 ⟨rfl, rfl⟩
  have ta : (a1 == a1) = true := by simp
  go_wp2_with fail
  refine (waiting_at g8 HE.out.2.2.2.2.2.2.2).mono ?_
  rintro e w9 ⟨X, k, rfl, _, hb9⟩
  have HB9 := Lib.hid (g8.below hb9).b
  clear g8 hb9
  simp only [List.length_nil]
  go_wp2
  go_ret
  exact ⟨rfl, HB9.out⟩

/-! ### THE ROW's STEP: WRITTEN OUT: LEAVE IT -/
set_option maxRecDepth 100000 in
theorem lifted (os : Os) (started : os.Started) (H : Type) (enc : TypeId × Value → H) :
    ReturnsInHanded {} Try.checked os 9 .any (Rows.mutexOwnsSpec.pre6 enc Try.prog Try.f9 Rows.mutexOwnsRow.domain false) (Rows.mutexOwnsSpec.post enc Try.prog Try.f9 false true false false) := by
  refine returnsInHanded_of_change (C := Try.checked) own started (by kernel_rfl) Try.func9
    (ChangeSpec.witness6 (enc := enc) (C := Try.checked) false ⟨#[], #[.int .i64 0, .int .i64 0, .int .i64 0], []⟩ 8 (by kernel_rfl) (by kernel_rfl) (by kernel_rfl) (by kernel_rfl)) ?_
  intro W base args ds gs before hval0 hW hcnd _
  have hval : ∀ (j : Nat) t v, Try.f9.params[j]? = some t → args[j]? = some v → Value.okWide Try.prog W .any base t v := hval0
  have hW' := hW
  obtain ⟨p, q, hA0, hV, rfl, hfz, hnd⟩ := hW
  have hA : DataW.TrodAll enc Try.prog W 0 (fun _ => true) true Try.f9.params.toList args.toList ds p := hA0
  rw [Try.params9] at hA hval
  obtain ⟨v0, vs0, d0, ds0, p0, q0, hargs, rfl, rfl, h0, r0⟩ := trodAll_cons hA
  obtain ⟨v1, vs1, d1, ds1, p1, q1, rfl, rfl, rfl, h1, r1⟩ := trodAll_cons r0
  obtain ⟨v2, vs2, d2, ds2, p2, q2, rfl, rfl, rfl, h2, r2⟩ := trodAll_cons r1
  obtain ⟨rfl, rfl, rfl⟩ := trodAll_nil r2
  obtain rfl : args = #[v0, v1, v2] := by cases args; simp_all
  obtain ⟨rfl, rfl⟩ := trodVars_none hV
  obtain ⟨a0, rfl, rfl, rfl, w0⟩ := open_int Try.underlying3 (hval 0 3 v0 rfl rfl) h0
  obtain ⟨a1, rfl, rfl, rfl, w1⟩ := open_int Try.underlying3 (hval 1 3 v1 rfl rfl) h1
  obtain ⟨a2, rfl, rfl, rfl, w2⟩ := open_int Try.underlying3 (hval 2 3 v2 rfl rfl) h2
  clear hA0 hval0
  simp only [List.append_nil] at hW'
  refine (walk a0 a1 a2 w0 w1 w2 W).mono fun e W' ⟨he, hg⟩ => ?_
  subst he
  exact ⟨_, rfl, _, _, _, [], [], [], hW', (trodAll_cons_mk (shut_bool Try.underlying4 _) trodAll_mk0), (trodAll_cons_mk (shut_int Try.underlying3 w0) (trodAll_cons_mk (shut_int Try.underlying3 w1) (trodAll_cons_mk (shut_int Try.underlying3 w2) trodAll_mk0))), rfl, hg.frame _, fun h => by cases h⟩

theorem over : Rows.mutexOwnsRow.holds Try.pinned (OpenSpec.ofChange Rows.mutexOwnsSpec) :=
  OpenClaim.holds_of_wide 9 Try.f9 rfl rfl rfl rfl rfl rfl rfl ⟨rfl, rfl, rfl, rfl, rfl⟩ rfl rfl rfl rfl rfl (by kernel_rfl) Try.func9 (by kernel_rfl)
    (of_decide_eq_true (by kernel_rfl)) (by unfold Func.isWrapper; first | (rw [if_pos (by decide +kernel)]; kernel_rfl) | (rw [if_neg (by decide +kernel)]; exact ⟨rfl, rfl⟩))
    (fun os started H enc _ => lifted os started H enc)

/-- ████ THE STATEMENT ████ -/
theorem proved : Rows.MutexOwnsSaid :=
  over
#print axioms proved
end Go.Proofs.Ytmicinenggkmlaa.mutexOwns
namespace Go.Proofs.Ytmicinenggkmlaa
theorem mutexOwns_holds : Rows.MutexOwnsSaid := mutexOwns.proved
end Go.Proofs.Ytmicinenggkmlaa
