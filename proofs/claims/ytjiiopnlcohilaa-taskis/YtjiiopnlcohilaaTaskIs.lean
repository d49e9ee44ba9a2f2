/-
  PROVED: the Go function detentlaw10.TaskIs returns true for every input, and each argument reads behind the call as it read before (Rows.TaskIsSaid). No condition.
-/
import Derived.Test.YtjiiopnlcohilaaRows
import Derived.Test.YtjiiopnlcohilaaConG
import Derived.BigQuiet
import Derived.WalkKit
import Derived.ProofKit
import Derived.OpenShut
import Derived.ShutString
import Derived.ChangeOld
import Derived.Below
namespace Go.Proofs.Ytjiiopnlcohilaa.taskIs
open Go.ChangeShapes Go.WideShapes Go.ChangeAt Go.RowKit
open Go.ChangeMaps (open_string shut_string)
set_option linter.unusedVariables false

theorem own : ownKnob Try.prog.godebug = none := by kernel_rfl
theorem laidOut : laidOutB Try.prog = true := by kernel_rfl

/-- WHAT THE WALK IS TOLD OF A SLICE OF INTEGERS THAT CAME IN: it is nil; or it leads to a row of 'cap' cells, the numbers 'zs' (the first 'len' are its elements, the rest its spare room), each fitting its kind. -/
def IsRow (k : IntKind) (w : World) (a : Option Addr) (len cap : Nat) (zs : List Int) : Prop :=
  (a = none ∧ len = 0 ∧ cap = 0 ∧ zs = []) ∨
  ∃ x, a = some x ∧ len ≤ cap ∧ cap ≤ maxLen ∧ zs.length = cap ∧ (∀ i, i < zs.length → w.cell? (x.add i) = some (.int k (zs.getD i 0))) ∧ ∀ n ∈ zs, (Lit.int k n).wf = true

set_option maxHeartbeats 800000 in
theorem walkOut1 (A B : Option Addr) (n cap m cap2 : Nat) (w : World) (h : 60 < n) :
    Calls Try.prog 9 #[.slice A n cap, .slice B m cap2] w fun e w' => e = .returned (.bool true) ∧ Below w.heap.size w w' := by
  have t2 : decide ((60 : Int) < (n : Int)) = true := by simp; omega
  go_enter Try.func9, Try.ntmps9
  go_wp2_with fail
  refine (known_any w).mono ?_
  rintro e w1 ⟨rfl, hb⟩
  go_wp2
  go_ret
  exact ⟨rfl, hb⟩

set_option maxHeartbeats 800000 in
theorem walkOut2 (A B : Option Addr) (n cap m cap2 : Nat) (w : World) (h1 : n ≤ 60) (h : 20 < m) :
    Calls Try.prog 9 #[.slice A n cap, .slice B m cap2] w fun e w' => e = .returned (.bool true) ∧ Below w.heap.size w w' := by
  have t1 : decide ((60 : Int) < (n : Int)) = false := by simp; omega
  have t1' : decide (60 < n) = false := by simp; omega
  have t2 : decide ((20 : Int) < (m : Int)) = true := by simp; omega
  go_enter Try.func9, Try.ntmps9
  go_wp2_with fail
  refine (known_any w).mono ?_
  rintro e w1 ⟨rfl, hb⟩
  go_wp2
  go_ret
  exact ⟨rfl, hb⟩

set_option maxRecDepth 100000 in
set_option maxHeartbeats 6400000 in
theorem walkIn (A B : Option Addr) (n cap m cap2 : Nat) (L M : List Int) (w : World) (hL : L.length = n) (hM : M.length = m) (hA : Src w A L) (hB : Src w B M) (hn : n ≤ 60) (hm : m ≤ 20) :
    Calls Try.prog 9 #[.slice A n cap, .slice B m cap2] w fun e w' => e = .returned (.bool true) ∧ Below w.heap.size w w' := by
  have HA := Lib.hid hA
  have HB := Lib.hid hB
  have HL := Lib.hid hL
  have HM := Lib.hid hM
  have t1 : decide ((60 : Int) < (n : Int)) = false := by simp; omega
  have t1' : decide (60 < n) = false := by simp; omega
  have t2 : decide ((20 : Int) < (m : Int)) = false := by simp; omega
  have t2' : decide (20 < m) = false := by simp; omega
  clear hA hB hL hM
  go_enter Try.func9, Try.ntmps9
  go_wp2_with fail
  refine (known_any w).mono ?_
  rintro e w1 ⟨rfl, hb⟩
  have H0 := Lib.hid hb
  clear hb
  go_wp2_with fail
  refine (new_at w w1 H0.out).mono ?_
  rintro e w2 ⟨p, rfl, h2⟩
  have H2 := Lib.hid h2
  clear h2 H0
  go_wp2
  go_loopw [6] (fun i wr => ∃ (t : Nat) (s : St), t ≤ n ∧ i = .int .i64 (t : Int) ∧ Hid (At w wr p s)) (fun i _ => n - (intOf i).toNat)
  case atStart => exact ⟨0, born, by omega, rfl, H2.out⟩
  case round =>
    clear H2
    obtain ⟨t, s, ht, rfl, HT⟩ := hrel
    by_cases hlt : t < n
    · have i1 : (t : Int) < (n : Int) := by omega
      obtain ⟨b, o, x, rfl, hx, hc⟩ := (HA.out.below HT.out.be).at_ (j := t) (by have := HL.out; omega)
      obtain ⟨s2, u, v, hst⟩ : ∃ a b c, step x s = (a, b, c) := ⟨_, _, _, rfl⟩
      have HC := Lib.hid (do_at HT.out x s2 u v hst)
      clear hx hst
      go_wp2_with fail
      refine HC.out.mono ?_
      rintro e w3 ⟨rfl, h3⟩
      have H3 := Lib.hid h3
      clear h3 HC HT hc
      go_wp2
      go_roundw
      case rel => exact ⟨t + 1, s2, by omega, by go_num, H3.out⟩
      case measure => simp [intOf]; omega
    · have i1 : decide ((t : Int) < (n : Int)) = false := by simp; omega
      go_wp2
      go_loopw [7, 8] (fun bv i wr => ∃ (t : Nat), t ≤ m ∧ bv = .bool (among M s.X t) ∧ i = .int .i64 (t : Int) ∧ Hid (At w wr p s)) (fun _ i _ => m - (intOf i).toNat)
      case atStart => exact ⟨0, by omega, by simp [among], rfl, HT.out⟩
      case round =>
        clear HT
        obtain ⟨j, hj, rfl, rfl, HJ⟩ := hrel
        by_cases hjm : j < m
        · have i2 : (j : Int) < (m : Int) := by omega
          obtain ⟨b, o, y, rfl, hy, hc⟩ := (HB.out.below HJ.out.be).at_ (j := j) (by have := HM.out; omega)
          have HN := Lib.hid (among_next (x := s.X) hy)
          obtain ⟨c0, c1, c2, c3, c4⟩ := HJ.out.five
          clear hy
          obtain ⟨r1, hr1⟩ : ∃ r1, among M s.X j = r1 := ⟨_, rfl⟩
          rw [hr1] at HN
          rw [hr1]
          clear hr1
          cases r1
          · by_cases hyx : y = s.X
            · have z1 : (y == s.X) = true := by simpa using hyx
              have z2 : decide (y = s.X) = true := by simpa using hyx
              rw [z2] at HN
              clear hyx
              go_wp2
              go_big_quiet (fail)
              go_wp2
              go_roundw
              case rel => exact ⟨j + 1, by omega, by rw [HN.out]; rfl, by go_num, HJ.out.same (below_drewN _ _)⟩
              case measure => simp [intOf]; omega
            · have z1 : (y == s.X) = false := by simpa using hyx
              have z2 : decide (y = s.X) = false := by simpa using hyx
              rw [z2] at HN
              clear hyx
              go_wp2
              go_big_quiet (fail)
              go_wp2
              go_roundw
              case rel => exact ⟨j + 1, by omega, by rw [HN.out]; rfl, by go_num, HJ.out.same (below_drewN _ _)⟩
              case measure => simp [intOf]; omega
          · go_wp2
            go_big_quiet (fail)
            go_wp2
            go_roundw
            case rel => exact ⟨j + 1, by omega, by rw [HN.out]; rfl, by go_num, HJ.out.same (below_drewN _ _)⟩
            case measure => simp [intOf]; omega
        · have i2 : decide ((j : Int) < (m : Int)) = false := by simp; omega
          obtain ⟨r, hr⟩ : ∃ r, decide (s.X ∈ M) = r := ⟨_, rfl⟩
          have er : among M s.X j = r := by
            have e : j = m := by omega
            rw [e, among_all HM.out, hr]
          rw [er]
          have HR := Lib.hid hr
          clear er hr
          obtain ⟨g, hg⟩ : ∃ g, wr.heap.size = g := ⟨_, rfl⟩
          have HG : Hid (∀ k, k < 5 → (wr.alloc (.cells #[.int .i64 2, .int .i64 4, .int .i64 8, .int .i64 12, .int .i64 16] 3)).cell? ⟨g, k, none⟩ = some (.int .i64 (at5 k))) := Lib.hid fun k hk => by
            rw [← hg, cell_of_row _ _ _ _ _ _ (heap_alloc_new wr _)]
            match k with
            | 0 => rfl
            | 1 => rfl
            | 2 => rfl
            | 3 => rfl
            | 4 => rfl
          have HK : Hid (At w (wr.alloc (.cells #[.int .i64 2, .int .i64 4, .int .i64 8, .int .i64 12, .int .i64 16] 3)) p s) := Lib.hid (HJ.out.same ((Below.refl _ _).alloc (Nat.le_refl _) _))
          clear HJ
          go_wp2
          go_loopw [9, 55] (fun nv kv wz => ∃ (k : Nat), k ≤ 5 ∧ nv = .int .i64 (hits s.X k : Int) ∧ kv = .int .i64 (k : Int) ∧ Hid (At w wz p s) ∧ Hid (∀ k, k < 5 → wz.cell? ⟨g, k, none⟩ = some (.int .i64 (at5 k)))) (fun _ kv _ => 5 - (intOf kv).toNat)
          case atStart => exact ⟨0, by omega, rfl, rfl, HK.out, HG.out⟩
          case round =>
            clear HK HG
            obtain ⟨k, hk, rfl, rfl, HK, HG⟩ := hrel
            by_cases hk5 : k < 5
            · have i3 : (k : Int) < (5 : Int) := by omega
              have hc := HG.out k hk5
              have hle := hits_le s.X k
              obtain ⟨y, hy⟩ : ∃ y, at5 k = y := ⟨_, rfl⟩
              rw [hy] at hc
              obtain ⟨N, hN⟩ : ∃ N : Nat, hits s.X k = N := ⟨_, rfl⟩
              rw [hN] at hle
              rw [hN]
              by_cases hxy : s.X = y
              · have HI := Lib.hid (is_one _ p s HK.out.tk y true (by simpa using hxy))
                have HH : Hid (hits s.X (k + 1) = N + 1) := Lib.hid (by unfold hits; rw [hy, if_pos hxy, hN])
                clear hy hN hxy
                go_wp2_with fail
                refine HI.out.mono ?_
                rintro e w5 ⟨rfl, _, h5⟩
                have H5 := Lib.hid h5
                clear h5 HI
                go_wp2
                go_roundw
                case rel => exact ⟨k + 1, by omega, by rw [HH.out]; go_num, by go_num, HK.out.same H5.out, fun j hj => by rw [H5.out.cell (p := ⟨g, j, none⟩) (lt_of_cell (HG.out j hj))]; exact HG.out j hj⟩
                case measure => simp [intOf]; omega
              · have HI := Lib.hid (is_one _ p s HK.out.tk y false (by simpa using hxy))
                have HH : Hid (hits s.X (k + 1) = N) := Lib.hid (by unfold hits; rw [hy, if_neg hxy, hN])
                clear hy hN hxy
                go_wp2_with fail
                refine HI.out.mono ?_
                rintro e w5 ⟨rfl, _, h5⟩
                have H5 := Lib.hid h5
                clear h5 HI
                go_wp2
                go_roundw
                case rel => exact ⟨k + 1, by omega, by rw [HH.out], by go_num, HK.out.same H5.out, fun j hj => by rw [H5.out.cell (p := ⟨g, j, none⟩) (lt_of_cell (HG.out j hj))]; exact HG.out j hj⟩
                case measure => simp [intOf]; omega
            · have i3 : decide ((k : Int) < (5 : Int)) = false := by simp; omega
              have h1 : hits s.X k = 1 := by
                have e : k = 5 := by omega
                rw [e]; exact hits5 HK.out.gd
              rw [h1]
              have HI := Lib.hid (is_any _ p s HK.out.tk B m cap2 M HM.out (by omega) (HB.out.below HK.out.be) r HR.out)
              clear h1
              go_wp2_with fail
              refine HI.out.mono ?_
              rintro e w6 ⟨rfl, rfl⟩
              go_wp2
              go_ret
              exact ⟨by first | rfl | simp, HK.out.be⟩


/-! ### the walk -/
theorem walk (a0 : Option Addr) (len0 cap0 : Nat) (z0 : List Int) (a1 : Option Addr) (len1 cap1 : Nat) (z1 : List Int) (w : World) (w0 : IsRow .i64 w a0 len0 cap0 z0) (w1 : IsRow .i64 w a1 len1 cap1 z1) :
    Calls Try.prog 9 #[.slice a0 len0 cap0, .slice a1 len1 cap1] w fun e w' => e = .returned (.bool true) ∧ Below w.heap.size w w' := by
  obtain ⟨_, L, hL, hA⟩ := src_of w0
  obtain ⟨_, M, hM, hB⟩ := src_of w1
  by_cases h1 : 60 < len0
  · exact walkOut1 a0 a1 len0 cap0 len1 cap1 w h1
  by_cases h2 : 20 < len1
  · exact walkOut2 a0 a1 len0 cap0 len1 cap1 w (by omega) h2
  · exact walkIn a0 a1 len0 cap0 len1 cap1 L M w hL hM hA hB (by omega) (by omega)

/-! ### THE ROW's STEP: WRITTEN OUT: LEAVE IT -/
set_option maxRecDepth 100000 in
theorem lifted (os : Os) (started : os.Started) (H : Type) (enc : TypeId × Value → H) :
    ReturnsInHanded {} Try.checked os 9 .any (Rows.taskIsSpec.pre6 enc Try.prog Try.f9 Rows.taskIsRow.domain false) (Rows.taskIsSpec.post enc Try.prog Try.f9 false true false false) := by
  refine returnsInHanded_of_change (C := Try.checked) own started (by kernel_rfl) Try.func9
    (ChangeSpec.witness6 (enc := enc) (C := Try.checked) false ⟨#[], #[.slice none 0 0, .slice none 0 0], []⟩ 8 (by kernel_rfl) (by kernel_rfl) (by kernel_rfl) (by kernel_rfl)) ?_
  intro W base args ds gs before hval0 hW hcnd _
  have hval : ∀ (j : Nat) t v, Try.f9.params[j]? = some t → args[j]? = some v → Value.okWide Try.prog W .any base t v := hval0
  have hW' := hW
  obtain ⟨p, q, hA0, hV, rfl, hfz, hnd⟩ := hW
  have hA : DataW.TrodAll enc Try.prog W 0 (fun _ => true) true Try.f9.params.toList args.toList ds p := hA0
  rw [Try.params9] at hA hval
  obtain ⟨v0, vs0, d0, ds0, p0, q0, hargs, rfl, rfl, h0, r0⟩ := trodAll_cons hA
  obtain ⟨v1, vs1, d1, ds1, p1, q1, rfl, rfl, rfl, h1, r1⟩ := trodAll_cons r0
  obtain ⟨rfl, rfl, rfl⟩ := trodAll_nil r1
  obtain rfl : args = #[v0, v1] := by cases args; simp_all
  obtain ⟨rfl, rfl⟩ := trodVars_none hV
  obtain ⟨a0, len0, cap0, rfl⟩ := okWide_slice Try.underlying22 (hval 0 22 v0 rfl rfl)
  have k0 := h0
  have lt0 : ∀ x ∈ p0, x.block < W.heap.size := by obtain ⟨m, hm⟩ := k0; exact DataW.trod_lt m _ _ _ hm
  obtain ⟨z0, w0⟩ : ∃ zs, IsRow .i64 W a0 len0 cap0 zs := by
    obtain ⟨fuel, hf⟩ := h0
    rcases open_ints Try.underlying22 Try.underlying30 (by kernel_rfl) hf with ⟨hcs, _⟩ | ⟨x, l, c, zs, hcs, _, hl, hm, hz, _, hcell, hwz⟩
    · simp [Value.cells] at hcs
      obtain ⟨rfl, rfl, rfl⟩ := hcs
      exact ⟨[], .inl ⟨rfl, rfl, rfl, rfl⟩⟩
    · simp [Value.cells] at hcs
      obtain ⟨rfl, rfl, rfl⟩ := hcs
      exact ⟨zs, .inr ⟨_, rfl, hl, hm, by simpa using hz, hcell, hwz⟩⟩
  obtain ⟨a1, len1, cap1, rfl⟩ := okWide_slice Try.underlying51 (hval 1 51 v1 rfl rfl)
  have k1 := h1
  have lt1 : ∀ x ∈ p1, x.block < W.heap.size := by obtain ⟨m, hm⟩ := k1; exact DataW.trod_lt m _ _ _ hm
  obtain ⟨z1, w1⟩ : ∃ zs, IsRow .i64 W a1 len1 cap1 zs := by
    obtain ⟨fuel, hf⟩ := h1
    rcases open_ints Try.underlying51 Try.underlying3 (by kernel_rfl) hf with ⟨hcs, _⟩ | ⟨x, l, c, zs, hcs, _, hl, hm, hz, _, hcell, hwz⟩
    · simp [Value.cells] at hcs
      obtain ⟨rfl, rfl, rfl⟩ := hcs
      exact ⟨[], .inl ⟨rfl, rfl, rfl, rfl⟩⟩
    · simp [Value.cells] at hcs
      obtain ⟨rfl, rfl, rfl⟩ := hcs
      exact ⟨zs, .inr ⟨_, rfl, hl, hm, by simpa using hz, hcell, hwz⟩⟩
  clear hA0 hval0
  refine (walk a0 len0 cap0 z0 a1 len1 cap1 z1 W w0 w1).mono fun e W' ⟨he, bel⟩ => ?_
  subst he
  exact ⟨_, rfl, _, _, _, [], _, [], hW', trodAll_mk1 (shut_bool Try.underlying4 _), (trodAll_cons_mk (Below.trod laidOut (by kernel_rfl) (of_decide_eq_true (by kernel_rfl)) k0 bel lt0) (trodAll_cons_mk (Below.trod laidOut (by kernel_rfl) (of_decide_eq_true (by kernel_rfl)) k1 bel lt1) trodAll_mk0)), rfl, bel.frame _, fun h => by cases h⟩

theorem over : Rows.taskIsRow.holds Try.pinned (OpenSpec.ofChange Rows.taskIsSpec) :=
  OpenClaim.holds_of_wide 9 Try.f9 rfl rfl rfl rfl rfl rfl rfl ⟨rfl, rfl, rfl, rfl, rfl⟩ rfl rfl rfl rfl rfl (by kernel_rfl) Try.func9 (by kernel_rfl)
    (of_decide_eq_true (by kernel_rfl)) (by unfold Func.isWrapper; first | (rw [if_pos (by decide +kernel)]; kernel_rfl) | (rw [if_neg (by decide +kernel)]; exact ⟨rfl, rfl⟩))
    (fun os started H enc _ => lifted os started H enc)

/-- ████ THE STATEMENT ████ -/
theorem proved : Rows.TaskIsSaid := over
#print axioms proved
end Go.Proofs.Ytjiiopnlcohilaa.taskIs
namespace Go.Proofs.Ytjiiopnlcohilaa
theorem taskIs_holds : Rows.TaskIsSaid := taskIs.proved
end Go.Proofs.Ytjiiopnlcohilaa
