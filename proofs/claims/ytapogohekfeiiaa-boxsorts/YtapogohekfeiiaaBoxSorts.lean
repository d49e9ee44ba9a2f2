/-
  PROVED: the Go function detentlaw14.BoxSorts returns true for every input, and each argument reads behind the call as it read before (Rows.BoxSortsSaid). No condition.
-/
import Derived.Test.YtapogohekfeiiaaRows
import Derived.Test.YtapogohekfeiiaaMxK
import Derived.WalkKit
import Derived.ProofKit
import Derived.OpenShut
import Derived.ShutString
import Derived.ChangeOld
import Derived.Below
namespace Go.Proofs.Ytapogohekfeiiaa.boxSorts
open Go.ChangeShapes Go.WideShapes Go.ChangeAt Go.RowKit
open Go.ChangeMaps (open_string shut_string)
set_option linter.unusedVariables false

theorem own : ownKnob Try.prog.godebug = none := by kernel_rfl
theorem laidOut : laidOutB Try.prog = true := by kernel_rfl

/-- WHAT THE WALK IS TOLD OF A SLICE OF INTEGERS THAT CAME IN: it is nil; or it leads to a row of 'cap' cells, the numbers 'zs' (the first 'len' are its elements, the rest its spare room), each fitting its kind. -/
def IsRow (k : IntKind) (w : World) (a : Option Addr) (len cap : Nat) (zs : List Int) : Prop :=
  (a = none ∧ len = 0 ∧ cap = 0 ∧ zs = []) ∨
  ∃ x, a = some x ∧ len ≤ cap ∧ cap ≤ maxLen ∧ zs.length = cap ∧ (∀ i, i < zs.length → w.cell? (x.add i) = some (.int k (zs.getD i 0))) ∧ ∀ n ∈ zs, (Lit.int k n).wf = true

def Post (w : World) (e : Ending) (w' : World) : Prop := e = .returned (.bool true) ∧ Below w.heap.size w w'

/-- the priorities -/
def pr (q : Nat → Nat) (j : Nat) : Int := 1 + (q j : Int) % 4
theorem pr_in (q : Nat → Nat) (j : Nat) : 1 ≤ pr q j ∧ pr q j ≤ 255 := by unfold pr; omega

/-- without priorities: as they came -/
theorem fil_arr {f : Nat → Int} : ∀ {t : Nat}, (fil false f t).Pairwise (fun x y => x.1 < y.1)
  | 0 => by simp [fil]
  | t + 1 => by
    have e : fil false f (t + 1) = fil false f t ++ [(((t + 1 : Nat) : Int), f t)] := by
      rw [fil]; unfold ins plc
      simp
    rw [e]
    refine List.pairwise_append.2 ⟨fil_arr, by simp, fun x hx y hy => ?_⟩
    obtain ⟨j, hj, rfl⟩ := fil_mem hx
    simp only [List.mem_singleton] at hy
    subst hy
    simp only
    omega
theorem fil_out {mp : Bool} {f : Nat → Int} {t : Nat} : ((t + 1 : Nat) : Int) ∉ ids (fil mp f t) := fun h => by
  obtain ⟨y, hy, e⟩ := mem_ids.1 h
  exact fil_new y hy e
theorem gm_fil {mp : Bool} {f : Nat → Int} (hf : ∀ j, 1 ≤ f j ∧ f j ≤ 255) : ∀ {t : Nat}, t ≤ 60 → Gm mp 255 (fil mp f t)
  | 0, _ => Gm.none _ _
  | t + 1, h => by
    rw [fil]
    exact (gm_fil hf (t := t) (by omega)).put (by omega) (fun _ => hf t) fil_out (in64 (by omega) (by omega))
/-- by priority, then as they came -/
theorem lexM {f : Nat → Int} (hf : ∀ j, 1 ≤ f j ∧ f j ≤ 255) : ∀ {t : Nat}, t ≤ 60 → (fil true f t).Pairwise (fun x y => x.2 < y.2 ∨ (x.2 = y.2 ∧ x.1 < y.1))
  | 0, _ => by simp [fil]
  | t + 1, h => by
    have ih := lexM hf (t := t) (by omega)
    have hs := (gm_fil (mp := true) hf (t := t) (by omega)).ord rfl
    rw [fil]
    unfold ins
    have ih' := ih
    rw [← List.take_append_drop (plc true (fil true f t) (f t)) (fil true f t)] at ih'
    have ih2 := List.pairwise_append.1 ih'
    refine List.pairwise_append.2 ⟨ih2.1, List.pairwise_cons.2 ⟨fun y hy => ?_, ih2.2.1⟩, fun x hx y hy => ?_⟩
    · exact .inl (drop_mem_behind hs rfl hy)
    · rcases List.mem_cons.1 hy with rfl | hy
      · have h1 := take_mem_before rfl hx
        obtain ⟨j, hj, rfl⟩ := fil_mem (List.mem_of_mem_take hx)
        simp only at h1 ⊢
        omega
      · exact ih2.2.2 x hx y hy
theorem send_fil {mp : Bool} {f : Nat → Int} (hf : ∀ j, 1 ≤ f j ∧ f j ≤ 255) {t : Nat} : send ⟨false, [], mp, 255, fil mp f t⟩ ((t + 1 : Nat) : Int) (f t) = (⟨false, [], mp, 255, fil mp f (t + 1)⟩, 0, 0) := by
  have := hf t
  unfold send
  rw [if_neg (by rintro (h | ⟨_, h | h⟩); omega; omega; simp only at h; omega), if_neg fil_out]
  rfl
theorem send_to {w w1 : World} {s q n c : Nat} {S S' : St} {msg pri t k : Int} (h : At w s q n c S w1) (hw : In64 msg) (hc : c < 90000) (hs : send S msg pri = (S', t, k)) (m2 p2 : Int) (e1 : m2 = msg) (e2 : p2 = pri) :
    Calls Try.prog 10 #[.pointer (some ⟨s, 0, none⟩), .int .i64 m2, .int .i64 p2] w1 fun e w' => e = .returned (.tuple #[.int .i64 t, .int .i64 k]) ∧ At w s q n (c + 2) S' w' := by
  subst e1 e2; exact send_at h hw hc hs

def FillRel (s p m n : Nat) (mp : Bool) (q : Nat → Nat) (w : World) (i : Value) (wr : World) : Prop :=
  ∃ t : Nat, t ≤ n ∧ i = .int .i64 (t : Int) ∧ At w s p m (2 * t) ⟨false, [], mp, 255, fil mp (pr q) t⟩ wr
def TakeRel (s p m n : Nat) (mp : Bool) (F : List It) (w : World) (la i : Value) (wr : World) : Prop :=
  ∃ (t : Nat) (y : It), t ≤ n ∧ i = .int .i64 (t : Int) ∧ la = .int .i64 y.1 ∧ ((0, 0) :: F)[t]? = some y ∧ At w s p m (2 * n + t) ⟨false, [], mp, 255, F.drop t⟩ wr

set_option maxHeartbeats 800000 in
theorem walkOut (mp : Bool) (A : Option Addr) (n cap : Nat) (w : World) (hn0 : n ≤ 9223372036854775807) (hn : ¬ n ≤ 60) : Calls Try.prog 4 #[.bool mp, .slice A n cap] w (Post w) := by
  have t1 : (60 : Int) < (n : Int) := by omega
  have t2 : 60 < n := by omega
  go_enter Try.func4, Try.ntmps4
  go_wp2_with fail
  refine (known_ok _).mono ?_
  rintro e w0 ⟨rfl, hb0⟩
  go_wp2
  go_ret
  exact ⟨rfl, hb0⟩

set_option maxHeartbeats 4000000 in
set_option maxRecDepth 100000 in
theorem walkIn (mp : Bool) (A : Option Addr) (n cap : Nat) (q : Nat → Nat) (w : World) (hs : Src w A n q) (hn : n ≤ 60) : Calls Try.prog 4 #[.bool mp, .slice A n cap] w (Post w) := by
  have t1 : decide ((60 : Int) < (n : Int)) = false := by simp; omega
  have t2 : decide (60 < n) = false := by simp; omega
  go_enter Try.func4, Try.ntmps4
  go_wp2_with fail
  refine (known_ok _).mono ?_
  rintro e w0 ⟨rfl, hb0⟩
  go_wp2_with fail
  refine (new_at w w0 false mp 255 (by omega) (by omega) hb0).mono ?_
  rintro e w1 ⟨s, p, m, rfl, h1⟩
  clear hb0
  go_wp2
  go_loopw [7] (fun i wr => FillRel s p m n mp q w i wr) (fun i _ => n - (intOf i).toNat)
  case atStart => exact ⟨0, Nat.zero_le _, rfl, h1⟩
  case round =>
    obtain ⟨t, ht, rfl, h2⟩ := hrel
    clear h1
    by_cases hlt : t < n
    · obtain ⟨b, o, rfl, hbl, hcl⟩ := hs (by omega)
      obtain ⟨hc, hq⟩ := hcl t hlt
      have hct : wr.cell? ⟨b, o + t, none⟩ = _ := (h2.b.cell (p := ⟨b, o + t, none⟩) hbl).trans hc
      have HC := Lib.hid hcl
      have HS := Lib.hid (send_to h2 (in64 (by omega) (by omega)) (by omega) (send_fil (mp := mp) (pr_in q) (t := t)))
      have hlt' : (t : Int) < (n : Int) := by omega
      clear hc hcl h2
      go_wp2_with fail
      refine (HS.out _ _ (by omega) (by unfold pr; omega)).mono ?_
      rintro e w3 ⟨rfl, h3⟩
      have H3 := Lib.hid h3
      clear h3 hct HS
      go_wp2
      go_roundw
      case rel => exact ⟨t + 1, by omega, by go_num, H3.out⟩
      case measure => simp [intOf]; omega
    · obtain rfl : t = n := by omega
      have HX : Hid ((fil mp (pr q) t).Pairwise (fun x y => if mp then x.2 < y.2 ∨ (x.2 = y.2 ∧ x.1 < y.1) else x.1 < y.1)) := by
        cases mp
        · exact Lib.hid (by simpa using fil_arr)
        · exact Lib.hid (by simpa using lexM (pr_in q) hn)
      have HM := Lib.hid (fun x => @fil_mem mp (pr q) t x)
      have HLN := Lib.hid (fil_len mp (pr q) t)
      have H2 := Lib.hid (show At w s p m (2 * t + 0) ⟨false, [], mp, 255, (fil mp (pr q) t).drop 0⟩ wr from h2)
      clear h2
      generalize fil mp (pr q) t = F at *
      clear hlt ht
      go_wp2
      go_loopw [10, 11] (fun la i wr => TakeRel s p m t mp F w la i wr) (fun _ i _ => t - (intOf i).toNat)
      case atStart => exact ⟨0, (0, 0), Nat.zero_le _, rfl, rfl, rfl, H2.out⟩
      case round =>
        obtain ⟨u, y, hu, rfl, rfl, hy, h4⟩ := hrel
        clear H2
        by_cases hlt : u < t
        · have hxs : u < F.length := by rw [HLN.out]; exact hlt
          have hd : F.drop u = F[u] :: F.drop (u + 1) := List.drop_eq_getElem_cons hxs
          obtain ⟨x, hx⟩ : ∃ x, F[u] = x := ⟨_, rfl⟩
          rw [hx] at hd
          have hxF : F[u]? = some x := by rw [List.getElem?_eq_getElem hxs, hx]
          rw [hd] at h4
          obtain ⟨j, hj, hxj⟩ := HM.out x (List.mem_of_getElem? hxF)
          obtain ⟨b, o, rfl, hbl, hcl⟩ := hs (by omega)
          have hcj := (hcl j hj).1
          have hqj := (hcl j hj).2
          have HN : Hid (((0, 0) :: F)[u + 1]? = some x) := by rw [List.getElem?_cons_succ]; exact Lib.hid hxF
          have ljn : (j : Int) < (t : Int) := by omega
          have lun : (u : Int) < (t : Int) := by omega
          have d1 : decide ((j : Int) + 1 < 1) = false := by simp; omega
          have d2 : decide ((t : Int) < (j : Int) + 1) = false := by simp; omega
          have HS := Lib.hid (poll_at h4 (by omega) (S' := ⟨false, [], mp, 255, F.drop (u + 1)⟩) (r := x.1) (o := true) rfl)
          have ej1 : x.1 = (j : Int) + 1 := by rw [hxj]; simp only; omega
          rw [ej1] at HS
          have HEJ := Lib.hid ej1
          cases u with
          | zero =>
            clear h4 hcl hd hx hxF hy hxj ej1
            go_wp2_with fail
            refine HS.out.mono ?_
            rintro e w5 ⟨rfl, h5⟩
            go_wp2
            go_roundw
            case rel => exact ⟨1, x, by omega, by go_num, by rw [HEJ.out], HN.out, h5⟩
            case measure => simp [intOf]; omega
          | succ u =>
            simp only [List.getElem?_cons_succ] at hy
            obtain ⟨g1, e1⟩ := List.getElem?_eq_some_iff.1 hy
            have hlex := (List.pairwise_iff_getElem.1 HX.out) u (u + 1) g1 hxs (by omega)
            rw [e1, hx] at hlex
            obtain ⟨i, hi, hyi⟩ := HM.out y (List.mem_of_getElem? hy)
            have hci := (hcl i hi).1
            have hqi := (hcl i hi).2
            have lin : (i : Int) < (t : Int) := by omega
            have ei1 : y.1 = (i : Int) + 1 := by rw [hyi]; simp only; omega
            have ei2 : y.2 = 1 + (q i : Int) % 4 := by rw [hyi]; unfold pr; simp only
            have ej2 : x.2 = 1 + (q j : Int) % 4 := by rw [hxj]; unfold pr; simp only
            rw [ei1, ei2, ej1, ej2] at hlex
            rw [ei1]
            clear h4 hcl hd hx hxF hy e1 hxj ej1 hyi ei1 ei2 ej2
            cases mp with
            | false =>
              have d6 : decide ((j : Int) + 1 ≤ (i : Int) + 1) = false := by simp at hlex; simp; omega
              have d7 : ¬ j ≤ i := by simp at d6; omega
              have d8 : i < j := by omega
              clear hlex
              go_wp2_with fail
              refine HS.out.mono ?_
              rintro e w5 ⟨rfl, h5⟩
              have kj := (h5.b.cell (p := ⟨b, o + j, none⟩) hbl).trans hcj
              have ki := (h5.b.cell (p := ⟨b, o + i, none⟩) hbl).trans hci
              clear hcj hci HS
              go_wp2
              go_roundw
              case rel => exact ⟨u + 1 + 1, x, by omega, by go_num, by rw [HEJ.out], HN.out, h5⟩
              case measure => simp [intOf]; omega
            | true =>
              have d4 : decide ((q j : Int) % 4 < (q i : Int) % 4) = false := by simp at hlex; simp; omega
              by_cases he : (q i : Int) % 4 = (q j : Int) % 4
              · have d5 : ((q i : Int) % 4 == (q j : Int) % 4) = true := by simpa using he
                have d6 : decide ((j : Int) + 1 ≤ (i : Int) + 1) = false := by simp at hlex; simp; omega
                have d7 : ¬ j ≤ i := by simp at d6; omega
                have d8 : i < j := by omega
                clear hlex he
                go_wp2_with fail
                refine HS.out.mono ?_
                rintro e w5 ⟨rfl, h5⟩
                have kj := (h5.b.cell (p := ⟨b, o + j, none⟩) hbl).trans hcj
                have ki := (h5.b.cell (p := ⟨b, o + i, none⟩) hbl).trans hci
                clear hcj hci HS
                go_wp2
                go_roundw
                case rel => exact ⟨u + 1 + 1, x, by omega, by go_num, by rw [HEJ.out], HN.out, h5⟩
                case measure => simp [intOf]; omega
              · have d5 : ((q i : Int) % 4 == (q j : Int) % 4) = false := by simpa using he
                clear hlex he
                go_wp2_with fail
                refine HS.out.mono ?_
                rintro e w5 ⟨rfl, h5⟩
                have kj := (h5.b.cell (p := ⟨b, o + j, none⟩) hbl).trans hcj
                have ki := (h5.b.cell (p := ⟨b, o + i, none⟩) hbl).trans hci
                clear hcj hci HS
                go_wp2
                go_roundw
                case rel => exact ⟨u + 1 + 1, x, by omega, by go_num, by rw [HEJ.out], HN.out, h5⟩
                case measure => simp [intOf]; omega
        · have hnil : F.drop u = [] := List.drop_eq_nil_of_le (by rw [HLN.out]; omega)
          rw [hnil] at h4
          have HS := Lib.hid (poll_at h4 (by omega) (S' := ⟨false, [], mp, 255, []⟩) (r := 0) (o := false) rfl)
          have v1 : decide ((u : Int) < (t : Int)) = false := by simp; omega
          clear hy hnil h4
          go_wp2_with fail
          refine HS.out.mono ?_
          rintro e w5 ⟨rfl, h5⟩
          go_wp2
          go_ret
          exact ⟨rfl, h5.b⟩

/-! ### the walk -/
set_option maxRecDepth 100000 in
set_option maxHeartbeats 4000000 in
theorem walk (a0 : Bool) (a1 : Option Addr) (len1 cap1 : Nat) (z1 : List Int) (w : World) (w1 : IsRow .u8 w a1 len1 cap1 z1) :
    Calls Try.prog 4 #[.bool a0, .slice a1 len1 cap1] w fun e w' => e = .returned (.bool true) ∧ Below w.heap.size w w' := by
  obtain ⟨h1, q, h2⟩ := src_of w1
  by_cases h : len1 ≤ 60
  · exact walkIn a0 a1 len1 cap1 q w h2 h
  · exact walkOut a0 a1 len1 cap1 w h1 h

/-! ### THE ROW's STEP: WRITTEN OUT: LEAVE IT -/
set_option maxRecDepth 100000 in
theorem lifted (os : Os) (started : os.Started) (H : Type) (enc : TypeId × Value → H) :
    ReturnsInHanded {} Try.checked os 4 .any (Rows.boxSortsSpec.pre6 enc Try.prog Try.f4 Rows.boxSortsRow.domain false) (Rows.boxSortsSpec.post enc Try.prog Try.f4 false true false false) := by
  refine returnsInHanded_of_change (C := Try.checked) own started (by kernel_rfl) Try.func4
    (ChangeSpec.witness6 (enc := enc) (C := Try.checked) false ⟨#[], #[.bool false, .slice none 0 0], []⟩ 8 (by kernel_rfl) (by kernel_rfl) (by kernel_rfl) (by kernel_rfl)) ?_
  intro W base args ds gs before hval0 hW hcnd _
  have hval : ∀ (j : Nat) t v, Try.f4.params[j]? = some t → args[j]? = some v → Value.okWide Try.prog W .any base t v := hval0
  have hW' := hW
  obtain ⟨p, q, hA0, hV, rfl, hfz, hnd⟩ := hW
  have hA : DataW.TrodAll enc Try.prog W 0 (fun _ => true) true Try.f4.params.toList args.toList ds p := hA0
  rw [Try.params4] at hA hval
  obtain ⟨v0, vs0, d0, ds0, p0, q0, hargs, rfl, rfl, h0, r0⟩ := trodAll_cons hA
  obtain ⟨v1, vs1, d1, ds1, p1, q1, rfl, rfl, rfl, h1, r1⟩ := trodAll_cons r0
  obtain ⟨rfl, rfl, rfl⟩ := trodAll_nil r1
  obtain rfl : args = #[v0, v1] := by cases args; simp_all
  obtain ⟨rfl, rfl⟩ := trodVars_none hV
  obtain ⟨a0, rfl, rfl, rfl⟩ := open_bool Try.underlying4 (hval 0 4 v0 rfl rfl) h0
  obtain ⟨a1, len1, cap1, rfl⟩ := okWide_slice Try.underlying69 (hval 1 69 v1 rfl rfl)
  have k1 := h1
  have lt1 : ∀ x ∈ p1, x.block < W.heap.size := by obtain ⟨m, hm⟩ := k1; exact DataW.trod_lt m _ _ _ hm
  obtain ⟨z1, w1⟩ : ∃ zs, IsRow .u8 W a1 len1 cap1 zs := by
    obtain ⟨fuel, hf⟩ := h1
    rcases open_ints Try.underlying69 Try.underlying5 (by kernel_rfl) hf with ⟨hcs, _⟩ | ⟨x, l, c, zs, hcs, _, hl, hm, hz, _, hcell, hwz⟩
    · simp [Value.cells] at hcs
      obtain ⟨rfl, rfl, rfl⟩ := hcs
      exact ⟨[], .inl ⟨rfl, rfl, rfl, rfl⟩⟩
    · simp [Value.cells] at hcs
      obtain ⟨rfl, rfl, rfl⟩ := hcs
      exact ⟨zs, .inr ⟨_, rfl, hl, hm, by simpa using hz, hcell, hwz⟩⟩
  clear hA0 hval0
  refine (walk a0 a1 len1 cap1 z1 W w1).mono fun e W' ⟨he, bel⟩ => ?_
  subst he
  exact ⟨_, rfl, _, _, _, [], _, [], hW', trodAll_mk1 (shut_bool Try.underlying4 _), (trodAll_cons_mk (shut_bool Try.underlying4 _) (trodAll_cons_mk (Below.trod laidOut (by kernel_rfl) (of_decide_eq_true (by kernel_rfl)) k1 bel lt1) trodAll_mk0)), rfl, bel.frame _, fun h => by cases h⟩

theorem over : Rows.boxSortsRow.holds Try.pinned (OpenSpec.ofChange Rows.boxSortsSpec) :=
  OpenClaim.holds_of_wide 4 Try.f4 rfl rfl rfl rfl rfl rfl rfl ⟨rfl, rfl, rfl, rfl, rfl⟩ rfl rfl rfl rfl rfl (by kernel_rfl) Try.func4 (by kernel_rfl)
    (of_decide_eq_true (by kernel_rfl)) (by unfold Func.isWrapper; first | (rw [if_pos (by decide +kernel)]; kernel_rfl) | (rw [if_neg (by decide +kernel)]; exact ⟨rfl, rfl⟩))
    (fun os started H enc _ => lifted os started H enc)

/-- ████ THE STATEMENT ████ -/
theorem proved : Rows.BoxSortsSaid := over
#print axioms proved
end Go.Proofs.Ytapogohekfeiiaa.boxSorts
namespace Go.Proofs.Ytapogohekfeiiaa
theorem boxSorts_holds : Rows.BoxSortsSaid := boxSorts.proved
end Go.Proofs.Ytapogohekfeiiaa
