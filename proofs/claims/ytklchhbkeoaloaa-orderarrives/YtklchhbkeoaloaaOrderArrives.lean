/-
  PROVED: the Go function detentlaw4.OrderArrives returns true for every input, and each argument reads behind the call as it read before (Rows.OrderArrivesSaid). No condition.
-/
import Derived.Test.YtklchhbkeoaloaaRows
import Derived.Test.YtklchhbkeoaloaaConL
import Derived.WalkKit
import Derived.ProofKit
import Derived.OpenShut
import Derived.ShutString
import Derived.ChangeOld
import Derived.Below
namespace Go.Proofs.Ytklchhbkeoaloaa.orderArrives
open Go.ChangeShapes Go.WideShapes Go.ChangeAt Go.RowKit
open Go.ChangeMaps (open_string shut_string)
set_option linter.unusedVariables false

theorem own : ownKnob Try.prog.godebug = none := by kernel_rfl
theorem laidOut : laidOutB Try.prog = true := by kernel_rfl

/-- WHAT THE WALK IS TOLD OF A SLICE OF INTEGERS THAT CAME IN: it is nil; or it leads to a row of 'cap' cells, the numbers 'zs' (the first 'len' are its elements, the rest its spare room), each fitting its kind. -/
def IsRow (k : IntKind) (w : World) (a : Option Addr) (len cap : Nat) (zs : List Int) : Prop :=
  (a = none ∧ len = 0 ∧ cap = 0 ∧ zs = []) ∨
  ∃ x, a = some x ∧ len ≤ cap ∧ cap ≤ maxLen ∧ zs.length = cap ∧ (∀ i, i < zs.length → w.cell? (x.add i) = some (.int k (zs.getD i 0))) ∧ ∀ n ∈ zs, (Lit.int k n).wf = true

def Post (w : World) (e : Ending) (w' : World) : Prop := e = .returned (.bool true) ∧ Below w.heap.size w w'

/-- the priorities -/
def pr (q : Nat → Nat) (j : Nat) : Int := ((1 + q j % 16 : Nat) : Int)
theorem pr_in (q : Nat → Nat) (j : Nat) : 1 ≤ pr q j ∧ pr q j ≤ 16 := by unfold pr; omega

/-- 1, 2, .. n -/
def ids (n : Nat) : List Int := (List.range n).map (fun j => ((j + 1 : Nat) : Int))
theorem fil_ids (f : Nat → Int) : ∀ t, (fil false f t).map Prod.fst = ids t
  | 0 => rfl
  | t + 1 => by
    have e : fil false f (t + 1) = fil false f t ++ [(((t + 1 : Nat) : Int), f t)] := by
      rw [fil]; unfold ins plc; simp
    rw [e, List.map_append, fil_ids f t]
    unfold ids
    rw [List.range_succ, List.map_append]; rfl
theorem ids_has {n k : Nat} (h : k < n) : ((k + 1 : Nat) : Int) ∈ ids n := List.mem_map.2 ⟨k, List.mem_range.2 h, rfl⟩
theorem ids_drop {n t : Nat} (h : t < n) : (ids n).drop t = ((t + 1 : Nat) : Int) :: (ids n).drop (t + 1) := by
  have hl : t < (ids n).length := by simpa [ids] using h
  rw [List.drop_eq_getElem_cons hl]
  congr 1
  simp [ids]
theorem chg_map {L : List It} {id pri : Int} (hp : pos L id < L.length) (h1 : 1 ≤ pri ∧ pri ≤ 16) : (chgL false L id pri).map Prod.fst = L.map Prod.fst := by
  obtain ⟨q, hq⟩ := pos_at hp
  unfold chgL
  rw [if_pos ⟨hp, h1⟩, if_neg (by simp)]
  exact set_map hq

theorem change_in (p n k h : Nat) (L : List It) (w : World) (hl : Ln w p 42 false L) (hG : Good false L) (hI : L.map Prod.fst = ids n) (hk : k < n) (hh : h ≤ 15) (id pri : Int) (hid : id = ((k + 1 : Nat) : Int)) (hpri : pri = ((h + 1 : Nat) : Int)) :
    Calls Try.prog 16 #[.pointer (some ⟨p, 0, none⟩), .int .i64 id, .int .i64 pri] w fun e w' => e = .returned (.bool true) ∧ ∃ L', Ln w' p 42 false L' ∧ Good false L' ∧ L'.map Prod.fst = ids n ∧ Only p w w' := by
  subst hid hpri
  have hp : pos L ((k + 1 : Nat) : Int) < L.length := by
    have := ids_has hk
    rw [← hI] at this
    obtain ⟨x, hx, e⟩ := List.mem_map.1 this
    exact pos_lt.2 ⟨x, hx, e⟩
  refine (change_to p false L _ true w hl hG _ _ (by unfold chgOk; exact decide_eq_true ⟨hp, by omega, by omega⟩) rfl).mono ?_
  rintro e w' ⟨he, hl', ho⟩
  exact ⟨he, _, hl', hG.chgL _ _, by rw [chg_map hp (by omega)]; exact hI, ho⟩

def FillRel (p n : Nat) (q : Nat → Nat) (w : World) (i : Value) (wr : World) : Prop :=
  ∃ t : Nat, t ≤ n ∧ i = .int .i64 (t : Int) ∧ Ln wr p 42 false (fil false (pr q) t) ∧ Below w.heap.size w wr
def ChgRel (p n m : Nat) (w : World) (i : Value) (wr : World) : Prop :=
  ∃ (t : Nat) (L : List It), t ≤ m ∧ i = .int .i64 (t : Int) ∧ Ln wr p 42 false L ∧ Good false L ∧ L.map Prod.fst = ids n ∧ Below w.heap.size w wr
def TakeRel (p n : Nat) (w : World) (i : Value) (wr : World) : Prop :=
  ∃ (t : Nat) (L : List It), t ≤ n ∧ i = .int .i64 (t : Int) ∧ Ln wr p 42 false L ∧ Good false L ∧ L.map Prod.fst = (ids n).drop t ∧ Below w.heap.size w wr

set_option maxHeartbeats 800000 in
theorem walkOut (A : Option Addr) (n cap : Nat) (B : Option Addr) (m cap2 : Nat) (w : World) (hn0 : n ≤ 9223372036854775807) (hm0 : m ≤ 9223372036854775807) (hn : ¬ (n ≤ 16 ∧ m ≤ 60)) : Calls Try.prog 6 #[.slice A n cap, .slice B m cap2] w (Post w) := by
  by_cases h : n ≤ 16
  · have t1 : decide ((16 : Int) < (n : Int)) = false := by simp; omega
    have t2 : (60 : Int) < (m : Int) := by omega
    have t3 : 60 < m := by omega
    have t4 : decide (16 < n) = false := by simp; omega
    clear hn h
    go_enter Try.func6, Try.ntmps6
    go_wp2_with fail
    refine (known_ok _).mono ?_
    rintro e w0 ⟨rfl, hb0⟩
    go_wp2
    go_ret
    exact ⟨rfl, hb0⟩
  · have t1 : (16 : Int) < (n : Int) := by omega
    have t2 : 16 < n := by omega
    clear hn h
    go_enter Try.func6, Try.ntmps6
    go_wp2_with fail
    refine (known_ok _).mono ?_
    rintro e w0 ⟨rfl, hb0⟩
    go_wp2
    go_ret
    exact ⟨rfl, hb0⟩

set_option maxHeartbeats 3200000 in
theorem walkIn (A : Option Addr) (n cap : Nat) (q : Nat → Nat) (B : Option Addr) (m cap2 : Nat) (q2 : Nat → Nat) (w : World) (hs : Src w A n q) (hs2 : Src w B m q2) (hn : n ≤ 16) (hm : m ≤ 60) : Calls Try.prog 6 #[.slice A n cap, .slice B m cap2] w (Post w) := by
  have t1 : decide ((16 : Int) < (n : Int)) = false := by simp; omega
  have t2 : decide (16 < n) = false := by simp; omega
  have t3 : decide ((60 : Int) < (m : Int)) = false := by simp; omega
  have t4 : decide (60 < m) = false := by simp; omega
  go_enter Try.func6, Try.ntmps6
  go_wp2_with fail
  refine (known_ok _).mono ?_
  rintro e w0 ⟨rfl, hb0⟩
  go_wp2_with fail
  refine (new_ok false w0).mono ?_
  rintro e w1 ⟨p, hp, rfl, hl1, hk1⟩
  have hpw : w.heap.size ≤ p := Nat.le_trans hb0.size hp
  have hb1 := hb0.trans (hk1.mono hb0.size)
  clear hb0 hk1 hp t1 t2 t3 t4
  go_wp2
  go_loopw [6] (fun i wr => FillRel p n q w i wr) (fun i _ => n - (intOf i).toNat)
  case atStart => exact ⟨0, Nat.zero_le _, rfl, hl1, hb1⟩
  case round =>
    obtain ⟨t, ht, rfl, hl2, hb2⟩ := hrel
    clear hl1 hb1
    by_cases hlt : t < n
    · obtain ⟨b, o, rfl, hbl, hcl⟩ := hs (by omega)
      obtain ⟨hc, hq⟩ := hcl t hlt
      have hct : wr.cell? ⟨b, o + t, none⟩ = _ := (hb2.cell (p := ⟨b, o + t, none⟩) hbl).trans hc
      have HC := Lib.hid hcl
      clear hc hcl
      go_wp2_with fail
      refine (add_fil p false (pr q) (pr_in q) t (by omega) wr hl2 _ _ (by omega) (by unfold pr; omega)).mono ?_
      rintro e w3 ⟨rfl, hl3, ho3⟩
      have hb3 := hb2.trans (ho3.below hb2.size hpw)
      clear hl2 hb2 ho3 hct
      go_wp2
      go_roundw
      case rel => exact ⟨t + 1, by omega, by go_num, hl3, hb3⟩
      case measure => simp [intOf]; omega
    · obtain rfl : t = n := by omega
      have HG0 := Lib.hid (fil_good (b := false) (pr_in q) hn)
      have HI0 := Lib.hid (fil_ids (pr q) t)
      generalize fil false (pr q) t = F at *
      go_wp2
      go_loopw [7] (fun i wr => ChgRel p t m w i wr) (fun i _ => m - (intOf i).toNat)
      case atStart => exact ⟨0, F, Nat.zero_le _, rfl, hl2, HG0.out, HI0.out, hb2⟩
      case round =>
        obtain ⟨s, L, hs1, rfl, hl4, hG, hI, hb4⟩ := hrel
        have HG := Lib.hid hG
        have HI := Lib.hid hI
        clear hl2 hb2 HG0 HI0 hG hI
        by_cases hgo : s < m ∧ 0 < t
        · obtain ⟨hlt2, ht0⟩ := hgo
          obtain ⟨b, o, rfl, hbl, hcl⟩ := hs2 (by omega)
          obtain ⟨hc, hq⟩ := hcl s hlt2
          have hct : wr.cell? ⟨b, o + s, none⟩ = _ := (hb4.cell (p := ⟨b, o + s, none⟩) hbl).trans hc
          have is : (s : Int) < (m : Int) := by omega
          have it : (0 : Int) < (t : Int) := by omega
          have in0 : ¬ (t : Int) = 0 := by omega
          have in1 : ¬ t = 0 := by omega
          obtain ⟨k, hk⟩ : ∃ k, q2 s % t = k := ⟨_, rfl⟩
          obtain ⟨h, hh⟩ : ∃ h, q2 s / 16 = h := ⟨_, rfl⟩
          have hkt : k < t := by rw [← hk]; exact Nat.mod_lt _ ht0
          have hh16 : h ≤ 15 := by omega
          have e1 : IntKind.i64.wrap (q2 s : Int) = (q2 s : Int) := IntWalk.i64_in _ (by omega)
          have e2 : (q2 s : Int).tmod (t : Int) = (k : Int) := by rw [Int.tmod_eq_emod_of_nonneg (by omega), ← hk]; omega
          have e3 : (q2 s : Int).fdiv (2 ^ 4) = (h : Int) := by rw [Int.fdiv_eq_ediv_of_nonneg _ (by omega), ← hh]; omega
          have e4 : IntKind.i64.wrap (h : Int) = (h : Int) := IntWalk.i64_in _ (by omega)
          have e5 : IntKind.i64.wrap (1 + (k : Int)) = ((k + 1 : Nat) : Int) := by rw [IntWalk.i64_in _ (by omega)]; omega
          have e6 : IntKind.i64.wrap (1 + (h : Int)) = ((h + 1 : Nat) : Int) := by rw [IntWalk.i64_in _ (by omega)]; omega
          clear hc hcl
          have HH := Lib.hid hh
          clear hk hh
          go_wp2
          go_still_tail 17, (by kernel_rfl)
          change wpList _ _ _ _ _ wr.drew
          have hl5 : Ln wr.drew p 42 false L := hl4
          have hb5 : Below w.heap.size w wr.drew := hb4.drew
          generalize wr.drew = w5 at *
          clear hl4 hb4 hct
          go_wp2_with fail
          refine (change_in p t k h L w5 hl5 HG.out HI.out hkt hh16 _ _ (by omega) (by have := HH.out; omega)).mono ?_
          rintro e w6 ⟨rfl, L', hl6, hG6, hI6, ho6⟩
          have hb6 := hb5.trans (ho6.below hb5.size hpw)
          have HG6 := Lib.hid hG6
          have HI6 := Lib.hid hI6
          clear hl5 hb5 HG HI hG6 hI6 ho6 e1 e2 e3 e4 e5 e6
          go_wp2
          go_roundw
          case rel => exact ⟨s + 1, L', by omega, by go_num, hl6, HG6.out, HI6.out, hb6⟩
          case measure => simp [intOf]; omega
        · by_cases hsm : s < m
          · have h0 : t = 0 := by omega
            subst h0
            have ism : (s : Int) < (m : Int) := by omega
            clear hgo
            go_wp2
            go_loopw [8] (fun i wr => TakeRel p 0 w i wr) (fun i _ => 0 - (intOf i).toNat)
            case atStart => exact ⟨0, L, Nat.zero_le _, rfl, hl4, HG.out, HI.out, hb4⟩
            case round =>
              obtain ⟨u, M, hu, rfl, hl7, hG7, hI7, hb7⟩ := hrel
              obtain rfl : u = 0 := by omega
              have hM : M = [] := by simpa [ids] using hI7
              subst hM
              clear hl4 hb4 hG7 hI7
              go_wp2_with fail
              refine (len_ok p 42 false [] wr hl7).mono ?_
              rintro e w8 ⟨rfl, rfl⟩
              go_wp2
              go_ret
              exact ⟨rfl, hb7⟩
          · have ism : decide ((s : Int) < (m : Int)) = false := by simp; omega
            have ism2 : decide (s < m) = false := by simp; omega
            clear hgo hsm
            go_wp2
            go_loopw [8] (fun i wr => TakeRel p t w i wr) (fun i _ => t - (intOf i).toNat)
            case atStart => exact ⟨0, L, Nat.zero_le _, rfl, hl4, HG.out, HI.out, hb4⟩
            case round =>
              obtain ⟨u, M, hu, rfl, hl7, hG7, hI7, hb7⟩ := hrel
              clear hl4 hb4 HG HI
              by_cases hlt3 : u < t
              · rw [ids_drop hlt3] at hI7
                obtain ⟨x, M', rfl⟩ : ∃ x M', M = x :: M' := by
                  cases M with
                  | nil => simp at hI7
                  | cons x M' => exact ⟨x, M', rfl⟩
                rw [List.map_cons] at hI7
                injection hI7 with hx hI8
                have HI8 := Lib.hid hI8
                have HG8 := Lib.hid (hG7.tail 1)
                have hx' : x.1 = (u : Int) + 1 := by rw [hx]; omega
                have HK := Lib.hid (take_some p false x M' wr hl7 hG7.len)
                rw [hx'] at HK
                clear hI8 hG7 hx hx' hl7
                go_wp2_with fail
                refine HK.out.mono ?_
                rintro e w8 ⟨rfl, hl8, ho8⟩
                have hb8 := hb7.trans (ho8.below hb7.size hpw)
                have hl9 := hl8.alloc (.cells #[.int .i64 ((u : Int) + 1), .int .i64 x.2] 37)
                have hb9 := hb8.alloc hb8.size (.cells #[.int .i64 ((u : Int) + 1), .int .i64 x.2] 37)
                clear hb7 ho8 HK
                go_wp2
                go_roundw
                case rel => exact ⟨u + 1, M', by omega, by go_num, hl9, HG8.out, HI8.out, hb9⟩
                case measure => simp [intOf]; omega
              · obtain rfl : u = t := by omega
                have hM : M = [] := by
                  have : (ids u).drop u = [] := List.drop_eq_nil_of_le (by simp [ids])
                  rw [this] at hI7
                  simpa using hI7
                subst hM
                clear hG7 hI7
                go_wp2_with fail
                refine (len_ok p 42 false [] wr hl7).mono ?_
                rintro e w8 ⟨rfl, rfl⟩
                go_wp2
                go_ret
                exact ⟨rfl, hb7⟩


/-! ### the walk -/
theorem walk (a0 : Option Addr) (len0 cap0 : Nat) (z0 : List Int) (a1 : Option Addr) (len1 cap1 : Nat) (z1 : List Int) (w : World) (w0 : IsRow .u8 w a0 len0 cap0 z0) (w1 : IsRow .u8 w a1 len1 cap1 z1) :
    Calls Try.prog 6 #[.slice a0 len0 cap0, .slice a1 len1 cap1] w fun e w' => e = .returned (.bool true) ∧ Below w.heap.size w w' := by
  obtain ⟨h1, q, h2⟩ := src_of w0
  obtain ⟨h3, q', h4⟩ := src_of w1
  by_cases h : len0 ≤ 16 ∧ len1 ≤ 60
  · exact walkIn a0 len0 cap0 q a1 len1 cap1 q' w h2 h4 h.1 h.2
  · exact walkOut a0 len0 cap0 a1 len1 cap1 w h1 h3 h

/-! ### THE ROW's STEP: WRITTEN OUT: LEAVE IT -/
set_option maxRecDepth 100000 in
theorem lifted (os : Os) (started : os.Started) (H : Type) (enc : TypeId × Value → H) :
    ReturnsInHanded {} Try.checked os 6 .any (Rows.orderArrivesSpec.pre6 enc Try.prog Try.f6 Rows.orderArrivesRow.domain false) (Rows.orderArrivesSpec.post enc Try.prog Try.f6 false true false false) := by
  refine returnsInHanded_of_change (C := Try.checked) own started (by kernel_rfl) Try.func6
    (ChangeSpec.witness6 (enc := enc) (C := Try.checked) false ⟨#[], #[.slice none 0 0, .slice none 0 0], []⟩ 8 (by kernel_rfl) (by kernel_rfl) (by kernel_rfl) (by kernel_rfl)) ?_
  intro W base args ds gs before hval0 hW hcnd _
  have hval : ∀ (j : Nat) t v, Try.f6.params[j]? = some t → args[j]? = some v → Value.okWide Try.prog W .any base t v := hval0
  have hW' := hW
  obtain ⟨p, q, hA0, hV, rfl, hfz, hnd⟩ := hW
  have hA : DataW.TrodAll enc Try.prog W 0 (fun _ => true) true Try.f6.params.toList args.toList ds p := hA0
  rw [Try.params6] at hA hval
  obtain ⟨v0, vs0, d0, ds0, p0, q0, hargs, rfl, rfl, h0, r0⟩ := trodAll_cons hA
  obtain ⟨v1, vs1, d1, ds1, p1, q1, rfl, rfl, rfl, h1, r1⟩ := trodAll_cons r0
  obtain ⟨rfl, rfl, rfl⟩ := trodAll_nil r1
  obtain rfl : args = #[v0, v1] := by cases args; simp_all
  obtain ⟨rfl, rfl⟩ := trodVars_none hV
  obtain ⟨a0, len0, cap0, rfl⟩ := okWide_slice Try.underlying53 (hval 0 53 v0 rfl rfl)
  have k0 := h0
  have lt0 : ∀ x ∈ p0, x.block < W.heap.size := by obtain ⟨m, hm⟩ := k0; exact DataW.trod_lt m _ _ _ hm
  obtain ⟨z0, w0⟩ : ∃ zs, IsRow .u8 W a0 len0 cap0 zs := by
    obtain ⟨fuel, hf⟩ := h0
    rcases open_ints Try.underlying53 Try.underlying5 (by kernel_rfl) hf with ⟨hcs, _⟩ | ⟨x, l, c, zs, hcs, _, hl, hm, hz, _, hcell, hwz⟩
    · simp [Value.cells] at hcs
      obtain ⟨rfl, rfl, rfl⟩ := hcs
      exact ⟨[], .inl ⟨rfl, rfl, rfl, rfl⟩⟩
    · simp [Value.cells] at hcs
      obtain ⟨rfl, rfl, rfl⟩ := hcs
      exact ⟨zs, .inr ⟨_, rfl, hl, hm, by simpa using hz, hcell, hwz⟩⟩
  obtain ⟨a1, len1, cap1, rfl⟩ := okWide_slice Try.underlying53 (hval 1 53 v1 rfl rfl)
  have k1 := h1
  have lt1 : ∀ x ∈ p1, x.block < W.heap.size := by obtain ⟨m, hm⟩ := k1; exact DataW.trod_lt m _ _ _ hm
  obtain ⟨z1, w1⟩ : ∃ zs, IsRow .u8 W a1 len1 cap1 zs := by
    obtain ⟨fuel, hf⟩ := h1
    rcases open_ints Try.underlying53 Try.underlying5 (by kernel_rfl) hf with ⟨hcs, _⟩ | ⟨x, l, c, zs, hcs, _, hl, hm, hz, _, hcell, hwz⟩
    · simp [Value.cells] at hcs
      obtain ⟨rfl, rfl, rfl⟩ := hcs
      exact ⟨[], .inl ⟨rfl, rfl, rfl, rfl⟩⟩
    · simp [Value.cells] at hcs
      obtain ⟨rfl, rfl, rfl⟩ := hcs
      exact ⟨zs, .inr ⟨_, rfl, hl, hm, by simpa using hz, hcell, hwz⟩⟩
  clear hA0 hval0
  refine (walk a0 len0 cap0 z0 a1 len1 cap1 z1 W w0 w1).mono fun e W' ⟨he, bel⟩ => ?_
  subst he
  exact ⟨_, rfl, _, _, _, [], _, [], hW', trodAll_mk1 (shut_bool Try.underlying4 _), (trodAll_cons_mk (Below.trod laidOut (by kernel_rfl) (of_decide_eq_true (by kernel_rfl)) k0 bel lt0) (trodAll_cons_mk (Below.trod laidOut (by kernel_rfl) (of_decide_eq_true (by kernel_rfl)) k1 bel lt1) trodAll_mk0)), rfl, bel.frame _, fun h => by cases h⟩

theorem over : Rows.orderArrivesRow.holds Try.pinned (OpenSpec.ofChange Rows.orderArrivesSpec) :=
  OpenClaim.holds_of_wide 6 Try.f6 rfl rfl rfl rfl rfl rfl rfl ⟨rfl, rfl, rfl, rfl, rfl⟩ rfl rfl rfl rfl rfl (by kernel_rfl) Try.func6 (by kernel_rfl)
    (of_decide_eq_true (by kernel_rfl)) (by unfold Func.isWrapper; first | (rw [if_pos (by decide +kernel)]; kernel_rfl) | (rw [if_neg (by decide +kernel)]; exact ⟨rfl, rfl⟩))
    (fun os started H enc _ => lifted os started H enc)

/-- ████ THE STATEMENT ████ -/
theorem proved : Rows.OrderArrivesSaid := over
#print axioms proved
end Go.Proofs.Ytklchhbkeoaloaa.orderArrives
namespace Go.Proofs.Ytklchhbkeoaloaa
theorem orderArrives_holds : Rows.OrderArrivesSaid := orderArrives.proved
end Go.Proofs.Ytklchhbkeoaloaa
