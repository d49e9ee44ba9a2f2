/- Contracts of package order: permitted, Len, find, Has, First, Pri, place. -/
import Derived.Test.YtneimdjgbblaoaaMem
import Derived.WalkKit
import Derived.WalkSpells
import Derived.WalkLawsBesides
import Derived.Lib.Hide
import Derived.OwnWalk
import Derived.Deep.QuietTactic
import Derived.BigQuiet
import Derived.StillTailTactics
import Derived.Laws.ResultCell
namespace Go.Proofs.Ytneimdjgbblaoaa
open Go.RowKit
set_option maxRecDepth 100000
variable {O : Nat} {X : Nat → Option Value}

set_option maxHeartbeats 400000 in
theorem permitted_any (x : Int) (w : World) (r : Bool) (hr : decide (1 ≤ x ∧ x ≤ 16) = r) :
    Calls Try.prog 72 #[.int .i64 x] w fun e w' => e = .returned (.bool r) ∧ w = w' := by
  subst hr
  by_cases c1 : 1 ≤ x
  · have e : decide (1 ≤ x ∧ x ≤ 16) = decide (x ≤ 16) := by simp [c1]
    rw [e]
    go_enter Try.func72, Try.ntmps72
    go_wp2
    go_ret
    exact ⟨rfl, rfl⟩
  · have e : decide (1 ≤ x ∧ x ≤ 16) = false := by simp [c1]
    have t1 : decide (1 ≤ x) = false := by simpa using c1
    rw [e]
    go_enter Try.func72, Try.ntmps72
    go_wp2
    go_ret
    exact ⟨rfl, rfl⟩

/-- what find tells -/
def fnd (L : List It) (id : Int) : Int := if pos L id < L.length then (pos L id : Int) else 0

theorem below_drewN (w : World) (n : Nat) : Below w.heap.size w (w.drewN n) := ⟨rfl, rfl, rfl, Nat.le_refl _, fun _ _ => rfl⟩

set_option maxHeartbeats 800000 in
theorem find_any (p T : Nat) (b : Bool) (L : List It) (w : World) (hl : Ln O X w p T b L) (hn : L.length ≤ 16) (id : Int) (a : Int) (ok : Bool) (ha : fnd L id = a) (hok : decide (pos L id < L.length) = ok) :
    Calls Try.prog 78 #[.pointer (some ⟨p, O, none⟩), .int .i64 id] w fun e w' => e = .returned (.tuple #[.int .i64 a, .bool ok]) ∧ Below w.heap.size w w' := by
  obtain ⟨f, hl, r⟩ := hl
  have h0 := hl.count
  unfold fnd at ha
  have HA := Lib.hid ha
  have HO := Lib.hid hok
  have HR := Lib.hid r
  clear ha hok r
  go_enter Try.func78, Try.ntmps78
  go_wp2
  obtain ⟨n, hlen⟩ : ∃ n, L.length = n := ⟨_, rfl⟩
  rw [hlen] at hn hl h0 HA HO
  have HLN := Lib.hid hlen
  clear hlen
  have hcut := cut_h p O n hn
  go_quiet (fail)
  go_wp2
  have hb1 := below_drewN w nq
  generalize w.drewN nq = w1 at *
  clear h0 hcut
  go_loopw [17] (fun i wr => ∃ t : Nat, t ≤ n ∧ i = .int .i64 (t : Int) ∧ (∀ (j : Nat) (y : It), j < t → L[j]? = some y → y.1 ≠ id) ∧ Below w.heap.size w wr) (fun i _ => n - (intOf i).toNat)
  case atStart => exact ⟨0, Nat.zero_le _, rfl, fun j y hj => absurd hj (by omega), hb1⟩
  case round =>
    obtain ⟨t, ht, rfl, hno, hb⟩ := hrel
    have HN := Lib.hid hno
    have hl2 := hl.below hb hl.lt
    clear hno hb1
    by_cases hlt : t < n
    · obtain ⟨x, hx⟩ : ∃ x, L[t]? = some x := ⟨_, List.getElem?_eq_getElem (by rw [HLN.out]; exact hlt)⟩
      obtain ⟨hr1, hr2⟩ := HR.out t x hx
      have hc0 := hl2.at_ (a := O + t * 2) (i := t * 2) rfl (by omega)
      have hc1 := hl2.at_ (a := O + t * 2 + 1) (i := t * 2 + 1) (by omega) (by omega)
      rw [hr1] at hc0
      rw [hr2] at hc1
      have HX := Lib.hid hx
      clear hx hr1 hr2
      by_cases he : x.1 = id
      · have te : (x.1 == id) = true := by simpa using he
        go_wp2
        go_ret2
        have hp := pos_eq HX.out he HN.out
        refine ⟨?_, hb.alloc (by have := hb.size; omega) _⟩
        rw [← HA.out, ← HO.out, hp, if_pos hlt, decide_eq_true hlt]; rfl
      · have te : (x.1 == id) = false := by simpa using he
        go_wp2
        go_roundw
        case rel =>
          refine ⟨t + 1, by omega, by go_num, fun j y hj hy => ?_, hb.alloc (by have := hb.size; omega) _⟩
          by_cases e : j = t
          · subst e; rw [HX.out] at hy; injection hy with hy; rw [← hy]; exact he
          · exact HN.out j y (by omega) hy
        case measure => simp [intOf]; omega
    · go_wp2
      go_ret2
      have hp : pos L id = n := by
        rw [← HLN.out]
        exact pos_none fun j y hy => HN.out j y (by have := (List.getElem?_eq_some_iff.1 hy).1; rw [HLN.out] at this; omega) hy
      refine ⟨?_, hb⟩
      rw [← HA.out, ← HO.out, hp, if_neg (by omega), decide_eq_false (by omega)]; rfl

set_option maxHeartbeats 400000 in
theorem has_any (p T : Nat) (b : Bool) (L : List It) (w : World) (hl : Ln O X w p T b L) (hn : L.length ≤ 16) (id : Int) (ok : Bool) (hok : decide (pos L id < L.length) = ok) :
    Calls Try.prog 73 #[.pointer (some ⟨p, O, none⟩), .int .i64 id] w fun e w' => e = .returned (.bool ok) ∧ Below w.heap.size w w' := by
  have HF := Lib.hid (find_any p T b L w hl hn id _ ok rfl hok)
  clear hl hok hn
  go_enter Try.func73, Try.ntmps73
  go_wp2_with fail
  refine HF.out.mono ?_
  rintro e w1 ⟨rfl, hb⟩
  go_wp2
  go_ret
  exact ⟨rfl, hb⟩

theorem struct_of {o : Option TypeDesc} (h : (match o with | some (.struct _) => true | _ => false) = true) : ∃ fs, o = some (.struct fs) := by
  split at h
  · exact ⟨_, rfl⟩
  · cases h
theorem und37 : ∃ fs, Try.prog.underlying 60 = some (.struct fs) := struct_of (by kernel_rfl)
theorem und46 : ∃ fs, Try.prog.underlying 100 = some (.struct fs) := struct_of (by kernel_rfl)
theorem info46 : (Try.prog.info? 100).map (·.size) = some 2 := by kernel_rfl
/-- an item and a bool are told -/
theorem ret_item {fn : Func} {s u : Tmp} (h : fn.results = #[.cell s 60, .tmp u]) (tmps : Array Value) (w : World) (g : Nat) (a b : Value) (fr : Nat × Nat)
    (hp : tmps.getD s undef = .pointer (some ⟨g, 0, none⟩)) (hg : w.heap[g]? = some (.cells #[a, b] 60 fr)) : (results fn tmps).run Try.prog w = .ok (.tuple #[.agg #[a, b], tmps.getD u undef]) w := by
  obtain ⟨fs, h1⟩ := und37
  have hl := run_loadVar_row (P := Try.prog) w g 60 60 #[a, b] fr (.struct fs) hg h1 rfl info37
  rw [results_cell_tmp h, hp]
  simp [asAddr, hl]
theorem ret_ritem {fn : Func} {s u : Tmp} (h : fn.results = #[.cell s 100, .tmp u]) (tmps : Array Value) (w : World) (g : Nat) (a b : Value) (fr : Nat × Nat)
    (hp : tmps.getD s undef = .pointer (some ⟨g, 0, none⟩)) (hg : w.heap[g]? = some (.cells #[a, b] 100 fr)) : (results fn tmps).run Try.prog w = .ok (.tuple #[.agg #[a, b], tmps.getD u undef]) w := by
  obtain ⟨fs, h1⟩ := und46
  have hl := run_loadVar_row (P := Try.prog) w g 100 100 #[a, b] fr (.struct fs) hg h1 rfl info46
  rw [results_cell_tmp h, hp]
  simp [asAddr, hl]

set_option maxHeartbeats 400000 in
theorem first_none (p T : Nat) (b : Bool) (w : World) (hl : Ln O X w p T b []) :
    Calls Try.prog 48 #[.pointer (some ⟨p, O, none⟩)] w fun e w' => e = .returned (.tuple #[.agg #[.int .i64 0, .int .i64 0], .bool false]) ∧ Below w.heap.size w w' := by
  obtain ⟨f, hl, r⟩ := hl
  have h0 := hl.count
  have h1 := (hl.alloc (.cells #[.int .i64 0, .int .i64 0] 60)).count
  clear hl
  go_enter Try.func48, Try.ntmps48
  go_wp2
  (try simp only [Exit.inBlock, Exit.then]); refine bodyPost_ret (ret_item rfl _ _ _ _ _ _ rfl (heap_alloc_new w _)) rfl ?_
  exact ⟨rfl, (Below.refl _ _).alloc (Nat.le_refl _) _⟩

set_option maxHeartbeats 400000 in
theorem first_some (p T : Nat) (b : Bool) (x : It) (L : List It) (w : World) (hl : Ln O X w p T b (x :: L)) :
    Calls Try.prog 48 #[.pointer (some ⟨p, O, none⟩)] w fun e w' => e = .returned (.tuple #[.agg #[.int .i64 x.1, .int .i64 x.2], .bool true]) ∧ Below w.heap.size w w' := by
  obtain ⟨f, hl, r⟩ := hl
  have hla := hl.alloc (.cells #[.int .i64 0, .int .i64 0] 60)
  have h0 := hla.count
  have hc0 := hla.at_ (a := O) (i := 0) rfl (by omega)
  have hc1 := hla.at_ (a := O + 1) (i := 1) rfl (by omega)
  obtain ⟨r1, r2⟩ := r 0 x rfl
  simp only [Nat.zero_mul, Nat.zero_add] at r1 r2
  rw [r1] at hc0
  rw [r2] at hc1
  have t1 : (((x :: L).length : Int) == 0) = false := by simp; omega
  generalize (x :: L).length = n at *
  clear hl hla r r1 r2
  go_enter Try.func48, Try.ntmps48
  go_wp2
  (try simp only [Exit.inBlock, Exit.then]); refine bodyPost_ret (ret_item rfl _ _ _ _ _ _ rfl (heap_alloc_new w _)) rfl ?_
  exact ⟨rfl, (Below.refl _ _).alloc (Nat.le_refl _) _⟩

set_option maxHeartbeats 800000 in
theorem place_any (p T : Nat) (b : Bool) (L : List It) (w : World) (hl : Ln O X w p T b L) (hn : L.length ≤ 16) (pri : Int) (a : Nat) (ha : plc b L pri = a) :
    Calls Try.prog 75 #[.pointer (some ⟨p, O, none⟩), .int .i64 pri] w fun e w' => e = .returned (.int .i64 (a : Int)) ∧ Below w.heap.size w w' := by
  obtain ⟨f, hl, r⟩ := hl
  have h0 := hl.count
  have h1 := hl.flag
  have HR := Lib.hid r
  clear r
  obtain ⟨n, hlen⟩ : ∃ n, L.length = n := ⟨_, rfl⟩
  rw [hlen] at hn hl h0
  have HLN := Lib.hid hlen
  clear hlen
  cases b with
  | false =>
    have HA := Lib.hid (show n = a by rw [← ha, ← HLN.out]; rfl)
    clear ha hl
    go_enter Try.func75, Try.ntmps75
    go_wp2
    go_ret
    exact ⟨by rw [← HA.out]; rfl, Below.refl _ _⟩
  | true =>
    have HA := Lib.hid ha
    clear ha
    go_enter Try.func75, Try.ntmps75
    go_wp2
    have hcut := cut_h p O n hn
    go_quiet (fail)
    go_wp2
    have hb1 := below_drewN w nq
    generalize w.drewN nq = w1 at *
    clear h0 h1 hcut
    go_loopw [22] (fun i wr => ∃ t : Nat, t ≤ n ∧ i = .int .i64 (t : Int) ∧ (∀ (j : Nat) (y : It), j < t → L[j]? = some y → y.2 ≤ pri) ∧ Below w.heap.size w wr) (fun i _ => n - (intOf i).toNat)
    case atStart => exact ⟨0, Nat.zero_le _, rfl, fun j y hj => absurd hj (by omega), hb1⟩
    case round =>
      obtain ⟨t, ht, rfl, hno, hb⟩ := hrel
      have HN := Lib.hid hno
      have hl2 := hl.below hb hl.lt
      clear hno hb1
      by_cases hlt : t < n
      · obtain ⟨x, hx⟩ : ∃ x, L[t]? = some x := ⟨_, List.getElem?_eq_getElem (by rw [HLN.out]; exact hlt)⟩
        obtain ⟨hr1, hr2⟩ := HR.out t x hx
        have hc0 := hl2.at_ (a := O + t * 2) (i := t * 2) rfl (by omega)
        have hc1 := hl2.at_ (a := O + t * 2 + 1) (i := t * 2 + 1) (by omega) (by omega)
        rw [hr1] at hc0
        rw [hr2] at hc1
        have HX := Lib.hid hx
        clear hx hr1 hr2
        by_cases he : pri < x.2
        · have te : decide (pri < x.2) = true := by simpa using he
          go_wp2
          go_ret
          refine ⟨?_, hb.alloc (by have := hb.size; omega) _⟩
          rw [← HA.out, plc_eq HX.out he HN.out]; rfl
        · have te : decide (pri < x.2) = false := by simpa using he
          go_wp2
          go_roundw
          case rel =>
            refine ⟨t + 1, by omega, by go_num, fun j y hj hy => ?_, hb.alloc (by have := hb.size; omega) _⟩
            by_cases e : j = t
            · subst e; rw [HX.out] at hy; injection hy with hy; rw [← hy]; omega
            · exact HN.out j y (by omega) hy
          case measure => simp [intOf]; omega
      · have hc2 := hl2.count
        go_wp2
        go_ret
        refine ⟨?_, hb⟩
        rw [← HA.out, plc_none fun j y hy => HN.out j y (by have := (List.getElem?_eq_some_iff.1 hy).1; rw [HLN.out] at this; omega) hy, HLN.out]; rfl
end Go.Proofs.Ytneimdjgbblaoaa
