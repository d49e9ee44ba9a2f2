/-
  PROVED: the Go function detentlaw2.ArenaWords returns true for every input, and each argument reads behind the call as it read before (Rows.ArenaWordsSaid). No condition.
-/
import Derived.Test.YtbednmifgbbhlaaRows
import Derived.Test.YtbednmifgbbhlaaConL
import Derived.WalkKit
import Derived.IntWalk
import Derived.ProofKit
import Derived.OpenShut
import Derived.ShutString
import Derived.ChangeOld
import Derived.Below
namespace Go.Proofs.Ytbednmifgbbhlaa.arenaWords
open Go.ChangeShapes Go.WideShapes Go.ChangeAt Go.RowKit
open Go.ChangeMaps (open_string shut_string)
set_option linter.unusedVariables false

theorem own : ownKnob Try.prog.godebug = none := by kernel_rfl
theorem laidOut : laidOutB Try.prog = true := by kernel_rfl

/-- WHAT THE WALK IS TOLD OF A SLICE OF INTEGERS THAT CAME IN: it is nil; or it leads to a row of 'cap' cells, the numbers 'zs' (the first 'len' are its elements, the rest its spare room), each fitting its kind. -/
def IsRow (k : IntKind) (w : World) (a : Option Addr) (len cap : Nat) (zs : List Int) : Prop :=
  (a = none ∧ len = 0 ∧ cap = 0 ∧ zs = []) ∨
  ∃ x, a = some x ∧ len ≤ cap ∧ cap ≤ maxLen ∧ zs.length = cap ∧ (∀ i, i < zs.length → w.cell? (x.add i) = some (.int k (zs.getD i 0))) ∧ ∀ n ∈ zs, (Lit.int k n).wf = true

def Post (w : World) (e : Ending) (w' : World) : Prop := e = .returned (.bool true) ∧ Below w.heap.size w w'

/-- a slice of integers that came in -/
def In (k : IntKind) (hi : Int) (w : World) (A : Option Addr) (n : Nat) (q : Nat → Int) : Prop :=
  0 < n → ∃ b o : Nat, A = some ⟨b, o, none⟩ ∧ b < w.heap.size ∧ ∀ j, j < n → w.cell? ⟨b, o + j, none⟩ = some (.int k (q j)) ∧ 0 ≤ q j ∧ q j ≤ hi

theorem in_of_row {k : IntKind} {hi : Int} {w : World} {a : Option Addr} {len cap : Nat} {zs : List Int} (h : IsRow k w a len cap zs) (hb : ∀ n : Int, (Lit.int k n).wf = true → 0 ≤ n ∧ n ≤ hi) : In k hi w a len (fun j => zs.getD j 0) := by
  intro h0
  rcases h with ⟨_, rfl, _⟩ | ⟨x, rfl, hlc, _, hz, hc, hwf⟩
  · omega
  · obtain ⟨b, o, s⟩ := x
    have hc0 := hc 0 (by omega)
    have hs : s = none := by
      cases s with
      | none => rfl
      | some q => simp [Addr.add, World.cell?] at hc0; split at hc0 <;> simp at hc0
    subst hs
    have hbl : b < w.heap.size := by have := block_lt_of_cell hc0; simpa [Addr.add] using this
    refine ⟨b, o, rfl, hbl, fun j hj => ?_⟩
    have hj' : j < zs.length := by omega
    have := hc j hj'
    rw [add_at] at this
    exact ⟨this, hb _ (hwf (zs.getD j 0) (by rw [List.getD_eq_getElem?_getD, List.getElem?_eq_getElem hj']; exact List.getElem_mem _))⟩

theorem len_le {k : IntKind} {w : World} {a : Option Addr} {len cap : Nat} {zs : List Int} (h : IsRow k w a len cap zs) : len ≤ 9223372036854775807 := by
  rcases h with ⟨_, rfl, _⟩ | ⟨x, rfl, hlc, hm, _⟩
  · omega
  · unfold maxLen at hm; omega

/-- the law's own table of 256 numbers -/
def Arr (w : World) (g : Nat) (h : Nat → Int) : Prop :=
  ∃ cs : Array Value, w.heap[g]? = some (.cells cs 47 (0, 0)) ∧ ∀ i, i < 256 → cs[i]? = some (.int .u32 (h i)) ∧ 0 ≤ h i ∧ h i ≤ 4294967295
theorem Arr.lt {w : World} {g : Nat} {h : Nat → Int} (a : Arr w g h) : g < w.heap.size := by obtain ⟨cs, hh, _⟩ := a; exact lt_of_heap hh
theorem Arr.at_ {w : World} {g : Nat} {h : Nat → Int} (a : Arr w g h) {i : Nat} (hi : i < 256) : w.cell? ⟨g, i, none⟩ = some (.int .u32 (h i)) := by
  obtain ⟨cs, hh, hc⟩ := a; rw [cell_of_row w g i cs 47 (0, 0) hh]; exact (hc i hi).1
theorem Arr.frozen {w : World} {g : Nat} {h : Nat → Int} (a : Arr w g h) (i : Nat) : w.frozen? ⟨g, i, none⟩ = false := by
  obtain ⟨cs, hh, hc⟩ := a; exact frozen_of_row w g i cs 47 hh
theorem Arr.lo {w : World} {g : Nat} {h : Nat → Int} (a : Arr w g h) {i : Nat} (hi : i < 256) : 0 ≤ h i ∧ h i ≤ 4294967295 := by
  obtain ⟨cs, hh, hc⟩ := a; exact (hc i hi).2
theorem Arr.only {w w' : World} {g p m : Nat} {h : Nat → Int} (a : Arr w g h) (k : Only p m w w') (h1 : g ≠ p) (h2 : g ≠ m) : Arr w' g h := by
  have := a.lt; obtain ⟨cs, hh, hc⟩ := a; exact ⟨cs, (k.block g this h1 h2).trans hh, hc⟩
theorem Arr.set_ {w : World} {g : Nat} {h : Nat → Int} (a : Arr w g h) (i : Nat) (x : Int) (h0 : 0 ≤ x) (h1 : x ≤ 4294967295) (hi : i < 256) :
    Arr (w.setCell ⟨g, i, none⟩ (.int .u32 x)) g (fun j => if j = i then x else h j) := by
  obtain ⟨cs, hh, hc⟩ := a
  refine ⟨cs.setIfInBounds i (.int .u32 x), heap_setCell_same w g i cs 47 _ hh, fun j hj => ?_⟩
  have hsz : i < cs.size := (Array.getElem?_eq_some_iff.1 (hc i hi).1).1
  by_cases e : j = i
  · subst e; simp [hsz, h0, h1]
  · have := hc j hj; simp [Ne.symm e, e, this.1]; exact this.2

def z256 : Array Value := Array.replicate 256 (.int .u32 0)
theorem zero47 : (Try.prog.info? 47).map (·.zero) = some (some (.agg z256)) := by kernel_rfl
theorem run_zero47 (W : World) : (zeroValue 47).run Try.prog W = .ok (.agg z256) W := by
  have h := zero47
  cases hi : Try.prog.info? 47 with
  | none => rw [hi] at h; cases h
  | some i =>
    rw [hi] at h
    simp only [Option.map_some, Option.some.injEq] at h
    simp [zeroValue, typeInfo, hi, h]
theorem arr_new (W : World) : Arr (W.alloc (.cells z256 47)) W.heap.size (fun _ => 0) := by
  refine ⟨_, heap_alloc_new W _, fun i hi => ⟨?_, by simp, by simp⟩⟩
  unfold z256; simp [hi]

/-- the bytes are the table's numbers -/
def Same (F H : Nat → Int) : Prop := ∀ i, i < 256 → ∀ b, b < 4 → F (4 * i + b) = byteOf (H i) b
theorem same_put {F H : Nat → Int} (h : Same F H) (a : Nat) (x : Int) : Same (upd F (4 * a) 4 (byteOf x)) (fun j => if j = a then x else H j) := by
  intro i hi b hb
  by_cases e : i = a
  · subst e; rw [upd_in _ _ _ _ _ (by omega) (by omega)]; simp
  · rw [upd_out _ _ _ _ _ (by omega)]; simp only [e, if_false]; exact h i hi b hb
theorem same_zero : Same (fun _ => 0) (fun _ => 0) := by
  intro i _ b hb
  match b, hb with
  | 0, _ => rw [byteOf_0]; rfl
  | 1, _ => rw [byteOf_1]; rfl
  | 2, _ => rw [byteOf_2]; rfl
  | 3, _ => rw [byteOf_3]; rfl

def Rel1 (w : World) (n p m g : Nat) (i : Value) (wr : World) : Prop :=
  ∃ (t : Nat) (F H : Nat → Int) (c : Int), t ≤ n ∧ i = .int .i64 t ∧ Ar wr p m 1024 c F ∧ 0 ≤ c ∧ c ≤ 4 * t ∧ Arr wr g H ∧ Same F H ∧ Below w.heap.size w wr
def Rel2 (w : World) (p m g : Nat) (F H : Nat → Int) (i : Value) (wr : World) : Prop :=
  ∃ (t : Nat) (c : Int), t ≤ 256 ∧ i = .int .i64 t ∧ Ar wr p m 1024 c F ∧ 0 ≤ c ∧ c ≤ 400 + 8 * t ∧ Arr wr g H ∧ Below w.heap.size w wr

set_option maxHeartbeats 3200000 in
set_option maxRecDepth 100000 in
theorem walkIn (A B : Option Addr) (n k cap capB : Nat) (q r : Nat → Int) (w : World) (hA : In .u8 255 w A n q) (hB : In .u32 4294967295 w B k r) (hn : n ≤ 100) (hk : n ≤ k) (hkm : k ≤ 9223372036854775807) :
    Calls Try.prog 5 #[.slice A n cap, .slice B k capB] w (Post w) := by
  have t1 : decide ((100 : Int) < (n : Int)) = false := by simp; omega
  have t2 : decide ((k : Int) < (n : Int)) = false := by simp; omega
  have t2' : decide (k < n) = false := by simp; omega
  have HA := Lib.hid hA
  have HB := Lib.hid hB
  clear hA hB
  go_enter Try.func5, Try.ntmps5
  go_wp2_with fail
  refine (known_any _).mono ?_
  rintro e w0 ⟨rfl, hb0⟩
  have HB0 := Lib.hid hb0; clear hb0
  go_wp2_with fail
  refine (new_ok 1024 (by omega) w0).mono ?_
  rintro e w1 ⟨p, m, hp, hm, rfl, ha1, hb1⟩
  have HB1 : Hid (Below w.heap.size w w1) := HB0.out.trans (hb1.mono HB0.out.size)
  have hp' : w.heap.size ≤ p := Nat.le_trans HB0.out.size hp
  have hm' : w.heap.size ≤ m := Nat.le_trans HB0.out.size hm
  clear HB0 hb1 hp hm
  have hz := run_zero47
  go_wp2_with fail
  clear hz
  have hr2 := arr_new w1
  have ha2 := ha1.alloc (.cells z256 47)
  have HB2 : Hid (Below w.heap.size w (w1.alloc (.cells z256 47))) := HB1.out.alloc HB1.out.size _
  obtain ⟨g, hgdef⟩ : ∃ g, g = w1.heap.size := ⟨_, rfl⟩
  have hgw : w.heap.size ≤ g := by rw [hgdef]; exact HB1.out.size
  have gp : g ≠ p := by have := ha1.ltp; omega
  have gm : g ≠ m := by have := ha1.ltm; omega
  rw [← hgdef] at hr2 ⊢
  generalize w1.alloc (.cells z256 47) = w2 at *
  clear hgdef HB1 ha1
  go_loopw [8] (fun i wr => Rel1 w n p m g i wr) (fun i _ => n - (intOf i).toNat)
  case atStart => exact ⟨0, _, _, 0, Nat.zero_le _, rfl, ha2, by omega, by omega, hr2, same_zero, HB2.out⟩
  case round =>
    obtain ⟨t, F, H, c, ht, rfl, ha, hc0, hc1, hr, hs, hb⟩ := hrel
    have HS := Lib.hid hs
    have HBr := Lib.hid hb
    clear hs hb
    by_cases hlt : t < n
    · obtain ⟨b, o, rfl, hbl, hca⟩ := HA.out (by omega)
      obtain ⟨b2, o2, rfl, hbl2, hcb⟩ := HB.out (by omega)
      have ca := (hca t hlt).1
      have qb := (hca t hlt).2
      have cb := (hcb t (by omega)).1
      have rb := (hcb t (by omega)).2
      clear hca hcb
      have ca' : wr.cell? ⟨b, o + t, none⟩ = some (.int .u8 (q t)) := by rw [HBr.out.cell (p := ⟨b, o + t, none⟩) hbl]; exact ca
      have cb' : wr.cell? ⟨b2, o2 + t, none⟩ = some (.int .u32 (r t)) := by rw [HBr.out.cell (p := ⟨b2, o2 + t, none⟩) hbl2]; exact cb
      clear ca cb
      obtain ⟨x, hqx⟩ : ∃ x : Nat, q t = x := ⟨(q t).toNat, by omega⟩
      rw [hqx] at ca' qb
      obtain ⟨y, hry⟩ : ∃ y : Int, r t = y := ⟨_, rfl⟩
      rw [hry] at cb' rb
      clear hqx hry
      have hx256 : x < 256 := by omega
      have hx256' : (x : Int) < 256 := by omega
      have e4 : ((4 * x : Nat) : Int) = 4 * (x : Int) := by omega
      have HW := Lib.hid (putWord_ok p m 1024 (4 * x) c y F wr.drew ha.drew (by omega) (by omega) (by omega) hc0 (by omega) rb.1 rb.2)
      rw [e4] at HW
      clear e4
      have hw4 : IntKind.i64.wrap (4 * (x : Int)) = 4 * (x : Int) := IntWalk.i64_in _ (by omega)
      have hkt : t < k := by omega
      go_wp2_with fail
      go_still_tail 11, (by kernel_rfl)
      clear hw4
      change wpList _ _ _ _ _ wr.drew
      go_wp2_with fail
      refine HW.out.mono ?_
      rintro e w3 ⟨rfl, ha3, ho3⟩
      have ca3 : w3.cell? ⟨b, o + t, none⟩ = some (.int .u8 x) := by rw [ho3.cell (q := ⟨b, o + t, none⟩) (by have := HBr.out.size; simp only [World.drew]; omega) (by simp only; omega) (by simp only; omega)]; exact ca'
      have cb3 : w3.cell? ⟨b2, o2 + t, none⟩ = some (.int .u32 y) := by rw [ho3.cell (q := ⟨b2, o2 + t, none⟩) (by have := HBr.out.size; simp only [World.drew]; omega) (by simp only; omega) (by simp only; omega)]; exact cb'
      have hr3 : Arr w3 g H := Arr.only (w := wr.drew) hr ho3 gp gm
      have hcx := hr3.at_ hx256
      have hfx := hr3.frozen x
      have HB3 : Hid (Below w.heap.size w w3) := HBr.out.drew.trans (ho3.below HBr.out.size hp' hm')
      clear HW HBr ho3 hr ca' cb' ha
      go_wp2_with fail
      go_still_tail 9, (by kernel_rfl)
      change wpList _ _ _ _ _ w3.drew
      go_wp2
      go_roundw
      case rel =>
        refine ⟨t + 1, _, _, c + 4, by omega, by go_num, (ha3.far (q := ⟨g, x, none⟩) (Ne.symm gp) (Ne.symm gm) _).drew, by omega, by omega, ?_, same_put HS.out x y, (HB3.out.setCell (p := ⟨g, x, none⟩) hgw _).drew⟩
        exact hr3.set_ x y rb.1 rb.2 hx256
      case measure => simp [intOf]; omega
    · obtain rfl : t = n := by omega
      clear HB2 hr2 ha2 HA HB
      go_wp2_with fail
      go_loopw [9] (fun i wr => Rel2 w p m g F H i wr) (fun i _ => 256 - (intOf i).toNat)
      case atStart => exact ⟨0, c, Nat.zero_le _, rfl, ha, by omega, by omega, hr, HBr.out⟩
      case round =>
        clear ha hr HBr
        obtain ⟨u, d, hu, rfl, ha, hd0, hd1, hr, hb⟩ := hrel
        have HB1 := Lib.hid hb
        clear hb
        by_cases hlt2 : u < 256
        · have e4 : ((4 * u : Nat) : Int) = 4 * (u : Int) := by omega
          have hl := hr.lo hlt2
          have hwd : wordUp F (4 * u) 4 = H u := wordUp_byteOf F (4 * u) (H u) hl.1 hl.2 (fun b hb => HS.out u hlt2 b hb)
          have HW := Lib.hid (word_ok p m 1024 (4 * u) d F wr ha (by omega) (by omega) (by omega) hd0 (by omega))
          unfold WordPost at HW
          rw [e4, hwd] at HW
          clear hwd
          go_wp2_with fail
          refine HW.out.mono ?_
          rintro e w3 ⟨rfl, ha3, ho3⟩
          have hr3 := hr.only ho3 gp gp
          have HB3 : Hid (Below w.heap.size w w3) := HB1.out.trans (ho3.below HB1.out.size hp' hp')
          have HR := Lib.hid (read_ok p m 1024 (4 * u) 4 (d + 4) F w3 ha3 (by omega) (by omega) (by omega) (by omega))
          rw [e4] at HR
          clear e4 HW hr ha HB1 ho3
          go_wp2_with fail
          refine HR.out.mono ?_
          rintro e w4 ⟨g2, hg2, rfl, ha4, hrow, ho4⟩
          have hr4 := hr3.only ho4 gp gp
          have HB4 : Hid (Below w.heap.size w w4) := HB3.out.trans (ho4.below HB3.out.size hp' hp')
          have c0 : w4.cell? ⟨g2, 0, none⟩ = some (.int .u8 (H u % 256)) := by
            rw [hrow.at_ (i := 0) (by omega)]; simp only [Nat.add_zero]; rw [show F (4 * u) = byteOf (H u) 0 from HS.out u hlt2 0 (by omega), byteOf_0]
          have c3 : w4.cell? ⟨g2, 3, none⟩ = some (.int .u8 (H u / 16777216 % 256)) := by
            rw [hrow.at_ (i := 3) (by omega)]; rw [show F (4 * u + 3) = byteOf (H u) 3 from HS.out u hlt2 3 (by omega), byteOf_3]
          have cu := hr4.at_ hlt2
          clear HR HB3 hr3 ha3 ho4 hrow hg2
          go_wp2
          go_roundw
          case rel => exact ⟨u + 1, _, by omega, by go_num, ha4, by omega, by omega, hr4, HB4.out⟩
          case measure => simp [intOf]; omega
        · go_wp2
          go_ret
          exact ⟨rfl, HB1.out⟩

set_option maxHeartbeats 800000 in
set_option maxRecDepth 100000 in
theorem walkOut (A B : Option Addr) (n k cap capB : Nat) (hn : n ≤ 9223372036854775807) (hk : k ≤ 9223372036854775807) (h : 100 < (n : Int) ∨ k < n) (w : World) :
    Calls Try.prog 5 #[.slice A n cap, .slice B k capB] w (Post w) := by
  by_cases c1 : (100 : Int) < (n : Int)
  · go_enter Try.func5, Try.ntmps5
    go_wp2_with fail
    refine (known_any _).mono ?_
    rintro e w0 ⟨rfl, hb0⟩
    go_wp2
    go_ret
    exact ⟨rfl, hb0⟩
  have t1 : decide ((100 : Int) < (n : Int)) = false := by simpa using c1
  have t2 : (k : Int) < (n : Int) := by omega
  have t3 : k < n := by omega
  clear h c1
  go_enter Try.func5, Try.ntmps5
  go_wp2_with fail
  refine (known_any _).mono ?_
  rintro e w0 ⟨rfl, hb0⟩
  go_wp2
  go_ret
  exact ⟨rfl, hb0⟩

/-! ### the walk -/
theorem walk (a0 : Option Addr) (len0 cap0 : Nat) (z0 : List Int) (a1 : Option Addr) (len1 cap1 : Nat) (z1 : List Int) (w : World) (w0 : IsRow .u8 w a0 len0 cap0 z0) (w1 : IsRow .u32 w a1 len1 cap1 z1) :
    Calls Try.prog 5 #[.slice a0 len0 cap0, .slice a1 len1 cap1] w fun e w' => e = .returned (.bool true) ∧ Below w.heap.size w w' := by
  by_cases h : 100 < (len0 : Int) ∨ len1 < len0
  · exact walkOut a0 a1 len0 len1 cap0 cap1 (len_le w0) (len_le w1) h w
  · exact walkIn a0 a1 len0 len1 cap0 cap1 _ _ w (in_of_row w0 (fun n hn => by have := bounds_u8 hn; omega)) (in_of_row w1 (fun n hn => by have := bounds_u32 hn; omega)) (by omega) (by omega) (len_le w1)

/-! ### THE ROW's STEP: WRITTEN OUT: LEAVE IT -/
set_option maxRecDepth 100000 in
theorem lifted (os : Os) (started : os.Started) (H : Type) (enc : TypeId × Value → H) :
    ReturnsInHanded {} Try.checked os 5 .any (Rows.arenaWordsSpec.pre6 enc Try.prog Try.f5 Rows.arenaWordsRow.domain false) (Rows.arenaWordsSpec.post enc Try.prog Try.f5 false true false false) := by
  refine returnsInHanded_of_change (C := Try.checked) own started (by kernel_rfl) Try.func5
    (ChangeSpec.witness6 (enc := enc) (C := Try.checked) false ⟨#[], #[.slice none 0 0, .slice none 0 0], []⟩ 8 (by kernel_rfl) (by kernel_rfl) (by kernel_rfl) (by kernel_rfl)) ?_
  intro W base args ds gs before hval0 hW hcnd _
  have hval : ∀ (j : Nat) t v, Try.f5.params[j]? = some t → args[j]? = some v → Value.okWide Try.prog W .any base t v := hval0
  have hW' := hW
  obtain ⟨p, q, hA0, hV, rfl, hfz, hnd⟩ := hW
  have hA : DataW.TrodAll enc Try.prog W 0 (fun _ => true) true Try.f5.params.toList args.toList ds p := hA0
  rw [Try.params5] at hA hval
  obtain ⟨v0, vs0, d0, ds0, p0, q0, hargs, rfl, rfl, h0, r0⟩ := trodAll_cons hA
  obtain ⟨v1, vs1, d1, ds1, p1, q1, rfl, rfl, rfl, h1, r1⟩ := trodAll_cons r0
  obtain ⟨rfl, rfl, rfl⟩ := trodAll_nil r1
  obtain rfl : args = #[v0, v1] := by cases args; simp_all
  obtain ⟨rfl, rfl⟩ := trodVars_none hV
  obtain ⟨a0, len0, cap0, rfl⟩ := okWide_slice Try.underlying28 (hval 0 28 v0 rfl rfl)
  have k0 := h0
  have lt0 : ∀ x ∈ p0, x.block < W.heap.size := by obtain ⟨m, hm⟩ := k0; exact DataW.trod_lt m _ _ _ hm
  obtain ⟨z0, w0⟩ : ∃ zs, IsRow .u8 W a0 len0 cap0 zs := by
    obtain ⟨fuel, hf⟩ := h0
    rcases open_ints Try.underlying28 Try.underlying5 (by kernel_rfl) hf with ⟨hcs, _⟩ | ⟨x, l, c, zs, hcs, _, hl, hm, hz, _, hcell, hwz⟩
    · simp [Value.cells] at hcs
      obtain ⟨rfl, rfl, rfl⟩ := hcs
      exact ⟨[], .inl ⟨rfl, rfl, rfl, rfl⟩⟩
    · simp [Value.cells] at hcs
      obtain ⟨rfl, rfl, rfl⟩ := hcs
      exact ⟨zs, .inr ⟨_, rfl, hl, hm, by simpa using hz, hcell, hwz⟩⟩
  obtain ⟨a1, len1, cap1, rfl⟩ := okWide_slice Try.underlying46 (hval 1 46 v1 rfl rfl)
  have k1 := h1
  have lt1 : ∀ x ∈ p1, x.block < W.heap.size := by obtain ⟨m, hm⟩ := k1; exact DataW.trod_lt m _ _ _ hm
  obtain ⟨z1, w1⟩ : ∃ zs, IsRow .u32 W a1 len1 cap1 zs := by
    obtain ⟨fuel, hf⟩ := h1
    rcases open_ints Try.underlying46 Try.underlying30 (by kernel_rfl) hf with ⟨hcs, _⟩ | ⟨x, l, c, zs, hcs, _, hl, hm, hz, _, hcell, hwz⟩
    · simp [Value.cells] at hcs
      obtain ⟨rfl, rfl, rfl⟩ := hcs
      exact ⟨[], .inl ⟨rfl, rfl, rfl, rfl⟩⟩
    · simp [Value.cells] at hcs
      obtain ⟨rfl, rfl, rfl⟩ := hcs
      exact ⟨zs, .inr ⟨_, rfl, hl, hm, by simpa using hz, hcell, hwz⟩⟩
  clear hA0 hval0
  refine (walk a0 len0 cap0 z0 a1 len1 cap1 z1 W w0 w1).mono fun e W' ⟨he, bel⟩ => ?_
  subst he
  exact ⟨_, rfl, _, _, _, [], _, [], hW', trodAll_mk1 (shut_bool Try.underlying4 _), (trodAll_cons_mk (Below.trod laidOut (by kernel_rfl) (of_decide_eq_true (by kernel_rfl)) k0 bel lt0) (trodAll_cons_mk (Below.trod laidOut (by kernel_rfl) (of_decide_eq_true (by kernel_rfl)) k1 bel lt1) trodAll_mk0)), rfl, bel.frame _, fun h => by cases h⟩

theorem over : Rows.arenaWordsRow.holds Try.pinned (OpenSpec.ofChange Rows.arenaWordsSpec) :=
  OpenClaim.holds_of_wide 5 Try.f5 rfl rfl rfl rfl rfl rfl rfl ⟨rfl, rfl, rfl, rfl, rfl⟩ rfl rfl rfl rfl rfl (by kernel_rfl) Try.func5 (by kernel_rfl)
    (of_decide_eq_true (by kernel_rfl)) (by unfold Func.isWrapper; first | (rw [if_pos (by decide +kernel)]; kernel_rfl) | (rw [if_neg (by decide +kernel)]; exact ⟨rfl, rfl⟩))
    (fun os started H enc _ => lifted os started H enc)

/-- ████ THE STATEMENT ████ -/
theorem proved : Rows.ArenaWordsSaid := over
#print axioms proved
end Go.Proofs.Ytbednmifgbbhlaa.arenaWords
namespace Go.Proofs.Ytbednmifgbbhlaa
theorem arenaWords_holds : Rows.ArenaWordsSaid := arenaWords.proved
end Go.Proofs.Ytbednmifgbbhlaa
