/-
  detentlaw2.ArenaPlays: the loop's body, its frame, its invariant.
-/
import Derived.Test.YtbednmifgbbhlaaRows
import Derived.Test.YtbednmifgbbhlaaConP
import Derived.WalkKit
import Derived.IntWalk
import Derived.Deep.QuietTactic
import Derived.BigQuiet
import Derived.ProofKit
import Derived.OpenShut
import Derived.ShutString
import Derived.ChangeOld
import Derived.Below
import Derived.JoinedCond
namespace Go.Proofs.Ytbednmifgbbhlaa.arenaPlays
open Go.ChangeShapes Go.WideShapes Go.ChangeAt Go.RowKit
set_option linter.unusedVariables false

def Post (w : World) (e : Ending) (w' : World) : Prop := e = .returned (.bool true) ∧ Below w.heap.size w w'

/-- The calls, as they lie in memory: five cells each. -/
structure Acts (w : World) (b o n : Nat) (op at_ nn : Nat → Int) (PB : Nat → Option Addr) (PK : Nat → Nat) (parts : Nat → List (List Int)) (wd : Nat → Int) : Prop where
  c0 : ∀ i, i < n → w.cell? ⟨b, o + i * 5, none⟩ = some (.int .i64 (op i))
  c1 : ∀ i, i < n → w.cell? ⟨b, o + i * 5 + 1, none⟩ = some (.int .i64 (at_ i))
  c2 : ∀ i, i < n → w.cell? ⟨b, o + i * 5 + 2, none⟩ = some (.int .i64 (nn i))
  c3 : ∀ i, i < n → w.cell? ⟨b, o + i * 5 + 3, none⟩ = some (.slice (PB i) (parts i).length (PK i))
  c4 : ∀ i, i < n → w.cell? ⟨b, o + i * 5 + 4, none⟩ = some (.int .u32 (wd i))
  hp : ∀ i, i < n → Parts w w.heap.size w.heap.size (PB i) (parts i)
  hl : ∀ i, i < n → (parts i).length ≤ 9223372036854775807
  hw : ∀ i, i < n → (whole (parts i)).length ≤ 1048576
  hb : ∀ i, i < n → 0 ≤ wd i ∧ wd i ≤ 4294967295
  hlt : ∀ i, i < n → b < w.heap.size

def Rel (w : World) (s n g : Nat) (pa co i : Value) (wr : World) : Prop :=
  ∃ (t p m : Nat) (c : Int) (f : Nat → Int), t ≤ n ∧ i = .int .i64 t ∧ pa = .pointer (some ⟨p, 0, none⟩) ∧ co = .int .i64 c ∧ Ar wr p m s c f ∧ Row wr g s f ∧ g ≠ p ∧ g ≠ m ∧ w.heap.size ≤ p ∧ w.heap.size ≤ m ∧
    0 ≤ c ∧ c ≤ 3000 * t ∧ Below w.heap.size w wr


/-- the call's struct, as the law holds it -/
def Cl (w : World) (q : Nat) (x0 x1 x2 : Int) (B : Option Addr) (ln K : Nat) (x4 : Int) : Prop :=
  w.heap[q]? = some (.cells #[.int .i64 x0, .int .i64 x1, .int .i64 x2, .slice B ln K, .int .u32 x4] 32 (0, 0))
theorem Cl.lt {w : World} {q ln K : Nat} {x0 x1 x2 x4 : Int} {B : Option Addr} (h : Cl w q x0 x1 x2 B ln K x4) : q < w.heap.size := lt_of_heap h
theorem Cl.only {w w' : World} {q ln K p m : Nat} {x0 x1 x2 x4 : Int} {B : Option Addr} (h : Cl w q x0 x1 x2 B ln K x4) (k : Only p m w w') (h1 : q ≠ p) (h2 : q ≠ m) : Cl w' q x0 x1 x2 B ln K x4 := (k.block q h.lt h1 h2).trans h
theorem Cl.below {w w' : World} {q ln K b : Nat} {x0 x1 x2 x4 : Int} {B : Option Addr} (h : Cl w q x0 x1 x2 B ln K x4) (k : Below b w w') (h1 : q < b) : Cl w' q x0 x1 x2 B ln K x4 := (k.block q h1).trans h
theorem Cl.drewN {w : World} {q ln K : Nat} {x0 x1 x2 x4 : Int} {B : Option Addr} (h : Cl w q x0 x1 x2 B ln K x4) (k : Nat) : Cl (w.drewN k) q x0 x1 x2 B ln K x4 := h
theorem Cl.cells {w : World} {q ln K : Nat} {x0 x1 x2 x4 : Int} {B : Option Addr} (h : Cl w q x0 x1 x2 B ln K x4) :
    w.cell? ⟨q, 0, none⟩ = some (.int .i64 x0) ∧ w.cell? ⟨q, 1, none⟩ = some (.int .i64 x1) ∧ w.cell? ⟨q, 2, none⟩ = some (.int .i64 x2) ∧ w.cell? ⟨q, 3, none⟩ = some (.slice B ln K) ∧ w.cell? ⟨q, 4, none⟩ = some (.int .u32 x4) := by
  refine ⟨?_, ?_, ?_, ?_, ?_⟩ <;> rw [cell_of_row _ _ _ _ _ _ h] <;> rfl

theorem rel_next {w w' : World} {s n g t p m : Nat} {c : Int} {f : Nat → Int} (ha : Ar w' p m s c f) (hr : Row w' g s f) (gp : g ≠ p) (gm : g ≠ m) (hp : w.heap.size ≤ p) (hm : w.heap.size ≤ m) (hc0 : 0 ≤ c) (hc1 : c ≤ 3000 * (t + 1)) (hB : Below w.heap.size w w') (hlt : t < n) :
    Rel w s n g (.pointer (some ⟨p, 0, none⟩)) (.int .i64 c) (.int .i64 ((t : Int) + 1)) w' :=
  ⟨t + 1, p, m, c, f, by omega, by simp, rfl, rfl, ha, hr, gp, gm, hp, hm, hc0, by simpa using hc1, hB⟩

theorem bl_drewN {B : Nat} {a w : World} (h : Below B a w) (n : Nat) : Below B a (w.drewN n) := ⟨h.os, h.tape, h.output, h.size, h.block⟩

def RelP (ps : List (List Int)) (w3 : World) (v i : Value) (wr : World) : Prop :=
  ∃ t : Nat, t ≤ ps.length ∧ i = .int .i64 t ∧ wr.ownsRow w3.heap.size 5 1 v (joined ps t).length ((joined ps t).map (Value.int .u8)) ∧ Below w3.heap.size w3 wr ∧ (∀ z ∈ joined ps t, 0 ≤ z ∧ z ≤ 255)

theorem relP_step {ps : List (List Int)} {w wr w1 : World} {v v' : Value} {t p m : Nat} {A : Option Addr} (hlt : t < ps.length) (hs : Src wr p m A (part ps t).length (fun j => (part ps t).getD j 0))
    (hb : Below w.heap.size w wr) (hz : ∀ z ∈ joined ps t, 0 ≤ z ∧ z ≤ 255) (hv : wr.ownsRow w.heap.size 5 1 v (joined ps t).length ((joined ps t).map (Value.int .u8)))
    (h1 : w1.ownsRow w.heap.size 5 1 v' ((joined ps t).length + (part ps t).length) ((joined ps t).map (Value.int .u8) ++ (part ps t).map (Value.int .u8))) (hg : wr.grownBy w1 v.ownBlock) : RelP ps w v' (.int .i64 ((t : Int) + 1)) w1 := by
  refine ⟨t + 1, by omega, by simp, by rw [joined_succ ps t hlt]; simpa using h1, hb.grown hg hb.size (fun k hk => (hv.lt k hk).1), ?_⟩
  rw [joined_succ ps t hlt]
  intro z hzm
  rcases List.mem_append.1 hzm with h | h
  · exact hz z h
  · obtain ⟨j, hj, rfl⟩ := List.getElem_of_mem h
    have := hs.lo (j := j) hj
    simpa [List.getD_eq_getElem?_getD, List.getElem?_eq_getElem hj] using this

theorem own_src2 {w : World} {base n : Nat} {v : Value} {l : List Int} (h : w.ownsRow base 5 1 v n (l.map (Value.int .u8))) (lo : ∀ z ∈ l, 0 ≤ z ∧ z ≤ 255) :
    ∃ (X : Option Addr) (cap : Nat), v = .slice X n cap ∧ n ≤ cap ∧ cap ≤ 9223372036854775807 ∧ (∀ p m, (p < base ∨ w.heap.size ≤ p) → (m < base ∨ w.heap.size ≤ m) → Src w p m X n (fun j => l.getD j 0)) := by
  obtain ⟨X, cap, rfl, h1, h2, h3⟩ := own_src h lo
  refine ⟨X, cap, rfl, h1, h2, fun p m hp hm h0 => ?_⟩
  obtain ⟨b, o, hX, _, _, hc⟩ := h3 _ _ (Nat.le_refl _) (Nat.le_refl _) h0
  have hb : b < w.heap.size := block_lt_of_cell (hc 0 h0).1
  have hbb := (h.lt b (by rw [hX]; rfl)).1
  exact ⟨b, o, hX, by omega, by omega, hc⟩

/-- the law's own row behind u bytes -/
def RelC (g s a k : Nat) (f q : Nat → Int) (w4 : World) (i : Value) (wr : World) : Prop :=
  ∃ u : Nat, u ≤ k ∧ i = .int .i64 u ∧ Row wr g s (upd f a u q) ∧ Only g g w4 wr

/-- the loop's body, out of the translation -/
def firstLoop : Code → Option Code
  | .loop c => some c
  | .seq x y => match firstLoop x with
    | some c => some c
    | none => firstLoop y
  | .block _ c => firstLoop c
  | .scope c => firstLoop c
  | .cond _ x y => match firstLoop x with
    | some c => some c
    | none => firstLoop y
  | _ => none
noncomputable def body : Code := ((Try.f3.body.bind firstLoop).getD .skip)

/-- the frame at the loop's head -/
def fr (s : Nat) (A : Option Addr) (n cap g : Nat) (u : Nat → Value) (pa co i : Value) : Act :=
  ⟨#[.int .i64 (s : Int), .slice A n cap, u 2, u 3, u 4, pa, u 6, .slice (some ⟨g, 0, none⟩) s s, co, i, u 10, u 11, u 12, u 13, u 14, u 15, u 16, u 17, u 18, u 19, u 20, u 21, u 22, u 23, u 24, u 25, u 26, u 27, u 28, u 29, u 30, u 31, u 32, u 33, u 34, u 35, u 36, u 37, u 38, u 39, u 40, u 41, u 42, u 43, u 44, u 45, u 46, u 47, u 48, u 49, u 50, u 51, u 52, u 53, u 54, u 55, u 56, u 57, u 58, u 59, u 60, u 61, u 62, u 63, u 64, u 65, u 66, u 67, u 68, u 69, u 70, u 71, u 72, u 73, u 74, u 75, u 76, u 77, u 78, u 79, u 80, u 81, u 82, u 83, u 84, u 85, u 86, u 87, u 88, u 89, u 90, u 91, u 92, u 93, u 94, u 95, u 96, u 97, u 98, u 99, u 100, u 101, u 102, u 103, u 104, u 105, u 106, u 107, u 108, u 109, u 110, u 111, u 112, u 113, u 114, u 115, u 116, u 117, u 118, u 119, u 120, u 121, u 122, u 123, u 124, u 125, u 126, u 127, u 128, u 129, u 130, u 131, u 132, u 133, u 134, u 135, u 136, u 137, u 138, u 139, u 140, u 141, u 142, u 143, u 144, u 145, u 146, u 147, u 148, u 149, u 150, u 151, u 152, u 153, u 154, u 155, u 156, u 157, u 158, u 159, u 160, u 161, u 162, u 163, u 164, u 165, u 166, u 167, u 168, u 169, u 170, u 171, u 172, u 173, u 174, u 175, u 176, u 177, u 178, u 179, u 180, u 181, u 182, u 183, u 184, u 185, u 186, u 187, u 188, u 189, u 190, u 191, u 192, u 193, u 194, u 195, u 196, u 197, u 198, u 199, u 200, u 201, u 202, u 203, u 204, u 205, u 206, u 207, u 208, u 209, u 210, u 211, u 212, u 213, u 214, u 215, u 216, u 217, u 218, u 219, u 220, u 221, u 222, u 223, u 224, u 225, u 226, u 227, u 228, u 229, u 230, u 231, u 232, u 233, u 234, u 235, u 236, u 237, u 238, u 239, u 240, u 241, u 242, u 243, u 244, u 245, u 246, u 247, u 248, u 249, u 250, u 251, u 252, u 253, u 254, u 255, u 256, u 257, u 258, u 259, u 260, u 261, u 262, u 263, u 264, u 265, u 266, u 267, u 268, u 269, u 270, u 271, u 272, u 273, u 274, u 275, u 276, u 277, u 278, u 279, u 280, u 281, u 282, u 283, u 284, u 285, u 286, u 287, u 288, u 289, u 290, u 291, u 292, u 293, u 294, u 295, u 296, u 297, u 298, u 299, u 300, u 301, u 302, u 303, u 304, u 305, u 306, u 307, u 308, u 309, u 310, u 311, u 312, u 313, u 314, u 315, u 316, u 317, u 318, u 319, u 320, u 321, u 322, u 323, u 324, u 325, u 326, u 327, u 328, u 329, u 330, u 331, u 332, u 333, u 334, u 335, u 336, u 337, u 338, u 339, u 340, u 341, u 342, u 343, u 344, u 345, u 346, u 347, u 348, u 349, u 350, u 351, u 352, u 353, u 354, u 355, u 356, u 357, u 358, u 359, u 360, u 361, u 362, u 363, u 364, u 365, u 366, u 367, u 368, u 369], []⟩

/-- what holds at the loop's head -/
def WI (w : World) (s : Nat) (A : Option Addr) (n cap g : Nat) (a : Act) (wr : World) : Prop :=
  a.tmps.size = 370 ∧ a.defers = [] ∧ a.tmps.getD 0 undef = .int .i64 (s : Int) ∧ a.tmps.getD 1 undef = .slice A n cap ∧ a.tmps.getD 7 undef = .slice (some ⟨g, 0, none⟩) s s ∧
    Rel w s n g (a.tmps.getD 5 undef) (a.tmps.getD 8 undef) (a.tmps.getD 9 undef) wr
def Wmu (n : Nat) (a : Act) (_ : World) : Nat := n - (intOf (a.tmps.getD 9 undef)).toNat

/-- the post of one round -/
def Rnd (w : World) (s : Nat) (A : Option Addr) (n cap g t : Nat) (a : Act) (wr : World) : Prop := WI w s A n cap g a wr ∧ Wmu n a wr < n - t
theorem rnd_mk {w : World} {s : Nat} {A : Option Addr} {n cap g t : Nat} {pa co : Value} {tm : Array Value} {wr : World} (hsz : tm.size = 370) (h0 : tm.getD 0 undef = .int .i64 (s : Int)) (h1 : tm.getD 1 undef = .slice A n cap)
    (h7 : tm.getD 7 undef = .slice (some ⟨g, 0, none⟩) s s) (h5 : tm.getD 5 undef = pa) (h8 : tm.getD 8 undef = co) (h9 : tm.getD 9 undef = .int .i64 ((t : Int) + 1)) (hlt : t < n)
    (hr : Rel w s n g pa co (.int .i64 ((t : Int) + 1)) wr) : Rnd w s A n cap g t ⟨tm, []⟩ wr := by
  refine ⟨⟨hsz, rfl, h0, h1, h7, ?_⟩, ?_⟩
  · simp only [h5, h8, h9]; exact hr
  · unfold Wmu; simp only [h9, intOf]; omega

/-- what is known when a round begins -/
structure Hd (w wr : World) (s b o n g t p m : Nat) (c : Int) (f : Nat → Int) (x0 x1 x2 x4 : Int) (B : Option Addr) (K : Nat) (ps : List (List Int)) : Prop where
  hs : s ≤ 2000
  hn : n ≤ 100
  hlt : t < n
  k0 : wr.cell? ⟨b, o + t * 5, none⟩ = some (.int .i64 x0)
  k1 : wr.cell? ⟨b, o + t * 5 + 1, none⟩ = some (.int .i64 x1)
  k2 : wr.cell? ⟨b, o + t * 5 + 2, none⟩ = some (.int .i64 x2)
  k3 : wr.cell? ⟨b, o + t * 5 + 3, none⟩ = some (.slice B ps.length K)
  k4 : wr.cell? ⟨b, o + t * 5 + 4, none⟩ = some (.int .u32 x4)
  hP : Parts w w.heap.size w.heap.size B ps
  hPl : ps.length ≤ 9223372036854775807
  hPw : (whole ps).length ≤ 1048576
  hbd : 0 ≤ x4 ∧ x4 ≤ 4294967295
  ha : Ar wr p m s c f
  hr : Row wr g s f
  gp : g ≠ p
  gm : g ≠ m
  hp' : w.heap.size ≤ p
  hm' : w.heap.size ≤ m
  hgw : w.heap.size ≤ g
  hc0 : 0 ≤ c
  hc1 : c ≤ 3000 * t
  hb : Below w.heap.size w wr
end Go.Proofs.Ytbednmifgbbhlaa.arenaPlays
