/- known: three that are ready. -/
import Derived.Test.YtfilggkdhcjpbaaDoorRdC
namespace Go.Proofs.YtfilggkdhcjpbaaDoor
open Go.RowKit

/-- the walk's memory: a Queue beyond what was there, the table -/
structure At (w : World) (p : Nat) (S : St) (wr : World) : Prop where
  q : Qu wr p S
  lp : w.heap.size ≤ p
  tab : Tab wr
  bel : Below w.heap.size w wr
theorem At.good {w wr : World} {p : Nat} {S : St} (h : At w p S wr) : Good S := h.q.1
theorem At.turn {w wr wr' : World} {p : Nat} {S S' : St} (h : At w p S wr) (hq : Qu wr' p S') (ho : Only p wr wr') : At w p S' wr' :=
  ⟨hq, h.lp, h.tab.only ho h.q.pos, h.bel.trans (ho.below h.bel.size h.lp)⟩
theorem At.below {w wr wr' : World} {p : Nat} {S : St} (h : At w p S wr) (hb : Below wr.heap.size wr wr') : At w p S wr' :=
  ⟨h.q.below hb, h.lp, h.tab.below hb, h.bel.trans (hb.mono h.bel.size)⟩
theorem At.drewN {w wr : World} {p : Nat} {S : St} (h : At w p S wr) (n : Nat) : At w p S (wr.drewN n) := h.below (below_drewN _ _ _)

def k1 : St := St.new.add 1 5
def k2 : St := k1.add 2 3
def k3 : St := k2.add 3 3
def k4 : St := k3.rot 3
theorem known1 : k2.addC 3 3 = 0 := by decide +kernel
theorem known2 : k3.addC 3 3 = -41 := by decide +kernel
theorem known3 : k3.add 3 3 = k3 := if_neg (by decide +kernel)
theorem known4 : k3.first = 2 := by decide +kernel
theorem known5 : (!k3.all.isEmpty) = true := by decide +kernel
theorem known6 : k4.first = 3 := by decide +kernel
theorem known7 : (!k4.all.isEmpty) = true := by decide +kernel
theorem known8 : k4.P 1 = 5 := by decide +kernel
theorem known9 : (k4.R (3 : Int).toNat).length = 2 := by decide +kernel
theorem known10 : k4.all.length = 3 := by decide +kernel

set_option maxRecDepth 100000 in
set_option maxHeartbeats 2000000 in
theorem known_any (w : World) (hT : Tab w) : Calls Tryd.prog 8 #[] w fun e w' => e = .returned (.bool true) ∧ Below w.heap.size w w' := by
  have HT := Lib.hid hT
  clear hT
  go_enter Tryd.func8, Tryd.ntmps8
  go_wp2_with fail
  refine (new_any w HT.out.pos).mono ?_
  rintro e w0 ⟨p, hp, rfl, hq, hb⟩
  have h0 : Hid (At w p St.new w0) := Lib.hid ⟨hq, hp, HT.out.below hb, hb⟩
  clear hp hq hb
  go_wp2_with fail
  refine (add_any p _ 1 5 w0 h0.out.q _ rfl).mono ?_
  rintro e w1 ⟨rfl, hq, ho⟩
  have h1 : Hid (At w p k1 w1) := Lib.hid (h0.out.turn hq ho)
  clear hq ho h0
  go_wp2_with fail
  refine (add_any p _ 2 3 w1 h1.out.q _ rfl).mono ?_
  rintro e w2 ⟨rfl, hq, ho⟩
  have h2 : Hid (At w p k2 w2) := Lib.hid (h1.out.turn hq ho)
  clear hq ho h1
  go_wp2_with fail
  refine (add_any p _ 3 3 w2 h2.out.q 0 known1).mono ?_
  rintro e w3 ⟨rfl, hq, ho⟩
  have h3 : Hid (At w p k3 w3) := Lib.hid (h2.out.turn hq ho)
  clear hq ho h2
  go_wp2_with fail
  refine (add_any p _ 3 3 w3 h3.out.q (-41) known2).mono ?_
  rintro e w4 ⟨rfl, hq, ho⟩
  rw [known3] at hq
  have h4 : Hid (At w p k3 w4) := Lib.hid (h3.out.turn hq ho)
  clear hq ho h3
  go_wp2_with fail
  refine (qfirst_any p k3 w4 h4.out.q h4.out.tab 2 true known4 known5).mono ?_
  rintro e w' ⟨rfl, rfl⟩
  go_wp2_with fail
  refine (rotate_any p k3 3 w4 h4.out.q 0 (by decide)).mono ?_
  rintro e w5 ⟨rfl, hq, ho⟩
  have h5 : Hid (At w p k4 w5) := Lib.hid (h4.out.turn hq ho)
  clear hq ho h4
  go_wp2_with fail
  refine (qfirst_any p k4 w5 h5.out.q h5.out.tab 3 true known6 known7).mono ?_
  rintro e w' ⟨rfl, rfl⟩
  go_wp2_with fail
  refine (pri_any p k4 1 w5 h5.out.q 5 known8).mono ?_
  rintro e w' ⟨rfl, rfl⟩
  go_wp2_with fail
  refine (row_any p k4 3 w5 h5.out.q _ rfl 2 known9).mono ?_
  rintro e w6 ⟨Y, k, rfl, hs, hb⟩
  have h6 := Lib.hid (h5.out.below hb)
  clear hs hb h5
  go_wp2_with fail
  refine (all_any p k4 w6 h6.out.q h6.out.tab 3 known10).mono ?_
  rintro e w7 ⟨Z, j, rfl, hs, hb⟩
  have h7 := Lib.hid (h6.out.below hb)
  clear hs hb h6
  go_wp2
  go_ret
  exact ⟨rfl, h7.out.bel⟩
end Go.Proofs.YtfilggkdhcjpbaaDoor
