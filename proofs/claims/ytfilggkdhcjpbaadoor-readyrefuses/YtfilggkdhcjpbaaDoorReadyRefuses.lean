/-
  PROVED: the Go function detentlaw9.ReadyRefuses returns true for every input (Rows.ReadyRefusesCardSaid). Condition: the library's table math/bits.deBruijn64tab stands as its initialiser lays it (the card ties it to the program's text; the repository is the pruned copy of the seat).
-/
import Derived.Test.YtfilggkdhcjpbaaDoorLaid
namespace Go.Proofs.YtfilggkdhcjpbaaDoor.readyRefuses
open Go.ChangeShapes Go.WideShapes Go.ChangeAt Go.RowKit

def r1 : St := St.new.add 4 7
def r2 : St := r1.add 5 7
theorem r2_eq : r2 = (St.new.put 4 7).put 5 7 := by
  unfold r2 r1
  rw [show St.new.add 4 7 = St.new.put 4 7 from if_pos (by decide)]
  exact if_pos (by decide)
theorem r2_R (a : Nat) : r2.R a = if a = 7 then [4, 5] else [] := by
  rw [r2_eq]
  show (if a = 7 then (if a = 7 then [] ++ [4] else []) ++ [5] else (if a = 7 then [] ++ [4] else [])) = _
  split <;> rfl
theorem r2_P (x : Int) : r2.P x = if x = 5 then 7 else if x = 4 then 7 else 0 := by rw [r2_eq]; rfl
theorem good2 : Good r2 := (Good.new.add 4 7).add 5 7
theorem r2_len : r2.all.length = 2 := by rw [r2_eq]; decide +kernel
theorem r2_row : r2.R 7 = [4, 5] := r2_R 7
theorem rot7 : r2.rot 7 = (r2.del 4).put 4 7 := by
  unfold St.rot
  rw [if_pos (by decide), show (7 : Int).toNat = 7 from rfl, r2_row]
theorem rot7_row : (r2.rot 7).R 7 = [5, 4] := by rw [rot7, r2_eq]; decide +kernel
theorem rot7_len : (r2.rot 7).all.length = 2 := by rw [rot7, r2_eq]; decide +kernel
theorem rot_oth {p : Int} (h : p ≠ 7) : r2.rot p = r2 := by
  by_cases c : inR p
  · exact rot_nil (by rw [r2_R, if_neg (by have := c.1; omega)])
  · unfold St.rot; rw [if_neg c]
theorem add_len {x p : Int} (hx : inR x) (hp : inR p) (h4 : x ≠ 4) (h5 : x ≠ 5) : (r2.add x p).all.length = 3 := by
  have h0 : r2.P x = 0 := by rw [r2_P, if_neg h5, if_neg h4]
  have e : r2.add x p = r2.put x p.toNat := if_pos ⟨hx, hp, h0⟩
  have hg := good2.add x p
  have hd : ((r2.add x p).del x).all = r2.all := by
    have e2 : (r2.add x p).del x = r2 := by
      rw [e]
      refine St.ext' (fun b => ?_) (fun y => ?_)
      · show (if b = p.toNat then r2.R b ++ [x] else r2.R b).filter (· != x) = r2.R b
        split
        · rw [List.filter_append, filter_id (good2.notin h0 b)]; simp
        · exact filter_id (good2.notin h0 b)
      · show (if y = x then 0 else if y = x then p.toNat else r2.P y) = r2.P y
        split <;> simp_all
    rw [e2]
  have hm : x ∈ (r2.add x p).all := by
    rw [← hg.all16]
    have hx1 : x ∈ (r2.add x p).R p.toNat := (hg.mem _ x).2 ⟨by have := hp.1; omega, by rw [e]; exact put_P _ _ _⟩
    have : ∀ (n s : Nat), s ≤ p.toNat → p.toNat < s + n → x ∈ allF (r2.add x p).R n s := by
      intro n
      induction n with
      | zero => intro s h1 h2; omega
      | succ n ih =>
        intro s h1 h2
        rw [allF, List.mem_append]
        by_cases c : s = p.toNat
        · subst c; exact .inl hx1
        · exact .inr (ih (s + 1) (by omega) (by omega))
    exact this 16 1 (by have := hp.1; omega) (by have := hp.2; omega)
  obtain ⟨k, hk⟩ := List.mem_iff_getElem?.1 hm
  have hkl := (List.getElem?_eq_some_iff.1 hk).1
  have hs : (r2.add x p).all.filter (· != x) = (r2.add x p).all.eraseIdx k := filter_split (hg.allNodup 256 1) hk
  have hl := congrArg List.length (hs.symm.trans ((all_del _ _).symm.trans hd))
  rw [List.length_eraseIdx_of_lt hkl, r2_len] at hl
  omega

theorem not16 {p : Int} (h : (!decide (p ≤ 16)) = false) (k : 16 < p) : False := by simp at h; omega
set_option maxRecDepth 100000 in
set_option maxHeartbeats 4000000 in
theorem refuse (task pri code c y z : Int) (S : St) (w : World) (hT : Tab w) (hcode : r2.addC task pri = code) (hadd : r2.add task pri = r2) (hc : (if inR pri then 0 else -17) = c) (hS : r2.rot pri = S) (hrow : S.R 7 = [y, z]) (hall : S.all.length = 2)
    (ht : (task < 1 ∧ code = -17) ∨ (16 < task ∧ code = -17) ∨ (1 ≤ task ∧ task ≤ 16 ∧ pri < 1 ∧ code = -17) ∨ (1 ≤ task ∧ task ≤ 16 ∧ 16 < pri ∧ code = -17) ∨ (task = 4 ∧ 1 ≤ pri ∧ pri ≤ 16 ∧ code = -41) ∨ (task = 5 ∧ 1 ≤ pri ∧ pri ≤ 16 ∧ code = -41))
    (hp : (pri < 1 ∧ c = -17 ∧ y = 4) ∨ (16 < pri ∧ c = -17 ∧ y = 4) ∨ (pri = 7 ∧ c = 0 ∧ y = 5) ∨ (1 ≤ pri ∧ pri ≤ 16 ∧ pri ≠ 7 ∧ c = 0 ∧ y = 4)) :
    Calls Tryd.prog 7 #[.int .i64 task, .int .i64 pri] w fun e w' => e = .returned (.bool true) ∧ Below w.heap.size w w' := by
  have HT := Lib.hid hT
  have HCODE := Lib.hid hcode
  have HADD := Lib.hid hadd
  have HC := Lib.hid hc
  have HS := Lib.hid hS
  have HROW := Lib.hid hrow
  have HALL := Lib.hid hall
  clear hT hcode hadd hc hS hrow hall
  rcases ht with ⟨a1, rfl⟩ | ⟨a1, rfl⟩ | ⟨a1, a2, a3, rfl⟩ | ⟨a1, a2, a3, rfl⟩ | ⟨a1, a2, a3, rfl⟩ | ⟨a1, a2, a3, rfl⟩ <;> rcases hp with ⟨b1, rfl, rfl⟩ | ⟨b1, rfl, rfl⟩ | ⟨b1, rfl, rfl⟩ | ⟨b1, b2, b3, rfl, rfl⟩ <;> first | (exfalso; omega) | skip
  all_goals (by_cases q1 : 1 ≤ task <;> first | (exfalso; omega) | skip)
  all_goals (by_cases q2 : task ≤ 16 <;> first | (exfalso; omega) | skip)
  all_goals (by_cases q3 : 1 ≤ pri <;> first | (exfalso; omega) | skip)
  all_goals (by_cases q4 : pri ≤ 16 <;> first | (exfalso; omega) | skip)
  all_goals
    first | have t1 := decide_eq_true q1 | have t1 := decide_eq_false q1
    first | have t2 := decide_eq_true q2 | have t2 := decide_eq_false q2
    first | have t3 := decide_eq_true q3 | have t3 := decide_eq_false q3
    first | have t5 := beq_iff_eq.2 b1 | have t5 := beq_eq_false_iff_ne.2 b3 | (have t5 : (pri == 7) = false := by simp; omega)
    first | subst a1 | clear a1
    clear b1
    try clear a2 a3
    try clear b2 b3
    go_enter Tryd.func7, Tryd.ntmps7
    go_wp2_with fail
    refine (known_any w HT.out).mono ?_
    rintro e w0 ⟨rfl, hb⟩
    go_wp2_with fail
    refine (new_any w0 (HT.out.below hb).pos).mono ?_
    rintro e w1 ⟨p, hp, rfl, hq, hb1⟩
    have h1 : Hid (At w p St.new w1) := Lib.hid ⟨hq, Nat.le_trans hb.size hp, (HT.out.below hb).below hb1, hb.trans (hb1.mono hb.size)⟩
    clear hb hq hp hb1
    go_wp2_with fail
    refine (add_any p _ 4 7 w1 h1.out.q _ rfl).mono ?_
    rintro e w2 ⟨rfl, hq, ho⟩
    have h2 : Hid (At w p r1 w2) := Lib.hid (h1.out.turn hq ho)
    clear hq ho h1
    go_wp2_with fail
    refine (add_any p _ 5 7 w2 h2.out.q _ rfl).mono ?_
    rintro e w3 ⟨rfl, hq, ho⟩
    have h3 : Hid (At w p r2 w3) := Lib.hid (h2.out.turn hq ho)
    clear hq ho h2
    go_wp2_with fail
    refine (add_any p _ _ pri w3 h3.out.q _ HCODE.out).mono ?_
    rintro e w4 ⟨rfl, hq, ho⟩
    rw [HADD.out] at hq
    have h4 : Hid (At w p r2 w4) := Lib.hid (h3.out.turn hq ho)
    clear hq ho h3
    go_wp2_with fail
    all_goals (try exact (not16 ‹_› ‹_›).elim)
    refine (rotate_any p r2 pri w4 h4.out.q _ HC.out).mono ?_
    rintro e w5 ⟨rfl, hq, ho⟩
    rw [HS.out] at hq
    have h5 : Hid (At w p S w5) := Lib.hid (h4.out.turn hq ho)
    clear hq ho h4
    go_wp2_with fail
    refine (row_any p S 7 w5 h5.out.q _ HROW.out 2 rfl).mono ?_
    rintro e w6 ⟨Y, k, rfl, hs, hb⟩
    have h6 := Lib.hid (h5.out.below hb)
    have HSL := Lib.hid hs
    clear hs hb h5
    go_wp2_with fail
    refine (all_any p S w6 h6.out.q h6.out.tab 2 HALL.out).mono ?_
    rintro e w7 ⟨Z, j, rfl, hs, hb⟩
    have h7 := Lib.hid (h6.out.below hb)
    obtain ⟨g, o, rfl, _, hg⟩ := (HSL.out.below hb).at_ (by simp)
    have c1 := hg 0 _ rfl
    rw [Nat.add_zero] at c1
    clear hs hb h6 hg HSL
    go_wp2
    go_ret
    refine ⟨?_, h7.out.bel⟩
    first | rfl | exact congrArg (fun b => Ending.returned (.bool b)) (by simp; omega)

set_option maxRecDepth 100000 in
set_option maxHeartbeats 2000000 in
theorem taken (task pri : Int) (w : World) (hT : Tab w) (hx : inR task) (hp : inR pri) (h4 : task ≠ 4) (h5 : task ≠ 5) :
    Calls Tryd.prog 7 #[.int .i64 task, .int .i64 pri] w fun e w' => e = .returned (.bool true) ∧ Below w.heap.size w w' := by
  have h0 : r2.P task = 0 := by rw [r2_P, if_neg h5, if_neg h4]
  have HCODE : Hid (r2.addC task pri = 0) := Lib.hid (by unfold St.addC; rw [if_pos ⟨hx, hp⟩, if_pos h0])
  have HLEN := Lib.hid (add_len hx hp h4 h5)
  have HP : Hid ((r2.add task pri).P task = pri.toNat) := Lib.hid (by unfold St.add; rw [if_pos ⟨hx, hp, h0⟩]; exact put_P _ _ _)
  have q1 := hx.1
  have q2 := hx.2
  have q3 := hp.1
  have q4 := hp.2
  obtain ⟨n, rfl⟩ : ∃ n : Nat, pri = (n : Int) := ⟨pri.toNat, by omega⟩
  have hn : decide (0 < n) = true := by simp; omega
  rw [Int.toNat_natCast] at HP
  have HT := Lib.hid hT
  have t6 := beq_eq_false_iff_ne.2 h4
  have t7 := beq_eq_false_iff_ne.2 h5
  clear hT h0 hx hp h4 h5
  go_enter Tryd.func7, Tryd.ntmps7
  go_wp2_with fail
  refine (known_any w HT.out).mono ?_
  rintro e w0 ⟨rfl, hb⟩
  go_wp2_with fail
  refine (new_any w0 (HT.out.below hb).pos).mono ?_
  rintro e w1 ⟨p, hp, rfl, hq, hb1⟩
  have h1 : Hid (At w p St.new w1) := Lib.hid ⟨hq, Nat.le_trans hb.size hp, (HT.out.below hb).below hb1, hb.trans (hb1.mono hb.size)⟩
  clear hb hq hp hb1
  go_wp2_with fail
  refine (add_any p _ 4 7 w1 h1.out.q _ rfl).mono ?_
  rintro e w2 ⟨rfl, hq, ho⟩
  have h2 : Hid (At w p r1 w2) := Lib.hid (h1.out.turn hq ho)
  clear hq ho h1
  go_wp2_with fail
  refine (add_any p _ 5 7 w2 h2.out.q _ rfl).mono ?_
  rintro e w3 ⟨rfl, hq, ho⟩
  have h3 : Hid (At w p r2 w3) := Lib.hid (h2.out.turn hq ho)
  clear hq ho h2
  go_wp2_with fail
  refine (add_any p _ task (n : Int) w3 h3.out.q _ HCODE.out).mono ?_
  rintro e w4 ⟨rfl, hq, ho⟩
  have h4 := Lib.hid (h3.out.turn hq ho)
  clear hq ho h3
  generalize r2.add task (n : Int) = S at *
  go_wp2_with fail
  refine (pri_any p S task w4 h4.out.q n HP.out).mono ?_
  rintro e w' ⟨rfl, rfl⟩
  go_wp2_with fail
  refine (all_any p S w4 h4.out.q h4.out.tab 3 HLEN.out).mono ?_
  rintro e w5 ⟨Y, k, rfl, hs, hb⟩
  have h5 := Lib.hid (h4.out.below hb)
  clear hs hb h4
  go_wp2
  go_ret
  exact ⟨rfl, h5.out.bel⟩

theorem walk (x0 x1 : Int) (w : World) (hT : Tab w) : Calls Tryd.prog 7 #[.int .i64 x0, .int .i64 x1] w fun e w' => e = .returned (.bool true) ∧ Below w.heap.size w w' := by
  by_cases c : inR x0 ∧ inR x1 ∧ x0 ≠ 4 ∧ x0 ≠ 5
  · exact taken x0 x1 w hT c.1 c.2.1 c.2.2.1 c.2.2.2
  · have hP : inR x0 → inR x1 → r2.P x0 ≠ 0 := fun h1 h2 => by
      rw [r2_P]
      have : x0 = 4 ∨ x0 = 5 := by
        apply Classical.byContradiction; intro h; exact c ⟨h1, h2, fun e => h (.inl e), fun e => h (.inr e)⟩
      split
      · decide
      · rw [if_pos (by omega)]; decide
    have hadd : r2.add x0 x1 = r2 := if_neg fun h => hP h.1 h.2.1 h.2.2
    have hcode : r2.addC x0 x1 = if inR x0 ∧ inR x1 then -41 else -17 := by
      unfold St.addC
      by_cases d : inR x0 ∧ inR x1
      · rw [if_pos d, if_pos d, if_neg (hP d.1 d.2)]
      · rw [if_neg d, if_neg d]
    by_cases e7 : x1 = 7
    · subst e7
      obtain ⟨y, z, hy⟩ : ∃ y z, (r2.rot 7).R 7 = [y, z] := ⟨5, 4, rot7_row⟩
      refine refuse x0 7 _ 0 5 4 _ w hT hcode hadd (by decide) rfl rot7_row rot7_len ?_ (.inr (.inr (.inl ⟨rfl, rfl, rfl⟩)))
      unfold inR at c ⊢
      by_cases a1 : x0 < 1
      · exact .inl ⟨a1, if_neg (by omega)⟩
      · by_cases a2 : 16 < x0
        · exact .inr (.inl ⟨a2, if_neg (by omega)⟩)
        · have : x0 = 4 ∨ x0 = 5 := by omega
          rcases this with e | e
          · exact .inr (.inr (.inr (.inr (.inl ⟨e, by decide, by decide, if_pos (by omega)⟩))))
          · exact .inr (.inr (.inr (.inr (.inr ⟨e, by decide, by decide, if_pos (by omega)⟩))))
    · refine refuse x0 x1 _ _ 4 5 _ w hT hcode hadd rfl (rot_oth e7) r2_row r2_len ?_ ?_
      · unfold inR at c ⊢
        by_cases a1 : x0 < 1
        · exact .inl ⟨a1, if_neg (by omega)⟩
        · by_cases a2 : 16 < x0
          · exact .inr (.inl ⟨a2, if_neg (by omega)⟩)
          · by_cases b1 : x1 < 1
            · exact .inr (.inr (.inl ⟨by omega, by omega, b1, if_neg (by omega)⟩))
            · by_cases b2 : 16 < x1
              · exact .inr (.inr (.inr (.inl ⟨by omega, by omega, b2, if_neg (by omega)⟩)))
              · have : x0 = 4 ∨ x0 = 5 := by omega
                rcases this with e | e
                · exact .inr (.inr (.inr (.inr (.inl ⟨e, by omega, by omega, if_pos (by omega)⟩))))
                · exact .inr (.inr (.inr (.inr (.inr ⟨e, by omega, by omega, if_pos (by omega)⟩))))
      · unfold inR
        by_cases b1 : x1 < 1
        · exact .inl ⟨b1, if_neg (by omega), rfl⟩
        · by_cases b2 : 16 < x1
          · exact .inr (.inl ⟨b2, if_neg (by omega), rfl⟩)
          · exact .inr (.inr (.inr ⟨by omega, by omega, e7, if_pos (by omega), rfl⟩))

theorem contract (H : Type) (enc : TypeId × Value → H) (W : World) (base : Nat) (args : Array Value) (ds gs : List (DataW H)) (before : List MemPlace)
    (hval : ∀ (j : Nat) t v, Tryd.f7.params[j]? = some t → args[j]? = some v → Value.okWide Tryd.prog W .any base t v)
    (hW : DataW.Whole enc Tryd.prog Tryd.f7.params.toList Rows.readyRefusesSpec.vars false W args.toList ds gs before) (hL : laidMetH Tryd.prog Rows.readyRefusesRow.laid W) :
    Calls Tryd.prog 7 args W fun e W' => ∃ v, e = .returned v ∧ Rows.readyRefusesSpec.post enc Tryd.prog Tryd.f7 false true false false W args v W' := by
  have hW' := hW
  obtain ⟨p, q, hA0, hV, rfl, hfz, hnd⟩ := hW
  have hA : DataW.TrodAll enc Tryd.prog W 0 (fun _ => true) true Tryd.f7.params.toList args.toList ds p := hA0
  rw [Tryd.params7] at hA hval
  obtain ⟨v0, vs0, d0, ds0, p0, q0, hargs, rfl, rfl, h0, r0⟩ := trodAll_cons hA
  obtain ⟨v1, vs1, d1, ds1, p1, q1, hargs1, rfl, rfl, h1, r1⟩ := trodAll_cons r0
  subst hargs1
  obtain ⟨rfl, rfl, rfl⟩ := trodAll_nil r1
  obtain rfl : args = #[v0, v1] := by cases args; simp_all
  obtain ⟨rfl, rfl⟩ := trodVars_none hV
  obtain ⟨x0, rfl, rfl, rfl, hwn0⟩ := open_int Tryd.underlying3 (hval 0 3 v0 rfl rfl) h0
  obtain ⟨x1, rfl, rfl, rfl, hwn1⟩ := open_int Tryd.underlying3 (hval 1 3 v1 rfl rfl) h1
  clear hA0
  simp only [List.append_nil] at hW'
  refine (walk x0 x1 W  (tab_of hL)).mono fun e W' ⟨he, bel⟩ => ?_
  subst he
  exact ⟨_, rfl, _, _, _, [], _, [], hW', trodAll_mk1 (shut_bool Tryd.underlying4 _), (trodAll_cons_mk (shut_int Tryd.underlying3 hwn0) (trodAll_cons_mk (shut_int Tryd.underlying3 hwn1) trodAll_mk0)), rfl, bel.frame _, fun h => by cases h⟩

theorem laid_met (os : Os) : laidMet Tryd.prog Rows.readyRefusesRow.laid ((laidWorld os).forCall (fun _ _ => 0) ⟨#[], #[.int .i64 0, .int .i64 0], []⟩).memory :=
  laidMet_of_run' 8 (by kernel_rfl) (by kernel_rfl)
theorem reads (os : Os) {H : Type} (enc : TypeId × Value → H) : ∃ places, DataW.whole enc Tryd.prog ((laidWorld os).forCall (fun _ _ => 0) ⟨#[], #[.int .i64 0, .int .i64 0], []⟩).memory Tryd.f7.params.toList Rows.readyRefusesSpec.vars false #[Value.int .i64 0, Value.int .i64 0].toList 8 = some ([.lit (.int .i64 0), .lit (.int .i64 0)], [], places) :=
  ⟨[], by kernel_rfl⟩

set_option maxRecDepth 100000 in
theorem lifted (os : Os) (started : os.Started) (H : Type) (enc : TypeId × Value → H) (F : Stop.Interp) :
    ReturnsInHanded {} Tryd.checked os 7 .any ((OpenSpec.ofChange Rows.readyRefusesSpec).preRow enc Tryd.prog Tryd.f7 Rows.readyRefusesRow.domain false Rows.readyRefusesRow.laid) (((OpenSpec.ofChange Rows.readyRefusesSpec).at F).post enc Tryd.prog Tryd.f7 false true false false) := by
  obtain ⟨places, hx⟩ := reads os enc
  refine returnsInHanded_of_row (C := Tryd.checked) (s := OpenSpec.ofChange Rows.readyRefusesSpec) own started (by kernel_rfl) Tryd.func7
    (witness_row_at (enc := enc) (C := Tryd.checked) false (laidWorld os) #[.int .i64 0, .int .i64 0] rfl (by kernel_rfl) (by kernel_rfl) (by kernel_rfl)
      (OpenSpec.preRow_of_cond 8 hx (by kernel_rfl) (fun k hk => by cases hk) (by kernel_rfl) (laid_met os))) ?_
  intro W base args ds gs before hval hW _ _ _ hL _ _
  exact contract H enc W base args ds gs before hval hW hL

theorem said : Rows.ReadyRefusesSaid :=
  OpenClaim.holds_of_cond 7 Tryd.f7 rfl rfl rfl rfl rfl rfl rfl ⟨rfl, rfl, rfl, rfl, rfl⟩ rfl rfl rfl rfl rfl (by kernel_rfl) Tryd.func7 (by kernel_rfl)
    (of_decide_eq_true (by kernel_rfl)) (by unfold Func.isWrapper; first | (rw [if_pos (by decide +kernel)]; kernel_rfl) | (rw [if_neg (by decide +kernel)]; exact ⟨rfl, rfl⟩))
    (fun os started H enc _ F => by rw [OpenClaim.pre_eq_preRow]; exact lifted os started H enc F)

theorem plain (f : FuncId) (fn : Func) (hf : Tryd.pinned.checked.prog.funcNamed "detent/detentlaw9.ReadyRefuses" = some f) (hfn : Tryd.pinned.checked.prog.funcs[f]? = some fn) :
    false = Tryd.pinned.checked.prog.looks [] ∧ ∀ (j : Nat) t, fn.params[j]? = some t → Tryd.pinned.checked.prog.wantsStandIn t = false := by
  obtain rfl : f = 7 := Option.some.inj ((show Tryd.prog.funcNamed "detent/detentlaw9.ReadyRefuses" = some 7 by kernel_rfl).symm.trans hf) |>.symm
  obtain rfl : fn = Tryd.f7 := (Option.some.inj (Tryd.func7.symm.trans hfn)).symm
  refine ⟨by kernel_rfl, fun j t ht => ?_⟩
  rw [Tryd.params7] at ht
  have hm : t = 3 := by have := Array.mem_of_getElem? ht; simpa using this
  rcases hm with rfl
  exact (show Tryd.prog.wantsStandIn 3 = false by kernel_rfl)

/-- the statement -/
theorem proved : Rows.ReadyRefusesCardSaid :=
  Claim7.holds_tied_plain_at .later [] _ _ _ _ said (fun _ h => by cases h) (by kernel_rfl) (fun _ h => by cases h) readyRefuses_row_tie rfl ⟨rfl, rfl⟩ (by kernel_rfl) rfl plain (by kernel_rfl)
#print axioms proved
end Go.Proofs.YtfilggkdhcjpbaaDoor.readyRefuses
namespace Go.Proofs.YtfilggkdhcjpbaaDoor
theorem readyRefuses_holds : Rows.ReadyRefusesCardSaid := readyRefuses.proved
end Go.Proofs.YtfilggkdhcjpbaaDoor
