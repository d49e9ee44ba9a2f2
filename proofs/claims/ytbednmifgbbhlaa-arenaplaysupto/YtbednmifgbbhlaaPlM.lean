/-
  detentlaw2.ArenaPlays: the loop's rounds joined.
-/
import Derived.Test.YtbednmifgbbhlaaPlE
import Derived.Test.YtbednmifgbbhlaaPlF
import Derived.Test.YtbednmifgbbhlaaPlG
import Derived.Test.YtbednmifgbbhlaaPlH
import Derived.Test.YtbednmifgbbhlaaPlI
import Derived.Test.YtbednmifgbbhlaaPlJ
namespace Go.Proofs.Ytbednmifgbbhlaa.arenaPlays
open Go.ChangeShapes Go.WideShapes Go.ChangeAt Go.RowKit
set_option linter.unusedVariables false

theorem arr370 (tm : Array Value) (h : tm.size = 370) : tm = ((List.range 370).map fun k => tm.getD k undef).toArray := by
  apply Array.ext
  · simp [h]
  · intro i h1 h2
    simp [Array.getD, h1]

set_option maxRecDepth 100000 in
theorem fr_eq (tm : Array Value) (s : Nat) (A : Option Addr) (n cap g : Nat) (hsz : tm.size = 370) (h0 : tm.getD 0 undef = .int .i64 (s : Int)) (h1 : tm.getD 1 undef = .slice A n cap) (h7 : tm.getD 7 undef = .slice (some ⟨g, 0, none⟩) s s) :
    (⟨tm, []⟩ : Act) = fr s A n cap g (fun k => tm.getD k undef) (tm.getD 5 undef) (tm.getD 8 undef) (tm.getD 9 undef) := by
  unfold fr
  rw [← h0, ← h1, ← h7]
  congr 1
  refine (arr370 tm hsz).trans ?_
  generalize (fun k => tm.getD k undef) = u
  kernel_rfl

set_option maxHeartbeats 3200000 in
set_option maxRecDepth 100000 in
theorem case_exit (Q0 : Exit → Act → World → Prop) (w wr : World) (s : Nat) (A : Option Addr) (n cap g t p : Nat) (c : Int) (u : Nat → Value) (hn : n ≤ 100) (hlt : ¬ t < n) (ht : t ≤ n)
    (hr : Rel w s n g (.pointer (some ⟨p, 0, none⟩)) (.int .i64 c) (.int .i64 (t : Int)) wr)
    (hexit : ∀ (tm : Array Value) (w'' : World), WI w s A n cap g ⟨tm, []⟩ w'' → Q0 (.exit 0) ⟨tm, []⟩ w'') :
    Code.wp Try.prog body (Exit.then (Rnd w s A n cap g t) Q0) (fr s A n cap g u (.pointer (some ⟨p, 0, none⟩)) (.int .i64 c) (.int .i64 (t : Int))) wr := by
  obtain rfl : t = n := by omega
  have HR := Lib.hid hr
  have HE := Lib.hid hexit
  clear hr hexit
  unfold fr
  conv => arg 2; whnf
  go_wp2
  exact HE.out _ _ ⟨rfl, rfl, rfl, rfl, rfl, HR.out⟩

/-- one round, whatever the call -/
theorem round (Q0 : Exit → Act → World → Prop) (w : World) (s : Nat) (A : Option Addr) (n cap g : Nat) (b o : Nat) (op at_ nn : Nat → Int) (PB : Nat → Option Addr) (PK : Nat → Nat) (parts : Nat → List (List Int)) (wd : Nat → Int)
    (hA : 0 < n → A = some ⟨b, o, none⟩ ∧ Acts w b o n op at_ nn PB PK parts wd) (hs : s ≤ 2000) (hn : n ≤ 100) (hgw : w.heap.size ≤ g)
    (hexit : ∀ (tm : Array Value) (w'' : World), WI w s A n cap g ⟨tm, []⟩ w'' → Q0 (.exit 0) ⟨tm, []⟩ w'')
    (hret : ∀ (tm : Array Value) (w' : World), tm.getD 4 undef = .bool true → Below w.heap.size w w' → Q0 .ret ⟨tm, []⟩ w')
    (a : Act) (wr : World) (hI : WI w s A n cap g a wr) :
    Code.wp Try.prog body (Exit.then (fun a' w' => WI w s A n cap g a' w' ∧ Wmu n a' w' < Wmu n a wr) Q0) a wr := by
  obtain ⟨tm, df⟩ := a
  obtain ⟨hsz, hdf, h0, h1, h7, hrel⟩ := hI
  simp only at hdf hsz h0 h1 h7 hrel
  subst hdf
  have hrel' := hrel
  obtain ⟨t, p, m, c, f, ht, e9, e5, e8, ha, hr, gp, gm, hp', hm', hc0, hc1, hb⟩ := hrel
  have hmu : Wmu n ⟨tm, []⟩ wr = n - t := by unfold Wmu; simp only [e9, intOf]; simp
  rw [hmu]
  rw [e5, e8, e9] at hrel'
  have hfr := fr_eq tm s A n cap g hsz h0 h1 h7
  rw [e5, e8, e9] at hfr
  rw [hfr]
  generalize (fun k => tm.getD k undef) = u
  show Code.wp Try.prog body (Exit.then (Rnd w s A n cap g t) Q0) _ wr
  by_cases hlt : t < n
  · obtain ⟨rfl, hacts⟩ := hA (by omega)
    have hbl := hacts.hlt t hlt
    have hd : Hd w wr s b o n g t p m c f (op t) (at_ t) (nn t) (wd t) (PB t) (PK t) (parts t) := by
      refine ⟨hs, hn, hlt, ?_, ?_, ?_, ?_, ?_, hacts.hp t hlt, hacts.hl t hlt, hacts.hw t hlt, hacts.hb t hlt, ha, hr, gp, gm, hp', hm', hgw, hc0, hc1, hb⟩
      · rw [hb.cell (p := ⟨b, o + t * 5, none⟩) hbl]; exact hacts.c0 t hlt
      · rw [hb.cell (p := ⟨b, o + t * 5 + 1, none⟩) hbl]; exact hacts.c1 t hlt
      · rw [hb.cell (p := ⟨b, o + t * 5 + 2, none⟩) hbl]; exact hacts.c2 t hlt
      · rw [hb.cell (p := ⟨b, o + t * 5 + 3, none⟩) hbl]; exact hacts.c3 t hlt
      · rw [hb.cell (p := ⟨b, o + t * 5 + 4, none⟩) hbl]; exact hacts.c4 t hlt
    generalize op t = x0 at hd
    generalize at_ t = x1 at hd
    generalize nn t = x2 at hd
    generalize wd t = x4 at hd
    generalize PB t = B at hd
    generalize PK t = K at hd
    generalize parts t = ps at hd
    by_cases o1 : x0 = 1
    · subst o1
      by_cases inr : 0 ≤ x1 ∧ 0 ≤ x2 ∧ x1 + x2 ≤ s
      · by_cases hsx : x1 = s
        · subst hsx; exact case_1b Q0 w wr s b o n cap g t p m c f x2 x4 B K ps u hd inr
        · exact case_1a Q0 w wr s b o n cap g t p m c f x1 x2 x4 B K ps u hd inr hsx
      · exact case_1bad Q0 w wr s b o n cap g t p m c f x1 x2 x4 B K ps u hd inr
    by_cases o2 : x0 = 2
    · subst o2
      by_cases hgt : (3000 : Int) < ((whole ps).length : Int)
      · exact case_2great Q0 w wr s b o n cap g t p m c f x1 x2 x4 B K ps u hd hgt hret
      · by_cases inr : 0 ≤ x1 ∧ x1 + (whole ps).length ≤ s
        · exact case_2ok Q0 w wr s b o n cap g t p m c f x1 x2 x4 B K ps u hd hgt inr
        · exact case_2bad Q0 w wr s b o n cap g t p m c f x1 x2 x4 B K ps u hd hgt inr
    by_cases o3 : x0 = 3
    · subst o3
      by_cases inr : 0 ≤ x1 ∧ x1 + 4 ≤ s
      · by_cases h4 : x1 % 4 = 0
        · exact case_3ok Q0 w wr s b o n cap g t p m c f x1 x2 x4 B K ps u hd inr h4
        · exact case_3mod Q0 w wr s b o n cap g t p m c f x1 x2 x4 B K ps u hd inr h4
      · exact case_3out Q0 w wr s b o n cap g t p m c f x1 x2 x4 B K ps u hd inr
    by_cases o4 : x0 = 4
    · subst o4
      by_cases inr : 0 ≤ x1 ∧ x1 + 4 ≤ s
      · by_cases h4 : x1 % 4 = 0
        · exact case_4ok Q0 w wr s b o n cap g t p m c f x1 x2 x4 B K ps u hd inr h4
        · exact case_4mod Q0 w wr s b o n cap g t p m c f x1 x2 x4 B K ps u hd inr h4
      · exact case_4out Q0 w wr s b o n cap g t p m c f x1 x2 x4 B K ps u hd inr
    by_cases o5 : x0 = 5
    · subst o5
      by_cases inr : 0 ≤ x1 ∧ 0 ≤ x2 ∧ x1 + x2 ≤ s
      · exact case_5ok Q0 w wr s b o n cap g t p m c f x1 x2 x4 B K ps u hd inr
      · by_cases hx2 : 0 < x2
        · exact case_5pos Q0 w wr s b o n cap g t p m c f x1 x2 x4 B K ps u hd inr hx2
        · exact case_5neg Q0 w wr s b o n cap g t p m c f x1 x2 x4 B K ps u hd inr hx2
    by_cases o6 : x0 = 6
    · subst o6
      exact case_6 Q0 w wr s b o n cap g t p m c f x1 x2 x4 B K ps u hd
    exact case_els Q0 w wr s b o n cap g t p m c f x0 x1 x2 x4 B K ps u hd o1 o2 o3 o4 o5 o6
  · exact case_exit Q0 w wr s A n cap g t p c u hn hlt ht hrel' hexit

set_option maxHeartbeats 3200000 in
set_option maxRecDepth 100000 in
theorem walkIn (s : Nat) (A : Option Addr) (n cap : Nat) (b o : Nat) (op at_ nn : Nat → Int) (PB : Nat → Option Addr) (PK : Nat → Nat) (parts : Nat → List (List Int)) (wd : Nat → Int) (w : World)
    (hA : 0 < n → A = some ⟨b, o, none⟩ ∧ Acts w b o n op at_ nn PB PK parts wd) (hs : s ≤ 2000) (hn : n ≤ 100) :
    Calls Try.prog 3 #[.int .i64 (s : Int), .slice A n cap] w (Post w) := by
  have t1 : decide ((100 : Int) < (n : Int)) = false := by simp; omega
  have t2 : decide ((2000 : Int) < (s : Int)) = false := by simp; omega
  have t3 : (0 : Int) ≤ (s : Int) := by omega
  have t4 : (s : Int) ≤ 65536 := by omega
  have HA := Lib.hid hA
  have HM := Lib.hid (run_make_bytes s (by omega))
  clear hA
  go_enter Try.func3, Try.ntmps3
  go_wp2_with fail
  refine (known_any _).mono ?_
  rintro e w0 ⟨rfl, hb0⟩
  have HB0 := Lib.hid hb0; clear hb0
  go_wp2_with fail
  refine (new_ok s (by omega) w0).mono ?_
  rintro e w1 ⟨p, m, hp, hm, rfl, ha1, hb1⟩
  have HB1 : Hid (Below w.heap.size w w1) := HB0.out.trans (hb1.mono HB0.out.size)
  have hp' : w.heap.size ≤ p := Nat.le_trans HB0.out.size hp
  have hm' : w.heap.size ≤ m := Nat.le_trans HB0.out.size hm
  clear HB0 hb1 hp hm
  have hmk := HM.out w1
  go_wp2_with fail
  clear hmk HM
  have hr2 := row_made w1 s
  have ha2 := ha1.alloc (.cells (madeCells #[.int .u8 0] s) 5)
  have HB2 : Hid (Below w.heap.size w (w1.alloc (.cells (madeCells #[.int .u8 0] s) 5))) := HB1.out.alloc HB1.out.size _
  obtain ⟨g, hgdef⟩ : ∃ g, g = w1.heap.size := ⟨_, rfl⟩
  have hgw : w.heap.size ≤ g := by rw [hgdef]; exact HB1.out.size
  have gp : g ≠ p := by have := ha1.ltp; omega
  have gm : g ≠ m := by have := ha1.ltm; omega
  rw [← hgdef] at hr2 ⊢
  generalize w1.alloc (.cells (madeCells #[.int .u8 0] s) 5) = w2 at *
  clear hgdef HB1 ha1
  refine wp_loop (c := body) (WI w s A n cap g) (Wmu n) ?_ (fun a wr hI => round _ w s A n cap g b o op at_ nn PB PK parts wd HA.out hs hn hgw ?_ ?_ a wr hI)
  · exact ⟨rfl, rfl, rfl, rfl, rfl, ⟨0, p, m, 0, _, Nat.zero_le _, rfl, rfl, rfl, ha2, hr2, gp, gm, hp', hm', by omega, by omega, HB2.out⟩⟩
  · clear ha2 hr2 gp gm hp' hm' HB2
    intro tm w3 hI
    obtain ⟨hsz, _, h0, h1, h7, hrel⟩ := hI
    simp only at hsz h0 h1 h7 hrel
    obtain ⟨t, p, m, c, f, ht, e9, e5, e8, ha, hr, gp, gm, hp', hm', hc0, hc1, hb⟩ := hrel
    have hfr := fr_eq tm s A n cap g hsz h0 h1 h7
    rw [e5, e8, e9] at hfr
    rw [hfr]
    clear hfr e5 e8 e9 h0 h1 h7 hsz
    generalize (fun k => tm.getD k undef) = u
    unfold fr
    have HBr := Lib.hid hb
    clear hb
    go_wp2_with fail
    refine (read_ok p m s 0 s c f w3 ha (by omega) (by omega) hc0 (by omega)).mono ?_
    rintro e w4 ⟨g2, hg2, rfl, ha3, hr3, ho3⟩
    have hr3' : Row w4 g2 s f := hr3.congr fun i hi => by rw [Nat.zero_add]
    have hrg := hr.only ho3 gp gp
    have HB3 : Hid (Below w.heap.size w w4) := HBr.out.trans (ho3.below HBr.out.size hp' hp')
    have hs1 := run_str (cap := s) hr3'.src
    have hs2 := run_str (cap := s) hrg.src
    go_wp2
    go_ret
    exact ⟨rfl, HB3.out⟩
  · intro tm w' h4 hb
    go_ret
    exact ⟨by rw [h4], hb⟩

set_option maxHeartbeats 3200000 in
set_option maxRecDepth 100000 in
/-- no arena, or a size that is not looked at, or too many calls -/
theorem walkOut (z : Int) (A : Option Addr) (n cap : Nat) (w : World) (hn : n ≤ 9223372036854775807) (h : 100 < (n : Int) ∨ z < 0 ∨ 2000 < z) : Calls Try.prog 3 #[.int .i64 z, .slice A n cap] w (Post w) := by
  by_cases c1 : (100 : Int) < (n : Int)
  · go_enter Try.func3, Try.ntmps3
    go_wp2_with fail
    refine (known_any _).mono ?_
    rintro e w0 ⟨rfl, hb0⟩
    go_wp2
    go_ret
    exact ⟨rfl, hb0⟩
  have t1 : decide ((100 : Int) < (n : Int)) = false := by simpa using c1
  by_cases c2 : z < 0
  · have t2 : decide (2000 < z) = false := by simp; omega
    have t3 : decide (0 ≤ z) = false := by simpa using c2
    clear h c1
    go_enter Try.func3, Try.ntmps3
    go_wp2_with fail
    refine (known_any _).mono ?_
    rintro e w0 ⟨rfl, hb0⟩
    have HB0 := Lib.hid hb0; clear hb0
    go_wp2_with fail
    refine (new_bad z (.inl c2) w0).mono ?_
    rintro e w1 ⟨rfl, rfl⟩
    go_wp2
    go_ret
    exact ⟨rfl, HB0.out⟩
  have c3 : 2000 < z := by omega
  have c4 : 0 ≤ z := by omega
  by_cases c5 : z ≤ 65536
  · clear h c1 c2
    go_enter Try.func3, Try.ntmps3
    go_wp2_with fail
    refine (known_any _).mono ?_
    rintro e w0 ⟨rfl, hb0⟩
    go_wp2
    go_ret
    exact ⟨rfl, hb0⟩
  · have t5 : decide (z ≤ 65536) = false := by simpa using c5
    clear h c1 c2
    go_enter Try.func3, Try.ntmps3
    go_wp2_with fail
    refine (known_any _).mono ?_
    rintro e w0 ⟨rfl, hb0⟩
    have HB0 := Lib.hid hb0; clear hb0
    go_wp2_with fail
    refine (new_bad z (.inr (by omega)) w0).mono ?_
    rintro e w1 ⟨rfl, rfl⟩
    go_wp2
    go_ret
    exact ⟨rfl, HB0.out⟩
end Go.Proofs.Ytbednmifgbbhlaa.arenaPlays
