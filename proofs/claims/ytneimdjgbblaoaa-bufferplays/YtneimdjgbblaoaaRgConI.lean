/- Get of a ring. -/
import Derived.Test.YtneimdjgbblaoaaRgConH
namespace Go.Proofs.Ytneimdjgbblaoaa.R
open Go.RowKit
set_option maxRecDepth 100000
variable {X : TypeId × List Value}

theorem readRound_z (p m N a n : Nat) (c : Int) (f b : Nat → Int) (w : World) (h : Ar X w p m N c f) (ha : a ≤ N) (hn : n ≤ N) (hN : N ≤ 65536) (hc0 : 0 ≤ c) (hc1 : c ≤ 100000000000) (hb : ∀ j, j < n → (if j < min n (N - a) then f (a + j) else f (0 + (j - min n (N - a)))) = b j) (za z : Int) (ea : za = a) (hz : z = n) :
    Calls Try.prog 77 #[.pointer (some ⟨p, 0, none⟩), .int .i64 za, .int .i64 z] w (Got X p m N n c f b w) := by
  subst ea
  refine (readRound_ok p m N a n c f w h ha hn hN hc0 hc1 z hz).mono ?_
  rintro e w' ⟨g, k, h1, h2, h3, h4, h5, h6, h7⟩
  exact ⟨g, k, h1, h2, h3, h4, h5, h6.congr (fun i hi => (hb i hi).symm), h7⟩

theorem word_z (p m n a x : Nat) (c : Int) (f : Nat → Int) (w : World) (h : Ar X w p m n c f) (h4 : a % 4 = 0) (hk : a + 4 ≤ n) (hn : n ≤ 65536) (hc0 : 0 ≤ c) (hc1 : c ≤ 1000000000000) (hx : wordUp f a 4 = x) :
    Calls Try.prog 76 #[.pointer (some ⟨p, 0, none⟩), .int .i64 (a : Int)] w fun e w' => e = .returned (.tuple #[.int .u32 (x : Int), .int .i64 0]) ∧ Ar X w' p m n (c + 4) f ∧ Only p p w w' := by
  have := word_ok p m n a c f w h h4 hk hn hc0 hc1
  unfold WordPost at this
  rw [hx] at this
  exact this

/-- Get's answer where there is a message of n bytes b 0, b 1, .. -/
def GetIn (p m N F U Q n : Nat) (c : Int) (f b : Nat → Int) (w : World) (e : Ending) (w' : World) : Prop :=
  ∃ g k : Nat, w.heap.size ≤ g ∧ n ≤ k ∧ k ≤ 9223372036854775807 ∧ e = .returned (.tuple #[.slice (some ⟨g, 0, none⟩) n k, .bool true]) ∧
    Ar (fields F U Q) w' p m N (c + 4 + n) f ∧ Row w' g n b ∧ Only p m w w'

set_option maxHeartbeats 1600000 in
theorem get_in (p m N F U Q n : Nat) (c : Int) (f b : Nat → Int) (w : World) (h : Ar (fields F (U + occ n) (Q + 1)) w p m N c f) (hn : n ≤ 1024) (hN : N ≤ 65536) (hfit : U + occ n ≤ N)
    (hF : F + 4 ≤ N) (hF4 : F % 4 = 0) (hQ : Q ≤ 65536) (hc0 : 0 ≤ c) (hc1 : c ≤ 10000000000) (hx : wordUp f F 4 = n)
    (hb : ∀ j, j < n → (if j < min n (N - (F + 4) % N) then f ((F + 4) % N + j) else f (0 + (j - min n (N - (F + 4) % N)))) = b j) :
    Calls Try.prog 46 #[.pointer (some ⟨p, 0, none⟩)] w (GetIn p m N ((F + occ n) % N) U Q n c f b w) := by
  have ho := occ_lo n
  obtain ⟨a, ha⟩ : ∃ a, (F + 4) % N = a := ⟨_, rfl⟩
  obtain ⟨G, hG⟩ : ∃ G, (F + occ n) % N = G := ⟨_, rfl⟩
  have r5 : a ≤ N := by rw [← ha]; exact Nat.le_of_lt (Nat.mod_lt _ (by omega))
  rw [ha] at hb
  rw [hG]
  have EA := Lib.hid ha
  have EG := Lib.hid hG
  have HX := Lib.hid hx
  have HB := Lib.hid hb
  have H := Lib.hid h
  obtain ⟨c4, _⟩ := h.field 2 _ rfl
  obtain ⟨c2, _⟩ := h.field 0 _ rfl
  have q1 : ((Q + 1 : Nat) : Int) = (Q : Int) + 1 := by omega
  rw [q1] at c4
  have q2 : ((Q : Int) + 1 == 0) = false := by simp; omega
  clear ha hG h hx hb q1
  go_enter Try.func46, Try.ntmps46
  go_wp2
  go_region_held3 (fun W => W.cell? ⟨p, 2, none⟩ = some (.int .i64 (F : Int)) ∧ True) (first | exact ⟨c2, trivial⟩ | exact ⟨(ha3.field 0 _ rfl).1, trivial⟩)
    (first
      | (go_at_call 76; refine (word_z p m N F n c f _ (by exact H.out) hF4 hF hN hc0 (by omega) HX.out).mono ?_; rintro e w3 ⟨rfl, ha3, ho3⟩))
  have ho13 : Only p m w w3 := (Only.un (n := 1) ho3).wide
  have HO3 := Lib.hid ho13
  have H3 := Lib.hid ha3
  clear ha3 ho3 ho13 H c2 c4 HX
  go_wp2_with fail
  refine (place_z p m N F _ _ _ _ _ H3.out (by omega) hN 4 (by omega) a EA.out _ rfl).mono ?_
  rintro e w4 ⟨rfl, d4, rfl⟩
  have H4 := Lib.hid (H3.out.drewN d4)
  have HO4 := Lib.hid (HO3.out.drewN d4)
  generalize w3.drewN d4 = w4 at *
  clear H3 HO3
  go_wp2_with fail
  refine (readRound_z p m N a n _ _ b w4 H4.out r5 (by omega) hN (by omega) (by omega) HB.out _ _ rfl (by first | rfl | omega)).mono ?_
  rintro e w5 ⟨g, k, hg, hk1, hk2, rfl, ha5, hr5, ho5⟩
  have H5 := Lib.hid ha5
  have HO5 := Lib.hid (HO4.out.trans ho5.wide)
  have hg' : w.heap.size ≤ g := Nat.le_trans HO4.out.size hg
  have gp : g ≠ p := by have := H4.out.ltp; omega
  have gm : g ≠ m := by have := H4.out.ltm; omega
  have HR5 := Lib.hid hr5
  clear ha5 ho5 hr5 H4 HO4 HB hg
  go_wp2_with fail
  refine (occupied_any n (by omega) _ (by first | rfl | omega) w5).mono ?_
  rintro e w6 ⟨rfl, rfl⟩
  go_wp2_with fail
  refine (place_z p m N F _ _ _ _ _ H5.out (by omega) hN (occ n) (by omega) G EG.out _ rfl).mono ?_
  rintro e w6 ⟨rfl, d6, rfl⟩
  have H6 := Lib.hid (H5.out.drewN d6)
  have HO6 := Lib.hid (HO5.out.drewN d6)
  have HR6 := Lib.hid (HR5.out.drewN d6)
  generalize w5.drewN d6 = w6 at *
  obtain ⟨_, k2⟩ := H6.out.field 0 _ rfl
  have H7 := Lib.hid (H6.out.first _ G rfl)
  have HO7 := Lib.hid (HO6.out.setCell (q := ⟨p, 2, none⟩) (.inl rfl) (.int .i64 (G : Int)))
  have HR7 := Lib.hid (HR6.out.far (q := ⟨p, 2, none⟩) gp (.int .i64 (G : Int)))
  clear H5 HO5 HR5 H6 HO6 HR6
  obtain ⟨k3, _⟩ := H7.out.field 1 _ rfl
  obtain ⟨c4, z4⟩ := H7.out.field 2 _ rfl
  have uu : ((U + occ n : Nat) : Int) = (U : Int) + (occ n : Int) := by omega
  have q1 : ((Q + 1 : Nat) : Int) = (Q : Int) + 1 := by omega
  rw [uu] at k3
  rw [q1] at c4
  have ou : (occ n : Int) ≤ 1031 := by omega
  have ul : (U : Int) ≤ 65536 := by omega
  clear uu q1
  go_wp2
  generalize w6.setCell ⟨p, 2, none⟩ (.int .i64 (G : Int)) = w7 at *
  go_still_tail 10, (by kernel_rfl)
  still_call (call_sym (occupied_any n (by omega) _ (by first | rfl | exact IntWalk.i64_in _ (by omega)) _))
  repeat still_step
  refine wpStill_nil ?_
  change wpList _ _ _ _ _ w7.drew
  have H8 := Lib.hid H7.out.drew
  have HO8 := Lib.hid HO7.out.drew
  have HR8 := Lib.hid HR7.out.drew
  clear k3 c4 z4 k2 H7 HO7 HR7
  generalize w7.drew = w8 at *
  obtain ⟨c3, z3⟩ := H8.out.field 1 _ rfl
  obtain ⟨c4, z4⟩ := H8.out.field 2 _ rfl
  have q1 : ((Q + 1 : Nat) : Int) = (Q : Int) + 1 := by omega
  rw [q1] at c4
  clear q1
  go_wp2
  go_ret2
  refine ⟨g, k, hg', hk1, hk2, rfl, ?_, ?_, ?_⟩
  · exact (H8.out.used _ U (by omega)).count _ Q (by omega)
  · exact (HR8.out.far (q := ⟨p, 3, none⟩) gp _).far (q := ⟨p, 4, none⟩) gp _
  · exact (HO8.out.setCell (q := ⟨p, 3, none⟩) (.inl rfl) _).setCell (q := ⟨p, 4, none⟩) (.inl rfl) _

set_option maxHeartbeats 400000 in
theorem get_none (p m N F U : Nat) (c : Int) (f : Nat → Int) (w : World) (h : Ar (fields F U 0) w p m N c f) :
    Calls Try.prog 46 #[.pointer (some ⟨p, 0, none⟩)] w fun e w' => e = .returned (.tuple #[.slice none 0 0, .bool false]) ∧ w = w' := by
  obtain ⟨c4, _⟩ := h.field 2 _ rfl
  clear h
  go_enter Try.func46, Try.ntmps46
  go_wp2
  go_ret2
  exact ⟨rfl, rfl⟩

/-- Get of a ring with a message -/
def GetPost (p m N : Nat) (c : Int) (x : List Int) (L : List (List Int)) (w : World) (e : Ending) (w' : World) : Prop :=
  ∃ (g k : Nat) (c' : Int), c ≤ c' ∧ c' ≤ c + 2000 ∧ w.heap.size ≤ g ∧ x.length ≤ k ∧ k ≤ 9223372036854775807 ∧ e = .returned (.tuple #[.slice (some ⟨g, 0, none⟩) x.length k, .bool true]) ∧
    Rg w' p m N c' L ∧ Row w' g x.length (nth x) ∧ Only p m w w'

theorem get_some (p m N : Nat) (c : Int) (x : List Int) (L : List (List Int)) (w : World) (h : Rg w p m N c (x :: L)) (hN : N ≤ 65536) (hc0 : 0 ≤ c) (hc1 : c ≤ 10000000000) :
    Calls Try.prog 46 #[.pointer (some ⟨p, 0, none⟩)] w (GetPost p m N c x L w) := by
  obtain ⟨F, f, ha, hg⟩ := h
  have hl := tot_len L
  have hfi := hg.fit
  have hx := hg.msg x List.mem_cons_self
  have hw := hg.word
  simp only [tot] at hfi
  have ha' : Ar (fields F (tot L + occ x.length) (L.length + 1)) w p m N c f := by
    have e : tot (x :: L) = tot L + occ x.length := by simp only [tot]; omega
    rw [e] at ha; exact ha
  refine (get_in p m N F (tot L) L.length x.length c f (nth x) w ha' hx hN (by omega) hw.1 hg.f4 (by omega) hc0 hc1 hw.2 (fun j hj => hg.bytes _ rfl j hj)).mono ?_
  rintro e w' ⟨g, k, h1, h2, h3, rfl, h5, h6, h7⟩
  exact ⟨g, k, c + 4 + x.length, by omega, by omega, h1, h2, h3, rfl, ⟨_, f, h5, hg.get⟩, h6, h7⟩
theorem get_nil (p m N : Nat) (c : Int) (w : World) (h : Rg w p m N c []) :
    Calls Try.prog 46 #[.pointer (some ⟨p, 0, none⟩)] w fun e w' => e = .returned (.tuple #[.slice none 0 0, .bool false]) ∧ w = w' := by
  obtain ⟨F, f, ha, hg⟩ := h
  exact get_none p m N F _ c f w ha
end Go.Proofs.Ytneimdjgbblaoaa.R
