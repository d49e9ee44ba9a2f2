/- Put and Get of a ring. -/
import Derived.Test.YtneimdjgbblaoaaRgConG
namespace Go.Proofs.Ytneimdjgbblaoaa.R
open Go.RowKit
set_option maxRecDepth 100000
variable {X : TypeId × List Value}

/-- A ring in block p, its bytes in block m, its messages L. -/
def Rg (w : World) (p m N : Nat) (c : Int) (L : List (List Int)) : Prop :=
  ∃ (F : Nat) (f : Nat → Int), Ar (fields F (tot L) L.length) w p m N c f ∧ Good N F f L

theorem putWord_z (p m n a : Nat) (c x : Int) (f : Nat → Int) (w : World) (h : Ar X w p m n c f) (h4 : a % 4 = 0) (hk : a + 4 ≤ n) (hn : n ≤ 65536) (hc0 : 0 ≤ c) (hc1 : c ≤ 1000000000000) (hx0 : 0 ≤ x) (hx1 : x ≤ 4294967295) (za zx : Int) (ea : za = a) (ex : zx = x) :
    Calls Try.prog 67 #[.pointer (some ⟨p, 0, none⟩), .int .i64 za, .int .u32 zx] w (Wrote X p m n (c + 4) (upd f a 4 (byteOf x)) w) := by
  subst ea ex; exact putWord_ok p m n a c _ f w h h4 hk hn hc0 hc1 hx0 hx1
theorem writeRound_z (p m N a n cap : Nat) (c : Int) (f q : Nat → Int) (A : Option Addr) (w : World) (h : Ar X w p m N c f) (hs : Src w p m A n q) (hcap : n ≤ cap) (ha : a ≤ N) (hn : n ≤ N) (hN : N ≤ 65536) (hc0 : 0 ≤ c) (hc1 : c ≤ 100000000000) (za : Int) (ea : za = a) :
    Calls Try.prog 69 #[.pointer (some ⟨p, 0, none⟩), .int .i64 za, .slice A n cap] w fun e w' => e = .returned (.tuple #[]) ∧
      Ar X w' p m N (c + n) (upd (upd f a (min n (N - a)) q) 0 (n - min n (N - a)) (fun j => q (min n (N - a) + j))) ∧ Only p m w w' := by
  subst ea; exact writeRound_ok p m N a n cap c f q A w h hs hcap ha hn hN hc0 hc1
theorem place_z (p m n F U Q : Nat) (c : Int) (f : Nat → Int) (w : World) (h : Ar (fields F U Q) w p m n c f) (hF : F < n) (hn : n ≤ 65536) (k : Nat) (hk : k ≤ 200000) (a : Nat) (ha : (F + k) % n = a) (z : Int) (hz : z = k) : Calls Try.prog 68 #[.pointer (some ⟨p, 0, none⟩), .int .i64 z] w fun e w' => e = .returned (.int .i64 (a : Int)) ∧ ∃ d, w' = w.drewN d := by
  subst ha; exact place_any p m n F U Q c f w h hF hn k hk z hz
theorem Only.un {p m n : Nat} {w w' : World} (h : Only p m (w.drewN n) w') : Only p m w w' := ⟨h.os, h.tape, h.output, h.size, h.block⟩
theorem Ar.used {F U Q : Nat} {w : World} {p m n : Nat} {c : Int} {f : Nat → Int} (h : Ar (fields F U Q) w p m n c f) (z : Int) (U' : Nat) (hz : z = U') : Ar (fields F U' Q) (w.setCell ⟨p, 3, none⟩ (.int .i64 z)) p m n c f := by
  subst hz; exact h.other 1 _
theorem Ar.count {F U Q : Nat} {w : World} {p m n : Nat} {c : Int} {f : Nat → Int} (h : Ar (fields F U Q) w p m n c f) (z : Int) (Q' : Nat) (hz : z = Q') : Ar (fields F U Q') (w.setCell ⟨p, 4, none⟩ (.int .i64 z)) p m n c f := by
  subst hz; exact h.other 2 _
theorem Ar.first {F U Q : Nat} {w : World} {p m n : Nat} {c : Int} {f : Nat → Int} (h : Ar (fields F U Q) w p m n c f) (z : Int) (F' : Nat) (hz : z = F') : Ar (fields F' U Q) (w.setCell ⟨p, 2, none⟩ (.int .i64 z)) p m n c f := by
  subst hz; exact h.other 0 _

set_option maxHeartbeats 1600000 in
theorem put_in (p m N F U Q n cap : Nat) (c : Int) (f q : Nat → Int) (A : Option Addr) (w : World) (h : Ar (fields F U Q) w p m N c f) (hs : Src w p m A n q) (hcap : n ≤ cap) (hn : n ≤ 1024) (hN : N ≤ 65536) (hfit : U + occ n ≤ N)
    (hF : F < N) (hF4 : F % 4 = 0) (hU4 : U % 4 = 0) (hN4 : N % 4 = 0) (hQ : Q ≤ 65536) (hc0 : 0 ≤ c) (hc1 : c ≤ 10000000000) :
    Calls Try.prog 41 #[.pointer (some ⟨p, 0, none⟩), .slice A n cap] w fun e w' => e = .returned (.bool true) ∧
      Ar (fields F (U + occ n) (Q + 1)) w' p m N (c + 4 + n) (laid N f ((F + U) % N) ((F + (U + 4)) % N) n q) ∧ Only p m w w' := by
  have ho := occ_lo n
  have r4 := round_four F U N hF (by omega) hF4 hU4 hN4
  have r5 : (F + (U + 4)) % N ≤ N := Nat.le_of_lt (Nat.mod_lt _ (by omega))
  have HF := Lib.hid (fits_any p m N F U Q c f w h (by omega) hN (n : Int) true (by unfold fits; simp; omega))
  have H := Lib.hid h
  have HSRC := Lib.hid hs
  clear h hs
  have HU32 := Lib.hid (show IntKind.u32.wrap (n : Int) = n by simp [IntKind.wrap, IntKind.bits, IntKind.signed]; omega)
  unfold laid
  obtain ⟨a, ha⟩ : ∃ a, (F + U) % N = a := ⟨_, rfl⟩
  obtain ⟨b, hb⟩ : ∃ b, (F + (U + 4)) % N = b := ⟨_, rfl⟩
  rw [ha] at r4 ⊢
  rw [hb] at r5 ⊢
  have EA := Lib.hid ha
  have EB := Lib.hid hb
  clear ha hb
  go_enter Try.func41, Try.ntmps41
  go_wp2_with fail
  refine HF.out.mono ?_
  rintro e w1 ⟨rfl, d, rfl⟩
  have H1 := Lib.hid (H.out.drewN d)
  have HS1 := Lib.hid (show Src (w.drewN d) p m A n q from HSRC.out)
  have HO1 := Lib.hid ((Only.refl p m w).drewN d)
  generalize w.drewN d = w1 at *
  clear HF H HSRC
  obtain ⟨c3, _⟩ := H1.out.field 1 _ rfl
  go_wp2
  go_region_held3 (fun W => W.cell? ⟨p, 3, none⟩ = some (.int .i64 (U : Int)) ∧ True) (first | exact ⟨c3, trivial⟩ | exact ⟨(ha3.field 1 _ rfl).1, trivial⟩)
    (first
      | (go_at_call 68; refine (place_z p m N F U Q c f _ (by exact H1.out) hF hN U (by omega) a EA.out _ rfl).mono ?_; rintro e w2 ⟨rfl, d2, rfl⟩)
      | (go_at_call 67; refine (putWord_z p m N a c n f _ (by exact H1.out) r4.1 r4.2 hN hc0 (by omega) (by omega) (by omega) _ _ rfl HU32.out).mono ?_; rintro e w3 ⟨rfl, ha3, ho3⟩))
  have ho13 : Only p m w1 w3 := ho3.un
  have HO3 := Lib.hid (HO1.out.trans ho13)
  have HS3 := Lib.hid (HS1.out.only ho13 (.inl rfl) (.inr (.inl rfl)))
  have H3 := Lib.hid ha3
  obtain ⟨c31, c32⟩ := ha3.field 1 _ rfl
  clear ha3 ho3 ho13 HO1 HS1 H1 c3
  go_wp2_with fail
  refine (place_z p m N F U Q _ _ _ H3.out hF hN (U + 4) (by omega) b EB.out _ (by omega)).mono ?_
  rintro e w4 ⟨rfl, d4, rfl⟩
  have H4 := Lib.hid (H3.out.drewN d4)
  have HS4 := Lib.hid (show Src (w3.drewN d4) p m A n q from HS3.out)
  have HO4 := Lib.hid (HO3.out.drewN d4)
  generalize w3.drewN d4 = w4 at *
  clear H3 HS3 HO3 c31 c32
  go_wp2_with fail
  refine (writeRound_z p m N b n cap _ _ q A w4 H4.out HS4.out hcap r5 (by omega) hN (by omega) (by omega) _ rfl).mono ?_
  rintro e w5 ⟨rfl, ha5, ho5⟩
  have H5 := Lib.hid ha5
  have HO5 := Lib.hid (HO4.out.trans ho5)
  obtain ⟨c5, z5⟩ := ha5.field 1 _ rfl
  clear ha5 ho5 H4 HS4 HO4
  have HOC := Lib.hid (occupied_any n (by omega) (n : Int) rfl w5)
  have ou : (occ n : Int) ≤ 1031 := by omega
  have ul : (U : Int) ≤ 65536 := by omega
  go_wp2
  go_still_tail 10, (by kernel_rfl)
  still_call (call_sym (occupied_any n (by omega) _ rfl _))
  repeat still_step
  refine wpStill_nil ?_
  change wpList _ _ _ _ _ w5.drew
  have ws : IntKind.i64.wrap ((U : Int) + (occ n : Int)) = ((U + occ n : Nat) : Int) := by rw [IntWalk.i64_in _ (by omega)]; omega
  have H6 := Lib.hid H5.out.drew
  have HO6 := Lib.hid HO5.out.drew
  have c6 : w5.drew.cell? ⟨p, 3, none⟩ = some (.int .i64 (U : Int)) := c5
  have z6 : w5.drew.frozen? ⟨p, 3, none⟩ = false := z5
  generalize w5.drew = w6 at *
  clear H5 HO5 c5 z5 HOC
  obtain ⟨k4, k5⟩ := H6.out.field 2 _ rfl
  clear ws
  go_wp2
  go_ret
  refine ⟨rfl, ?_, (HO6.out.setCell (q := ⟨p, 3, none⟩) (.inl rfl) _).setCell (q := ⟨p, 4, none⟩) (.inl rfl) _⟩
  exact (H6.out.used _ (U + occ n) (by omega)).count _ (Q + 1) (by omega)

/-- what Put tells and does -/
def putL (N : Nat) (L : List (List Int)) (x : List Int) : List (List Int) := if fits N (tot L) x.length then L ++ [x] else L

def PutPost (p m N : Nat) (c : Int) (L : List (List Int)) (x : List Int) (w : World) (e : Ending) (w' : World) : Prop :=
  ∃ c', c ≤ c' ∧ c' ≤ c + 2000 ∧ e = .returned (.bool (fits N (tot L) x.length)) ∧ Rg w' p m N c' (putL N L x) ∧ Only p m w w'

theorem fits_nat (N U n : Nat) : fits N U (n : Int) = true ↔ n ≤ 1024 ∧ U + occ n ≤ N := by
  unfold fits; simp; omega

set_option maxHeartbeats 400000 in
theorem put_out (p m N F U Q n cap : Nat) (c : Int) (f : Nat → Int) (A : Option Addr) (w : World) (h : Ar (fields F U Q) w p m N c f) (hU : U ≤ N) (hN : N ≤ 65536) (hfit : fits N U (n : Int) = false) :
    Calls Try.prog 41 #[.pointer (some ⟨p, 0, none⟩), .slice A n cap] w fun e w' => e = .returned (.bool false) ∧ ∃ d, w' = w.drewN d := by
  have HF := Lib.hid (fits_any p m N F U Q c f w h hU hN (n : Int) false hfit)
  clear h hfit
  go_enter Try.func41, Try.ntmps41
  go_wp2_with fail
  refine HF.out.mono ?_
  rintro e w1 ⟨rfl, d, rfl⟩
  go_wp2
  go_ret
  exact ⟨rfl, d, rfl⟩

theorem put_any (p m N n cap : Nat) (c : Int) (L : List (List Int)) (q : Nat → Int) (A : Option Addr) (w : World) (h : Rg w p m N c L) (hs : Src w p m A n q) (hcap : n ≤ cap) (hN : N ≤ 65536) (hc0 : 0 ≤ c) (hc1 : c ≤ 10000000000) :
    Calls Try.prog 41 #[.pointer (some ⟨p, 0, none⟩), .slice A n cap] w (PutPost p m N c L (mkm n q) w) := by
  obtain ⟨F, f, ha, hg⟩ := h
  have hl := tot_len L
  have hfi := hg.fit
  unfold PutPost putL
  rw [mkm_len]
  cases hf : fits N (tot L) (n : Int) with
  | true =>
    rw [fits_nat] at hf
    have hF : F < N := by have := occ_lo n; rcases hg.fN with h | h <;> omega
    refine (put_in p m N F (tot L) L.length n cap c f q A w ha hs hcap hf.1 hN hf.2 hF hg.f4 (tot_four L) hg.n4 (by omega) hc0 hc1).mono ?_
    rintro e w' ⟨rfl, ha', ho'⟩
    refine ⟨c + 4 + n, by omega, by omega, rfl, ⟨F, _, ?_, hg.put n q hf.1 hf.2⟩, ho'⟩
    rw [if_pos rfl, tot_append, mkm_len, List.length_append]; exact ha'
  | false =>
    refine (put_out p m N F (tot L) L.length n cap c f A w ha hfi hN hf).mono ?_
    rintro e w' ⟨rfl, d, rfl⟩
    exact ⟨c, by omega, by omega, rfl, ⟨F, f, ha.drewN d, hg⟩, (Only.refl p m w).drewN d⟩
end Go.Proofs.Ytneimdjgbblaoaa.R
