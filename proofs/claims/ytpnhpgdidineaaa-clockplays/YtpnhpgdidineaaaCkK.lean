/- The laws' own words: a clock's calls as the laws use them; known. -/
import Derived.Test.YtpnhpgdidineaaaCkC
namespace Go.Proofs.Ytpnhpgdidineaaa
open Go.RowKit

theorem new_at (w w0 : World) (h0 : Below w.heap.size w w0) (tic : Int) (h1 : 1 ≤ tic) (h2 : tic ≤ 1000) :
    Calls Try.prog 9 #[.int .i64 tic] w0 fun e w' => ∃ c p, e = .returned (.tuple #[.pointer (some ⟨c, 0, none⟩), .int .i64 0]) ∧ Ck w' w.heap.size c p p tic 0 0 [] 0 ∧ Below w.heap.size w w' := by
  refine (newclock_ok w0 w.heap.size h0.size tic h1 h2).mono ?_
  rintro e w' ⟨c, p, rfl, hk, hb, _⟩
  exact ⟨c, p, rfl, hk, h0.trans (hb.mono h0.size)⟩

theorem after_at (w : World) (B c p g : Nat) (tic up now : Int) (S : List En) (last : Int) (h : Ck w B c p g tic up now S last) (d arg : Int) (h0 : 0 ≤ d) (h1 : d ≤ 2147483647)
    (hu : up ≤ 4611686018427387904) (hl : S.length < 256) (hla : last < 4611686018427387904) (a l1 : Int) (ha : up + d + tic = a) (hl1 : last + 1 = l1) (S1 : List En) (hS1 : ins (a, l1, arg) S = S1) :
    Calls Try.prog 13 #[.pointer (some ⟨c, 0, none⟩), .int .i64 d, .int .i64 arg] w fun e w' => e = .returned (.tuple #[.int .i64 l1, .int .i64 0]) ∧ (∃ g', Ck w' B c p g' tic up now S1 l1) ∧ Below B w w' := by
  subst hS1
  refine (after_ok w B c p g tic up now S last h d arg h0 h1 hu hl hla a l1 ha hl1).mono ?_
  rintro e w' ⟨rfl, ⟨g', hk, _⟩, ho⟩
  exact ⟨rfl, ⟨g', hk⟩, h.bel ho⟩

theorem tick_at (w : World) (B c p g : Nat) (tic up now : Int) (S : List En) (last : Int) (h : Ck w B c p g tic up now S last)
    (hu : up ≤ 4611686018427387904) (u1 n1 : Int) (hu1 : up + tic = u1) (hn1 : (now + tic) % 281474976710656 = n1) (n : Nat) (D S1 : List En) (hD : due S u1 = D) (hn : D.length = n) (hS1 : rst S u1 = S1) :
    Calls Try.prog 16 #[.pointer (some ⟨c, 0, none⟩)] w fun e w' => ∃ X k, e = .returned (.slice X n k) ∧ w'.ownsRow B 3 1 (.slice X n k) n (vals ci (args D)) ∧ Ck w' B c p g tic u1 n1 S1 last ∧ Below B w w' := by
  refine (tick_any w B c p g tic up now S last h hu u1 n1 hu1 hn1 n D S1 hD hn hS1).mono ?_
  rintro e w' ⟨X, k, rfl, h1, h2, h3⟩
  exact ⟨X, k, rfl, own_base h1 h.le, h2, h.bel h3⟩

theorem set_at (w : World) (B c p g : Nat) (tic up now : Int) (S : List En) (last : Int) (h : Ck w B c p g tic up now S last) (t r : Int) (ht : 0 ≤ t) (hr : t % 281474976710656 = r) :
    Calls Try.prog 11 #[.pointer (some ⟨c, 0, none⟩), .int .u64 t] w fun e w' => e = .returned (.tuple #[]) ∧ Ck w' B c p g tic up r S last ∧ Below B w w' := by
  refine (set_any w B c p g tic up now S last h t r ht hr).mono ?_
  rintro e w' ⟨rfl, h1, h2⟩
  exact ⟨rfl, h1, h.bel h2⟩

theorem clen_any (w : World) (B c p g : Nat) (tic up now : Int) (S : List En) (last : Int) (h : Ck w B c p g tic up now S last) (n : Nat) (hn : S.length = n) :
    Calls Try.prog 25 #[.pointer (some ⟨p, 0, none⟩)] w fun e w' => e = .returned (.int .i64 (n : Int)) ∧ w = w' := len_any w B p g S last h.tm n hn

/-- a row of numbers stays where a clock's calls turn its own blocks -/
theorem Ck.ints {w w' : World} {B c p g : Nat} {tic up now : Int} {S : List En} {last : Int} (h : Ck w B c p g tic up now S last) (ho : On3 c p g w w') {B' z n : Nat} {v : Value} {xs : List Value} (hr : w.ownsRow B' 3 z v n xs) : w'.ownsRow B' 3 z v n xs := by
  refine own_keep hr fun b cs hb _ => ho.block b (lt_of_heap hb) ?_ ?_ ?_
  · rintro rfl; exact h.type (e := 3) (by decide) _ _ hb
  · rintro rfl
    obtain ⟨c2, f2, h2⟩ := h.tm.tp
    rw [hb] at h2; injection h2 with h2; injection h2 with _ h3; cases h3
  · rintro rfl
    obtain ⟨c2, f2, e, h2, h3⟩ := h.tm.tg
    rw [hb] at h2; injection h2 with h2; injection h2 with _ h4
    subst h4; rcases h3 with h3 | h3 <;> cases h3

set_option maxHeartbeats 1600000 in
theorem known_any (w : World) : Calls Try.prog 8 #[] w fun e w' => e = .returned (.bool true) ∧ Below w.heap.size w w' := by
  have HB : Hid (∀ a b c : World, Below w.heap.size a b → Below w.heap.size b c → Below w.heap.size a c) := fun _ _ _ h k => h.trans k
  go_enter Try.func8, Try.ntmps8
  go_wp2_with fail
  refine (new_at w w (Below.refl _ _) 10 (by decide) (by decide)).mono ?_
  rintro e w1 ⟨c, p, rfl, hk, hb1⟩
  obtain ⟨c0, c1, c2, c3⟩ := hk.cells
  go_wp2_with fail
  refine (after_at w1 w.heap.size c p p 10 0 0 [] 0 hk 5 7 (by decide) (by decide) (by decide) (by decide) (by decide) 15 1 (by decide) (by decide) [(15, 1, 7)] (by decide)).mono ?_
  rintro e w2 ⟨rfl, ⟨g, hk⟩, hb2⟩
  replace hb1 := HB.out _ _ _ hb1 hb2
  clear c0 c1 c2 c3
  go_wp2_with fail
  refine (tick_at w2 w.heap.size c p g 10 0 0 _ 1 hk (by decide) 10 10 (by decide) (by decide) 0 [] [(15, 1, 7)] (by decide) rfl (by decide)).mono ?_
  rintro e w3 ⟨X3, k3, rfl, _, hk, hb2⟩
  replace hb1 := HB.out _ _ _ hb1 hb2
  go_wp2_with fail
  refine (tick_at w3 w.heap.size c p g 10 10 10 _ 1 hk (by decide) 20 20 (by decide) (by decide) 1 [(15, 1, 7)] [] (by decide) rfl (by decide)).mono ?_
  rintro e w4 ⟨X4, k4, rfl, hown, hk, hb2⟩
  replace hb1 := HB.out _ _ _ hb1 hb2
  go_wp2_with fail
  refine (set_any w4 w.heap.size c p g 10 20 20 _ 1 hk 1000 1000 (by decide) (by decide)).mono ?_
  rintro e w5 ⟨rfl, hk5, ho5⟩
  replace hb1 := HB.out _ _ _ hb1 (hk.bel ho5)
  replace hown := hk.ints ho5 hown
  go_wp2_with fail
  refine (tick_any w5 w.heap.size c p g 10 20 1000 _ 1 hk5 (by decide) 30 1010 (by decide) (by decide) 0 [] [] (by decide) rfl (by decide)).mono ?_
  rintro e w6 ⟨X6, k6, rfl, _, hk6, ho6⟩
  replace hb1 := HB.out _ _ _ hb1 (hk5.bel ho6)
  replace hown := hk5.ints ho6 hown
  obtain ⟨b, rfl, hbb, hk4, hc⟩ := own_int hown rfl (by omega)
  have d0 := hc 0 7 rfl
  obtain ⟨c0, c1, c2, c3⟩ := hk6.cells
  have HL := Lib.hid (clen_any w6 w.heap.size c p g 10 30 1010 [] 1 hk6 0 rfl)
  have HN := Lib.hid (now_any w6 w.heap.size c p g 10 30 1010 [] 1 hk6)
  have HU := Lib.hid (up_any w6 w.heap.size c p g 10 30 1010 [] 1 hk6)
  clear hc hown hk hk5 hk6 ho5 ho6 hb2
  go_wp2_with fail
  refine (after_no w6 c (-1) 7 (by decide)).mono ?_
  rintro e w7 ⟨rfl, rfl⟩
  go_wp2_with fail
  refine HN.out.mono ?_
  rintro e w7 ⟨rfl, rfl⟩
  go_wp2_with fail
  refine HU.out.mono ?_
  rintro e w7 ⟨rfl, rfl⟩
  go_wp2_with fail
  refine HL.out.mono ?_
  rintro e w7 ⟨rfl, rfl⟩
  go_wp2
  go_ret
  exact ⟨rfl, hb1⟩
end Go.Proofs.Ytpnhpgdidineaaa
