/- Two clocks beside each other. -/
import Derived.Test.YtpnhpgdidineaaaCkO
namespace Go.Proofs.Ytpnhpgdidineaaa
open Go.RowKit

/-- blocks of two clocks lie apart -/
structure Ap (c p g d q h : Nat) : Prop where
  cd : c ≠ d
  cq : c ≠ q
  ch : c ≠ h
  pd : p ≠ d
  pq : p ≠ q
  ph : p ≠ h
  gd : g ≠ d
  gq : g ≠ q
  gh : g ≠ h
theorem Ap.left {c p g d q h g' N : Nat} (a : Ap c p g d q h) (hg : g' = g ∨ N ≤ g') (h1 : d < N) (h2 : q < N) (h3 : h < N) : Ap c p g' d q h := by
  rcases hg with rfl | hg
  · exact a
  · exact ⟨a.cd, a.cq, a.ch, a.pd, a.pq, a.ph, by omega, by omega, by omega⟩
theorem Ap.right {c p g d q h h' N : Nat} (a : Ap c p g d q h) (hg : h' = h ∨ N ≤ h') (h1 : c < N) (h2 : p < N) (h3 : g < N) : Ap c p g d q h' := by
  rcases hg with rfl | hg
  · exact a
  · exact ⟨a.cd, a.cq, by omega, a.pd, a.pq, by omega, a.gd, a.gq, by omega⟩
theorem Ck.left {w w' : World} {B c p g d q h : Nat} {tic up now : Int} {S : List En} {last : Int} (k : Ck w B c p g tic up now S last) (a : Ap c p g d q h) (o : On3 d q h w w') : Ck w' B c p g tic up now S last :=
  k.keep (o.block c k.lt a.cd a.cq a.ch) (o.block p k.tm.ltp a.pd a.pq a.ph) (o.block g k.tm.ltg a.gd a.gq a.gh)
theorem Ck.right {w w' : World} {B c p g d q h : Nat} {tic up now : Int} {S : List En} {last : Int} (k : Ck w B d q h tic up now S last) (a : Ap c p g d q h) (o : On3 c p g w w') : Ck w' B d q h tic up now S last :=
  k.keep (o.block d k.lt (Ne.symm a.cd) (Ne.symm a.pd) (Ne.symm a.gd)) (o.block q k.tm.ltp (Ne.symm a.cq) (Ne.symm a.pq) (Ne.symm a.gq)) (o.block h k.tm.ltg (Ne.symm a.ch) (Ne.symm a.ph) (Ne.symm a.gh))

/-- two clocks of the same entries -/
structure Tw (w0 w : World) (c p g d q h : Nat) (tic up v v' : Int) (S : List En) (last : Int) : Prop where
  a : Ck w w0.heap.size c p g tic up v S last
  b : Ck w w0.heap.size d q h tic up v' S last
  ap : Ap c p g d q h
  bel : Below w0.heap.size w0 w

theorem Tw.drewN {w0 w : World} {c p g d q h : Nat} {tic up v v' : Int} {S : List En} {last : Int} (t : Tw w0 w c p g d q h tic up v v' S last) (n : Nat) : Tw w0 (w.drewN n) c p g d q h tic up v v' S last :=
  ⟨t.a.drewN n, t.b.drewN n, t.ap, ⟨t.bel.os, t.bel.tape, t.bel.output, t.bel.size, t.bel.block⟩⟩

/-- each of the two in its turn -/
theorem after_left (w0 w : World) (c p g d q h : Nat) (tic up v v' : Int) (S : List En) (last : Int) (t : Tw w0 w c p g d q h tic up v v' S last) (x arg : Int) (h0 : 0 ≤ x) (h1 : x ≤ 2147483647)
    (hu : up ≤ 4611686018427387904) (hl : S.length < 256) (hla : last < 4611686018427387904) (a l1 : Int) (ha : up + x + tic = a) (hl1 : last + 1 = l1) (S1 : List En) (hS1 : ins (a, l1, arg) S = S1) :
    Calls Try.prog 13 #[.pointer (some ⟨c, 0, none⟩), .int .i64 x, .int .i64 arg] w fun e w' => e = .returned (.tuple #[.int .i64 l1, .int .i64 0]) ∧
      ∃ g', Ck w' w0.heap.size c p g' tic up v S1 l1 ∧ Ck w' w0.heap.size d q h tic up v' S last ∧ Ap c p g' d q h ∧ Below w0.heap.size w0 w' := by
  subst hS1
  refine (after_ok w w0.heap.size c p g tic up v S last t.a x arg h0 h1 hu hl hla a l1 ha hl1).mono ?_
  rintro e w' ⟨rfl, ⟨g', hk, hg⟩, ho⟩
  exact ⟨rfl, g', hk, t.b.right t.ap ho, t.ap.left hg t.b.lt t.b.tm.ltp t.b.tm.ltg, t.bel.trans (t.a.bel ho)⟩
theorem after_right (w0 w : World) (c p g d q h : Nat) (tic up v v' : Int) (S Sa : List En) (last la : Int) (ka : Ck w w0.heap.size c p g tic up v Sa la) (kb : Ck w w0.heap.size d q h tic up v' S last) (ap : Ap c p g d q h) (bel : Below w0.heap.size w0 w) (x arg : Int) (h0 : 0 ≤ x) (h1 : x ≤ 2147483647)
    (hu : up ≤ 4611686018427387904) (hl : S.length < 256) (hla : last < 4611686018427387904) (a l1 : Int) (ha : up + x + tic = a) (hl1 : last + 1 = l1) (S1 : List En) (hS1 : ins (a, l1, arg) S = S1) (hSa : Sa = S1) (hlb : la = l1) :
    Calls Try.prog 13 #[.pointer (some ⟨d, 0, none⟩), .int .i64 x, .int .i64 arg] w fun e w' => e = .returned (.tuple #[.int .i64 l1, .int .i64 0]) ∧ ∃ h', Tw w0 w' c p g d q h' tic up v v' S1 l1 := by
  subst hS1 hSa hlb
  refine (after_ok w w0.heap.size d q h tic up v' S last kb x arg h0 h1 hu hl hla a _ ha hl1).mono ?_
  rintro e w' ⟨rfl, ⟨h', hk, hg⟩, ho⟩
  exact ⟨rfl, h', ka.left ap ho, hk, ap.right hg ka.lt ka.tm.ltp ka.tm.ltg, bel.trans (kb.bel ho)⟩
theorem set_right (w0 w : World) (c p g d q h : Nat) (tic up v v' : Int) (S : List En) (last : Int) (t : Tw w0 w c p g d q h tic up v v' S last) (x r : Int) (hx : 0 ≤ x) (hr : x % 281474976710656 = r) :
    Calls Try.prog 11 #[.pointer (some ⟨d, 0, none⟩), .int .u64 x] w fun e w' => e = .returned (.tuple #[]) ∧ Tw w0 w' c p g d q h tic up v r S last := by
  refine (set_any w w0.heap.size d q h tic up v' S last t.b x r hx hr).mono ?_
  rintro e w' ⟨rfl, hk, ho⟩
  exact ⟨rfl, t.a.left t.ap ho, hk, t.ap, t.bel.trans (t.b.bel ho)⟩
theorem tick_left (w0 w : World) (c p g d q h : Nat) (tic up v v' : Int) (S : List En) (last : Int) (t : Tw w0 w c p g d q h tic up v v' S last)
    (hu : up ≤ 4611686018427387904) (u1 : Int) (hu1 : up + tic = u1) (n : Nat) (D S1 : List En) (hD : due S u1 = D) (hn : D.length = n) (hS1 : rst S u1 = S1) :
    Calls Try.prog 16 #[.pointer (some ⟨c, 0, none⟩)] w fun e w' => ∃ X k, e = .returned (.slice X n k) ∧ w'.ownsRow w0.heap.size 3 1 (.slice X n k) n (vals ci (args D)) ∧
      ∃ v1, Ck w' w0.heap.size c p g tic u1 v1 S1 last ∧ Ck w' w0.heap.size d q h tic up v' S last ∧ Below w0.heap.size w0 w' := by
  refine (tick_any w w0.heap.size c p g tic up v S last t.a hu u1 _ hu1 rfl n D S1 hD hn hS1).mono ?_
  rintro e w' ⟨X, k, rfl, hown, hk, ho⟩
  exact ⟨X, k, rfl, own_base hown t.a.le, _, hk, t.b.right t.ap ho, t.bel.trans (t.a.bel ho)⟩
theorem tick_right (w0 w : World) (c p g d q h : Nat) (tic up u1 v v' : Int) (S Sa : List En) (last : Int) (ka : Ck w w0.heap.size c p g tic u1 v Sa last) (kb : Ck w w0.heap.size d q h tic up v' S last) (ap : Ap c p g d q h) (bel : Below w0.heap.size w0 w)
    (hu : up ≤ 4611686018427387904) (hu1 : up + tic = u1) (n : Nat) (D S1 : List En) (hD : due S u1 = D) (hn : D.length = n) (hS1 : rst S u1 = S1) (hSa : Sa = S1)
    (X : Option Addr) (k : Nat) (hX : w.ownsRow w0.heap.size 3 1 (.slice X n k) n (vals ci (args D))) :
    Calls Try.prog 16 #[.pointer (some ⟨d, 0, none⟩)] w fun e w' => ∃ Y j, e = .returned (.slice Y n j) ∧ w'.ownsRow w0.heap.size 3 1 (.slice X n k) n (vals ci (args D)) ∧ w'.ownsRow w0.heap.size 3 1 (.slice Y n j) n (vals ci (args D)) ∧
      ∃ v1, Tw w0 w' c p g d q h tic u1 v v1 S1 last := by
  subst hSa
  refine (tick_any w w0.heap.size d q h tic up v' S last kb hu u1 _ hu1 rfl n D Sa hD hn hS1).mono ?_
  rintro e w' ⟨Y, j, rfl, hown, hk, ho⟩
  exact ⟨Y, j, rfl, kb.ints ho hX, own_base hown kb.le, _, ka.left ap ho, hk, ap, bel.trans (kb.bel ho)⟩
end Go.Proofs.Ytpnhpgdidineaaa
