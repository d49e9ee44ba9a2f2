/- Package mbf's contracts behind what was there; the laws' own helper known. -/
import Derived.Test.YtneimdjgbblaoaaBfF
import Derived.Lib.SlBytesConst
import Derived.Lib.SmallJoins
namespace Go.Proofs.Ytneimdjgbblaoaa
open Go.RowKit
set_option maxRecDepth 100000

/-- a buffer whose memory lies behind the world w, which stays as it was -/
structure At (w : World) (s p m : Nat) (C : Int) (t : St) (w1 : World) : Prop where
  q : Bf w1 w.heap.size s p m C t
  f : Fine t
  b : Below w.heap.size w w1
section
variable {w w1 w2 : World} {s p m : Nat} {C : Int} {t : St}
theorem At.go {t' : St} {D : Int} (h : At w s p m C t w1) (q : Bf w2 w.heap.size s p m D t') (f : Fine t') (k : Dt s p m w1 w2) : At w s p m D t' w2 := ⟨q, f, h.b.trans (k.under h.q h.b.size)⟩
theorem At.below (h : At w s p m C t w1) (k : Below w1.heap.size w1 w2) : At w s p m C t w2 := ⟨h.q.below k, h.f, below_trans h.b k⟩
theorem At.drew (h : At w s p m C t w1) : At w s p m C t w1.drew := h.below ⟨rfl, rfl, rfl, Nat.le_refl _, fun _ _ => rfl⟩
theorem At.drewN (h : At w s p m C t w1) (n : Nat) : At w s p m C t (w1.drewN n) := h.below ⟨rfl, rfl, rfl, Nat.le_refl _, fun _ _ => rfl⟩
theorem At.alloc (h : At w s p m C t w1) (o : Obj) : At w s p m C t (w1.alloc o) := h.below ((Below.refl _ _).alloc (Nat.le_refl _) o)
theorem At.le {D : Int} (h : At w s p m C t w1) (hd : C ≤ D) : At w s p m D t w1 := ⟨h.q.le hd, h.f, h.b⟩
end

theorem new_at (w w1 : World) (b : Bool) (m N : Nat) (hm : 1 ≤ m ∧ m ≤ 1024) (hN : N ≤ 65536) (h4 : N % 4 = 0) (z : Int) (hz : z = N) (y : Int) (hy : y = m) (hb : Below w.heap.size w w1) :
    Calls Try.prog 9 #[.bool b, .int .i64 y, .int .i64 z] w1 fun e w' => ∃ s p m0 : Nat, e = .returned (.tuple #[.pointer (some ⟨s, 0, none⟩), .int .i64 0]) ∧ At w s p m0 0 (st0 b m N) w' ∧ Below w1.heap.size w1 w' ∧ w1.heap.size ≤ s ∧ w1.heap.size ≤ p ∧ w1.heap.size ≤ m0 := by
  refine (nnew_ok b m N hm hN h4 z hz y hy w1).mono ?_
  rintro e w2 ⟨s, rfl, p, m0, hq, hk⟩
  exact ⟨s, p, m0, rfl, ⟨hq.lower hb.size, st0_fine hm.2 hN, hb.trans (hk.mono hb.size)⟩, hk, hq.bs, hq.bp, hq.bm⟩
section
variable {w w1 : World} {s p m : Nat} {C : Int} {t t' : St}
theorem trySend_at {A : Option Addr} {n cap : Nat} {q : Nat → Int} {k : Bool} {r c : Int} (h : At w s p m C t w1) (hsb : Sb w1 s p m A n q) (hcap : n ≤ cap) (hC : C ≤ 1000000000) (hs : trySend t (R.mkm n q) = (t', k, r, c)) :
    Calls Try.prog 13 #[.pointer (some ⟨s, 0, none⟩), .slice A n cap] w1 fun e w' => e = .returned (.tuple #[.bool k, .int .i64 r, .int .i64 c]) ∧ At w s p m (C + 2000) t' w' ∧ Dt s p m w1 w' := by
  refine (trySend_any _ s p m C t t' A n cap q k r c w1 h.q h.f hsb hcap hC hs).mono ?_
  rintro e w2 ⟨rfl, hq, hk⟩
  exact ⟨rfl, h.go hq (by have := h.f.trySend (x := R.mkm n q); rw [hs] at this; exact this) hk, hk⟩
theorem send_at {id pri : Int} {A : Option Addr} {n cap : Nat} {q : Nat → Int} {k : Bool} {r c : Int} (h : At w s p m C t w1) (hsb : Sb w1 s p m A n q) (hcap : n ≤ cap) (hC : C ≤ 1000000000) (hs : send t id pri (R.mkm n q) = (t', k, r, c)) :
    Calls Try.prog 11 #[.pointer (some ⟨s, 0, none⟩), .int .i64 id, .int .i64 pri, .slice A n cap] w1 fun e w' => e = .returned (.tuple #[.bool k, .int .i64 r, .int .i64 c]) ∧ At w s p m (C + 2000) t' w' ∧ Dt s p m w1 w' := by
  refine (send_any _ s p m C t t' id pri A n cap q k r c w1 h.q h.f hsb hcap hC hs).mono ?_
  rintro e w2 ⟨rfl, hq, hk⟩
  exact ⟨rfl, h.go hq (by have := h.f.send (id := id) (pri := pri) (x := R.mkm n q) hsb.by_; rw [hs] at this; exact this) hk, hk⟩
theorem tryRecv_at {o : Option (List Int)} {outs : List Int} (h : At w s p m C t w1) (hC : C ≤ 900000000) (hs : tryRecv t = (t', o, outs)) :
    Calls Try.prog 18 #[.pointer (some ⟨s, 0, none⟩)] w1 fun e w' => ∃ v, e = .returned v ∧ Gt w1 w' o outs v ∧ At w s p m (C + 90000) t' w' ∧ Dt s p m w1 w' := by
  refine (tryRecv_any _ s p m C t t' o outs w1 h.q h.f hC hs).mono ?_
  rintro e w2 ⟨v, rfl, hg, hq, hk⟩
  exact ⟨v, rfl, hg, h.go hq (by have := h.f.tryRecv; rw [hs] at this; exact this) hk, hk⟩
theorem recv_at {id pri c : Int} {o : Option (List Int)} {outs : List Int} (h : At w s p m C t w1) (hC : C ≤ 900000000) (hs : recv t id pri = (t', o, outs, c)) :
    Calls Try.prog 15 #[.pointer (some ⟨s, 0, none⟩), .int .i64 id, .int .i64 pri] w1 fun e w' => ∃ v, e = .returned (.tuple #[v, .int .i64 c]) ∧ Gt w1 w' o outs v ∧ At w s p m (C + 90000) t' w' ∧ Dt s p m w1 w' := by
  refine (recv_any _ s p m C t t' id pri c o outs w1 h.q h.f hC hs).mono ?_
  rintro e w2 ⟨v, rfl, hg, hq, hk⟩
  exact ⟨v, rfl, hg, h.go hq (by have := h.f.recv (id := id) (pri := pri); rw [hs] at this; exact this) hk, hk⟩
theorem drop_at {id : Int} (h : At w s p m C t w1) (hC : C ≤ 900000000) :
    Calls Try.prog 21 #[.pointer (some ⟨s, 0, none⟩), .int .i64 id] w1 fun e w' => ∃ v, e = .returned v ∧ Ow w' w1.heap.size v (drop t id).2 ∧ At w s p m (C + 90000) (drop t id).1 w' ∧ Dt s p m w1 w' := by
  refine (drop_any _ s p m C t id w1 h.q h.f (by omega)).mono ?_
  rintro e w2 ⟨v, rfl, hg, hq, hk⟩
  exact ⟨v, rfl, hg, h.go (hq.le (by omega)) h.f.drop hk, hk⟩
theorem change_at {id pri : Int} (h : At w s p m C t w1) (hC : C ≤ 900000000) :
    Calls Try.prog 23 #[.pointer (some ⟨s, 0, none⟩), .int .i64 id, .int .i64 pri] w1 fun e w' => ∃ v, e = .returned (.tuple #[v, .bool (change t id pri).2.2]) ∧ Ow w' w1.heap.size v (change t id pri).2.1 ∧ At w s p m (C + 90000) (change t id pri).1 w' ∧ Dt s p m w1 w' := by
  refine (change_any' _ s p m C t id pri w1 h.q h.f (by omega)).mono ?_
  rintro e w2 ⟨v, rfl, hg, hq, hk⟩
  exact ⟨v, rfl, hg, h.go (hq.le (by omega)) h.f.change hk, hk⟩
theorem senders_at {n : Nat} (h : At w s p m C t w1) (hn : t.S.length = n) :
    Calls Try.prog 29 #[.pointer (some ⟨s, 0, none⟩)] w1 fun e w' => ∃ (X : Option Addr) (k : Nat), e = .returned (.slice X n k) ∧ Nr w' (.slice X n k) (t.S.map Prod.fst) ∧ Below w1.heap.size w1 w' := by
  refine (senders_any h.q h.f).mono ?_
  rintro e w2 ⟨u, rfl, ho, hb⟩
  have := Nr.of_own ho
  obtain ⟨X, k, rfl, _⟩ := K.own_form ho
  rw [List.length_map, hn] at this ⊢
  exact ⟨X, k, rfl, this, hb⟩
theorem receivers_at {n : Nat} (h : At w s p m C t w1) (hn : t.R.length = n) :
    Calls Try.prog 31 #[.pointer (some ⟨s, 0, none⟩)] w1 fun e w' => ∃ (X : Option Addr) (k : Nat), e = .returned (.slice X n k) ∧ Nr w' (.slice X n k) (t.R.map Prod.fst) ∧ Below w1.heap.size w1 w' := by
  refine (receivers_any h.q h.f).mono ?_
  rintro e w2 ⟨u, rfl, ho, hb⟩
  have := Nr.of_own ho
  obtain ⟨X, k, rfl, _⟩ := K.own_form ho
  rw [List.length_map, hn] at this ⊢
  exact ⟨X, k, rfl, this, hb⟩
theorem len_at (h : At w s p m C t w1) : Calls Try.prog 26 #[.pointer (some ⟨p, 0, none⟩)] w1 fun e w' => e = .returned (.int .i64 (t.G.length : Int)) ∧ w1 = w' := by
  obtain ⟨c, _, _, r⟩ := h.q.g; exact R.glen_any r
theorem free_at (h : At w s p m C t w1) : Calls Try.prog 27 #[.pointer (some ⟨p, 0, none⟩)] w1 fun e w' => e = .returned (.int .i64 ((t.N : Int) - (R.tot t.G : Int))) ∧ ∃ d, w' = w1.drewN d := by
  obtain ⟨c, _, _, r⟩ := h.q.g; exact R.gfree_any r h.f.n
end

theorem sb_new (w : World) (s p m n : Nat) (hs : s < w.heap.size) (hp : p < w.heap.size) (hm : m < w.heap.size) (cs : Array Value) (fz : Nat × Nat) (q : Nat → Int) (hc : ∀ j, j < n → cs[j]? = some (.int .u8 (q j)) ∧ 0 ≤ q j ∧ q j ≤ 255) : Sb (w.alloc (.cells cs 5 fz)) s p m (some ⟨w.heap.size, 0, none⟩) n q := by
  intro _
  refine ⟨_, _, rfl, by omega, by omega, by omega, fun j hj => ⟨?_, (hc j hj).2⟩⟩
  rw [cell_of_row _ _ _ _ _ _ (heap_alloc_new w _), Nat.zero_add]; exact (hc j hj).1
theorem sb_nil (w : World) (s p m : Nat) (A : Option Addr) (q : Nat → Int) : Sb w s p m A 0 q := fun h => absurd h (Nat.lt_irrefl 0)

def one (j : Nat) : Int := [111, 110, 101].getD j 0
def twelve (j : Nat) : Int := [116, 119, 101, 108, 118, 101].getD j 0
theorem one_str : R.str (R.mkm 3 one) = ⟨#[111, 110, 101]⟩ := by decide +kernel
def kt0 : St := st0 false 8 16
def kt1 : St := { kt0 with G := [R.mkm 3 one] }
def kt2 : St := { kt1 with S := [(2, 5)], W := setW (fun _ => []) 2 (R.mkm 6 twelve) }
def kt3 : St := { kt2 with S := [], G := [R.mkm 6 twelve] }
theorem k1 : send kt0 1 5 (R.mkm 3 one) = (kt1, true, 0, 0) := by kernel_rfl
theorem k2 : send kt1 2 5 (R.mkm 6 twelve) = (kt2, false, 0, 0) := by kernel_rfl
theorem k3 : recv kt2 3 5 = (kt3, some (R.mkm 3 one), [2], 0) := by kernel_rfl
theorem k4 : trySend kt3 (R.mkm 0 one) = (kt3, false, 0, -17) := by kernel_rfl

def KnownPost (w : World) (e : Ending) (w' : World) : Prop := e = .returned (.bool true) ∧ Below w.heap.size w w'

set_option maxHeartbeats 4000000 in
theorem known_any (w : World) : Calls Try.prog 8 #[] w (KnownPost w) := by
  have HK := Lib.hid (fun (w : World) (C : Array Value) (n c : Nat) => Lib.run_convert_bytes_const (P := Try.prog) w 31 5 C n c Try.underlying31 Try.underlying5)
  go_enter Try.func8, Try.ntmps8
  go_wp2_with fail
  refine (new_at w w false 8 16 (by omega) (by omega) (by omega) 16 rfl 8 rfl (Below.refl _ _)).mono ?_
  rintro e w1 ⟨s, p, m, rfl, ha, _, _, _, _⟩
  have HA := Lib.hid ha
  have c0 := ha.q.c.ring
  have kc := HK.out w1
  clear ha
  go_wp2_with fail
  refine (send_at (t' := kt1) (HA.out.alloc _) (sb_new w1 s p m 3 HA.out.q.lt HA.out.q.ltp HA.out.q.ltm _ _ one (fun j hj => by
    match j, hj with
    | 0, _ => exact ⟨rfl, by decide, by decide⟩
    | 1, _ => exact ⟨rfl, by decide, by decide⟩
    | 2, _ => exact ⟨rfl, by decide, by decide⟩)) (by omega) (by omega) k1).mono ?_
  rintro e w2 ⟨rfl, ha2, _⟩
  clear kc c0 HA
  have HA := Lib.hid ha2
  have kc := HK.out w2
  clear ha2
  go_wp2_with fail
  refine (send_at (t' := kt2) (HA.out.alloc _) (sb_new w2 s p m 6 HA.out.q.lt HA.out.q.ltp HA.out.q.ltm _ _ twelve (fun j hj => by
    match j, hj with
    | 0, _ => exact ⟨rfl, by decide, by decide⟩
    | 1, _ => exact ⟨rfl, by decide, by decide⟩
    | 2, _ => exact ⟨rfl, by decide, by decide⟩
    | 3, _ => exact ⟨rfl, by decide, by decide⟩
    | 4, _ => exact ⟨rfl, by decide, by decide⟩
    | 5, _ => exact ⟨rfl, by decide, by decide⟩)) (by omega) (by omega) k2).mono ?_
  rintro e w3 ⟨rfl, ha3, _⟩
  clear kc HA
  have HA := Lib.hid ha3
  clear ha3
  go_wp2_with fail
  refine (recv_at (t' := kt3) HA.out (by omega) k3).mono ?_
  rintro e w4 ⟨gv, rfl, hg, ha4, _⟩
  obtain ⟨v1, v2, rfl, htx, how, hnew⟩ := hg
  obtain ⟨X, k, rfl, _, _⟩ := K.own_form how
  obtain ⟨Y, i, j, rfl⟩ : ∃ Y i j, v1 = .slice Y i j := by rcases htx with ⟨_, rfl⟩ | ⟨g, cap, rfl, _⟩ <;> exact ⟨_, _, _, rfl⟩
  rw [show [(2 : Int)].length = 1 from rfl] at how
  rw [show (some (R.mkm 3 one)).getD [] = R.mkm 3 one from rfl] at htx
  have HB5 := Lib.hid (show Below w4.heap.size w4 (w4.alloc (.cells #[.slice Y i j, .bool true, .slice X 1 k] 42)) from (Below.refl _ _).alloc (Nat.le_refl _) _)
  have HBX := Lib.hid (box3_new w4 42 (.slice Y i j) (.bool true) (.slice X 1 k))
  have HA5 := Lib.hid (ha4.below HB5.out)
  have HOW := Lib.hid (K.own_below how HB5.out)
  have HTX := Lib.hid (htx.below HB5.out)
  have HNEW := Lib.hid hnew
  have HL3 := Lib.hid (And.intro HA.out.q.lt (And.intro HA.out.q.ltp HA.out.q.ltm))
  have HL4 := Lib.hid (show w4.heap.size ≠ s ∧ w4.heap.size ≠ p ∧ w4.heap.size ≠ m by have h1 := ha4.q.lt; have h2 := ha4.q.ltp; have h3 := ha4.q.ltm; omega)
  have HT := Lib.hid (trySend_at (t' := kt3) (A := none) (n := 0) (cap := 0) (q := one) HA5.out (sb_nil _ _ _ _ _ _) (Nat.le_refl 0) (by omega) k4)
  clear htx how hnew ha4 HA
  go_wp2_with fail
  refine HT.out.mono ?_
  rintro e w6 ⟨rfl, ha6, hd6⟩
  have BX6 := HBX.out.keep (hd6.block _ HBX.out.lt HL4.out.1 HL4.out.2.1 HL4.out.2.2)
  have b0 := BX6.c0
  have b1 := BX6.c1
  have b2 := BX6.c2
  obtain ⟨g, oo, rfl, hgl, hce⟩ := (Nr.of_own (L := [2]) (own_dt HOW.out HA5.out.q hd6)).at_ (j := 0) (x := 2) rfl
  have hs := (HTX.out.dt HNEW.out hd6 HL3.out.1 HL3.out.2.1 HL3.out.2.2).str
  rw [one_str] at hs
  have c0 := ha6.q.c.ring
  have HA6 := Lib.hid ha6
  have HLen := Lib.hid (len_at ha6)
  rw [show kt3.G.length = 1 from rfl] at HLen
  simp only [Nat.add_zero] at hce
  clear ha6 hd6 HT HTX HOW BX6 hgl
  go_wp2_with fail
  refine HLen.out.mono ?_
  rintro e w7 ⟨rfl, rfl⟩
  go_wp2_with fail
  refine (senders_at HA6.out (n := 0) rfl).mono ?_
  rintro e w7 ⟨X7, k7, rfl, _, hb7⟩
  have HB7 := Lib.hid (HA6.out.b.trans (hb7.mono HA6.out.b.size))
  clear hb7
  go_wp2
  go_ret
  exact ⟨rfl, HB7.out⟩
end Go.Proofs.Ytneimdjgbblaoaa
