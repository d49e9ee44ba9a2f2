/- Contracts of package heap: New, Len, Next, Left, Insert, Cancel. -/
import Derived.Test.YtpnhpgdidineaaaConD
namespace Go.Proofs.Ytpnhpgdidineaaa
open Go.RowKit

/-- timers laid open -/
theorem Tm.open {w : World} {B p g : Nat} {S : List En} {last : Int} (h : Tm w B p g S last) : ∃ (H : List En) (X : Option Addr) (k : Nat), H.Perm S ∧ Hp H ∧ H.length = S.length ∧ w.heap[p]? = some (.cells #[.slice X S.length k, .int .i64 last] 77 (0, 0)) ∧ Es w B (.slice X S.length k) H ∧ S.length ≤ k ∧ k ≤ 9223372036854775807 ∧ ((Value.slice X S.length k).ownBlock = some g ∨ (Value.slice X S.length k).ownBlock = none ∧ g = p) := by
  obtain ⟨H, v, a1, a2, a3, a4, a5⟩ := h.row
  have hl := a1.length_eq
  obtain ⟨X, k, hv, h1, h2⟩ := own_form a4
  rw [hl] at hv h1
  subst hv
  exact ⟨H, X, k, a1, a2, hl, a3, a4, h1, h2, a5⟩
theorem Tm.frd {w w' : World} {B p g : Nat} {S : List En} {last : Int} (h : Tm w B p g S last) (o : Only p g w w') : Fr B w w' := by
  obtain ⟨H, v, a1, a2, a3, a4, a5⟩ := h.row
  refine Fr.of_only o h.hp h.hg ⟨_, _, _, a3, .inl rfl⟩ ?_
  rcases a5 with a5 | ⟨_, rfl⟩
  · rcases a4.2 with ⟨h1, _⟩ | ⟨g', cap, cur, h1, _, h2, _⟩
    · rw [h1] at a5; cases a5
    · rw [h1] at a5; injection a5 with a5; subst a5; exact ⟨_, _, _, h2, .inr rfl⟩
  · exact ⟨_, _, _, a3, .inl rfl⟩

set_option maxHeartbeats 400000 in
theorem new_any (w : World) (B : Nat) (hB : B ≤ w.heap.size) :
    Calls Try.prog 26 #[] w fun e w' => ∃ p, e = .returned (.pointer (some ⟨p, 0, none⟩)) ∧ Tm w' B p p [] 0 ∧ Below w.heap.size w w' ∧ w.heap.size ≤ p := by
  go_enter Try.func26, Try.ntmps26
  go_wp2
  go_ret
  exact ⟨w.heap.size, rfl, ⟨hB, hB, ⟨[], _, List.Perm.refl _, fun i _ hi => by simp at hi, heap_alloc_new w _, World.ownsRow_nil _ _ _ _, .inr ⟨rfl, rfl⟩⟩, good_nil⟩, (Below.refl _ _).alloc (Nat.le_refl _) _, Nat.le_refl _⟩

set_option maxHeartbeats 400000 in
theorem len_any (w : World) (B p g : Nat) (S : List En) (last : Int) (h : Tm w B p g S last) (n : Nat) (hn : S.length = n) :
    Calls Try.prog 25 #[.pointer (some ⟨p, 0, none⟩)] w fun e w' => e = .returned (.int .i64 (n : Int)) ∧ w = w' := by
  obtain ⟨H, X, k, _, _, _, hh, _⟩ := h.open
  rw [hn] at hh
  have c0 : w.cell? ⟨p, 0, none⟩ = some (.slice X n k) := by rw [cell_of_row w p 0 _ 77 (0, 0) hh]; rfl
  clear h hh hn
  go_enter Try.func25, Try.ntmps25
  go_wp2
  go_ret
  exact ⟨rfl, rfl⟩

set_option maxHeartbeats 400000 in
theorem next_none (w : World) (B p g : Nat) (last : Int) (h : Tm w B p g [] last) :
    Calls Try.prog 40 #[.pointer (some ⟨p, 0, none⟩)] w fun e w' => e = .returned (.tuple #[.int .u64 0, .bool false]) ∧ w = w' := by
  obtain ⟨H, X, k, _, _, _, hh, _⟩ := h.open
  have c0 : w.cell? ⟨p, 0, none⟩ = some (.slice X 0 k) := by rw [cell_of_row w p 0 _ 77 (0, 0) hh]; rfl
  clear h hh
  go_enter Try.func40, Try.ntmps40
  go_wp2
  go_ret2
  exact ⟨rfl, rfl⟩

set_option maxHeartbeats 400000 in
theorem next_some (w : World) (B p g : Nat) (s : En) (S : List En) (last : Int) (h : Tm w B p g (s :: S) last) :
    Calls Try.prog 40 #[.pointer (some ⟨p, 0, none⟩)] w fun e w' => e = .returned (.tuple #[.int .u64 s.1, .bool true]) ∧ w = w' := by
  obtain ⟨H, X, k, hp, hH, hl, hh, hE, _⟩ := h.open
  rcases hE.open with ⟨h1, h2⟩ | ⟨g1, k1, h1, hr, _⟩
  · subst h2; simp at hl
  · injection h1 with e1 e2 e3
    subst e1 e3
    have h0 := hp_head h.good hp hH
    obtain ⟨d0, _⟩ := hr.cells (i := 0) (by rw [hl]; simp)
    rw [h0] at d0
    simp only [Nat.zero_mul] at d0
    obtain ⟨n, hn⟩ : ∃ n, (s :: S).length = n := ⟨_, rfl⟩
    rw [hn] at hh
    have hn0 : ((n : Int) == 0) = false := by simp at hn; simp; omega
    have hn1 : (0 : Int) < (n : Int) := by simp at hn; omega
    have c0 : w.cell? ⟨p, 0, none⟩ = some (.slice (some ⟨g1, 0, none⟩) n k) := by rw [cell_of_row w p 0 _ 77 (0, 0) hh]; rfl
    clear h hh hE hr hn hl hp hH h0
    go_enter Try.func40, Try.ntmps40
    go_wp2
    go_ret2
    exact ⟨rfl, rfl⟩

/-- what is left, as the program reckons it -/
def lft (a now : Int) : Int := wrap64 (IntKind.u64.wrap (a - now))

set_option maxHeartbeats 800000 in
theorem left_some (w : World) (B p g : Nat) (S : List En) (last : Int) (h : Tm w B p g S last) (hd now : Int) (x : En) (hx : fnd S hd = some x) (r : Int) (hr : lft x.1 now = r) :
    Calls Try.prog 42 #[.pointer (some ⟨p, 0, none⟩), .int .i64 hd, .int .u64 now] w fun e w' => e = .returned (.tuple #[.int .i64 r, .bool true]) ∧ Below w.heap.size w w' := by
  obtain ⟨H, X, k, hp, hH, hl, hh, hE, _⟩ := h.open
  have hxs := List.mem_of_find?_eq_some hx
  have hxh : x.2.1 = hd := by have := List.find?_some hx; simpa using this
  rcases hE.open with ⟨h1, h2⟩ | ⟨g1, k1, h1, hw, _⟩
  · subst h2; have := hp.mem_iff.2 hxs; simp at this
  · injection h1 with e1 e2 e3
    subst e1 e3
    have hlen := h.good.len
    obtain ⟨n, hn⟩ : ∃ n, S.length = n := ⟨_, rfl⟩
    rw [hn] at hh hl hlen
    have HF := Lib.hid (find_row g1 k n H w hw hl hlen hd)
    have HU : Hid (∀ j, j < n → (ix H j).2.1 = hd → ix H j = x) := fun j hj e => apart_inj h.good.apart _ _ (hp.mem_iff.1 (ix_mem (by rw [hl]; exact hj))) hxs (by rw [e, hxh])
    have HNN : Hid (∃ j, j < n ∧ (ix H j).2.1 = hd) := by
      obtain ⟨j, hj, e⟩ := mem_ix (hp.mem_iff.2 hxs)
      exact ⟨j, by rw [← hl]; exact hj, by rw [e]; exact hxh⟩
    have c0 : w.cell? ⟨p, 0, none⟩ = some (.slice (some ⟨g1, 0, none⟩) n k) := by rw [cell_of_row w p 0 _ 77 (0, 0) hh]; rfl
    have HHH := Lib.hid hh
    have HW := Lib.hid hw
    have HL := Lib.hid hl
    have HR := Lib.hid hr
    clear h hh hE hn hl hp hH hw hx hxs hxh hr
    go_enter Try.func42, Try.ntmps42
    go_wp2_with fail
    refine HF.out.mono ?_
    rintro e w1 ⟨q, ok, rfl, hf, hb⟩
    rcases hf with ⟨rfl, hq, hqh⟩ | ⟨rfl, rfl, hno⟩
    · rw [HL.out] at hq
      have hqx := HU.out q hq hqh
      obtain ⟨d0, _⟩ := (HW.out.below hb).cells (i := q) (by rw [HL.out]; exact hq)
      rw [hqx] at d0
      have hp1 := (hb.block p (lt_of_heap HHH.out)).trans HHH.out
      have c1 : w1.cell? ⟨p, 0, none⟩ = some (.slice (some ⟨g1, 0, none⟩) n k) := by rw [cell_of_row w1 p 0 _ 77 (0, 0) hp1]; rfl
      have i1 : (q : Int) < (n : Int) := by omega
      clear hqx hqh hp1 HF
      go_wp2
      go_ret2
      refine ⟨?_, hb⟩
      rw [← HR.out]
      rfl
    · obtain ⟨j, hj, e⟩ := HNN.out
      exact absurd e (hno _ (ix_mem (by rw [HL.out]; exact hj)))

set_option maxHeartbeats 800000 in
theorem left_none (w : World) (B p g : Nat) (S : List En) (last : Int) (h : Tm w B p g S last) (hd now : Int) (hx : fnd S hd = none) :
    Calls Try.prog 42 #[.pointer (some ⟨p, 0, none⟩), .int .i64 hd, .int .u64 now] w fun e w' => e = .returned (.tuple #[.int .i64 0, .bool false]) ∧ Below w.heap.size w w' := by
  obtain ⟨H, X, k, hp, hH, hl, hh, hE, _⟩ := h.open
  have hlen := h.good.len
  have HF := Lib.hid (find_any B _ H w hE (by omega) hd)
  obtain ⟨n, hn⟩ : ∃ n, S.length = n := ⟨_, rfl⟩
  rw [hn] at hh hl hlen HF
  have HNN : Hid (∀ j, j < n → (ix H j).2.1 ≠ hd) := fun j hj e => by
    have := List.find?_eq_none.1 hx _ (hp.mem_iff.1 (ix_mem (by rw [hl]; exact hj)))
    simp at this; exact this e
  have c0 : w.cell? ⟨p, 0, none⟩ = some (.slice X n k) := by rw [cell_of_row w p 0 _ 77 (0, 0) hh]; rfl
  have HL := Lib.hid hl
  clear h hh hE hn hl hp hH hx
  go_enter Try.func42, Try.ntmps42
  go_wp2_with fail
  refine HF.out.mono ?_
  rintro e w1 ⟨q, ok, rfl, hf, hb⟩
  rcases hf with ⟨rfl, hq, hqh⟩ | ⟨rfl, rfl, hno⟩
  · exact absurd hqh (HNN.out q (by rw [← HL.out]; exact hq))
  · clear hno HF
    go_wp2
    go_ret2
    exact ⟨rfl, hb⟩

/-- timers shut again -/
theorem tm_shut {w : World} {B p g k m : Nat} {H S : List En} {last : Int} (hB : B ≤ p) (hg : B ≤ g) (hp : H.Perm S) (hH : Hp H) (hh : w.heap[p]? = some (.cells #[.slice (some ⟨g, 0, none⟩) m k, .int .i64 last] 77 (0, 0))) (hr : Rw w g k H) (hm : H.length = m) (hG : Good S last) : Tm w B p g S last := by
  subst hm
  exact ⟨hB, hg, ⟨H, _, hp, hH, hh, hr.own rfl hg, .inl rfl⟩, hG⟩

set_option maxHeartbeats 800000 in
theorem insert_full (w : World) (B p g : Nat) (S : List En) (last : Int) (h : Tm w B p g S last) (hl : S.length = 256) (a q : Int) :
    Calls Try.prog 30 #[.pointer (some ⟨p, 0, none⟩), .int .u64 a, .int .i64 q] w fun e w' => e = .returned (.tuple #[.int .i64 0, .int .i64 (-33)]) ∧ w = w' := by
  obtain ⟨H, X, k, hp, hH, _, hh, hE, _⟩ := h.open
  rw [hl] at hh
  have c0 : w.cell? ⟨p, 0, none⟩ = some (.slice X 256 k) := by rw [cell_of_row w p 0 _ 77 (0, 0) hh]; rfl
  clear h hh hE hp hH hl
  go_enter Try.func30, Try.ntmps30
  go_wp2
  go_ret2
  exact ⟨rfl, rfl⟩

set_option maxHeartbeats 1600000 in
theorem insert_only (w : World) (B p g : Nat) (S : List En) (last : Int) (h : Tm w B p g S last) (hl : S.length < 256) (hla : last < 4611686018427387904) (a q : Int) :
    Calls Try.prog 30 #[.pointer (some ⟨p, 0, none⟩), .int .u64 a, .int .i64 q] w fun e w' => e = .returned (.tuple #[.int .i64 (last + 1), .int .i64 0]) ∧ (∃ g', Tm w' B p g' (ins (a, last + 1, q) S) (last + 1) ∧ (g' = g ∨ w.heap.size ≤ g')) ∧ Only p g w w' := by
  obtain ⟨H, X, k, hp, hH, hn, hh, hE, hk1, hk2, hob⟩ := h.open
  obtain ⟨n, hSn⟩ : ∃ n, S.length = n := ⟨_, rfl⟩
  rw [hSn] at hh hl hn hE hk1 hob
  have h0 := h.good.pos
  have c0 : w.cell? ⟨p, 0, none⟩ = some (.slice X n k) := by rw [cell_of_row w p 0 _ 77 (0, 0) hh]; rfl
  have c1 : w.cell? ⟨p, 1, none⟩ = some (.int .i64 last) := by rw [cell_of_row w p 1 _ 77 (0, 0) hh]; rfl
  have z1 : w.frozen? ⟨p, 1, none⟩ = false := frozen_of_row w p 1 _ 77 hh
  have hh2 := heap_setCell_same w p 1 _ 77 (.int .i64 (last + 1)) hh
  have hE2 : Es (w.setCell ⟨p, 1, none⟩ (.int .i64 (last + 1))) B (.slice X n k) H := own_keep hE fun g1 cs hg1 _ => Below.heap_setCell w ⟨p, 1, none⟩ _ g1 (by rintro rfl; rw [hh] at hg1; injection hg1 with hg1; injection hg1 with _ hg2; cases hg2)
  have hf2 : Only p g w (w.setCell ⟨p, 1, none⟩ (.int .i64 (last + 1))) := (Only.refl p g w).setCell (.inl rfl) _
  have hz2 : (w.setCell ⟨p, 1, none⟩ (.int .i64 (last + 1))).heap.size = w.heap.size := by simp [World.setCell]
  obtain ⟨w2, hW2⟩ : ∃ w2, w.setCell ⟨p, 1, none⟩ (.int .i64 (last + 1)) = w2 := ⟨_, rfl⟩
  rw [hW2] at hh2 hE2 hf2 hz2
  have c2 : w2.cell? ⟨p, 1, none⟩ = some (.int .i64 (last + 1)) := by rw [cell_of_row w2 p 1 _ 77 (0, 0) hh2]; rfl
  have i1 : decide ((256 : Int) ≤ (n : Int)) = false := by simp; omega
  have HT := Lib.hid h
  have HN := Lib.hid hn
  have HSN := Lib.hid hSn
  have HP := Lib.hid hp
  have HE := Lib.hid hE2
  have HF := Lib.hid hf2
  have HHH := Lib.hid hh2
  have HH := Lib.hid hH
  have HOB := Lib.hid hob
  have HZ2 := Lib.hid hz2
  clear h hh hE hp hH hn hSn hE2 hf2 hh2 hob hz2
  go_enter Try.func30, Try.ntmps30
  go_wp2
  go_still_tail 10, (by kernel_rfl)
  change wpList _ _ _ _ _ w2.drew
  have hEd : Es w2.drew B (.slice X n k) H := HE.out
  have hhd : w2.drew.heap[p]? = some (.cells #[.slice X n k, .int .i64 (last + 1)] 77 (0, 0)) := HHH.out
  go_wp2_with fail
  refine (add_any B p g (.slice X n k) (.int .i64 (last + 1)) H w2.drew hhd HT.out.hp hEd n HN.out hl HH.out (a, last + 1, q) HOB.out).mono ?_
  rintro e w3 ⟨rfl, ⟨H3, g3, k3, hp3, hH3, hh3, rw3, hB3, hgn3⟩, fr3⟩
  have c3 : w3.cell? ⟨p, 1, none⟩ = some (.int .i64 (last + 1)) := by rw [cell_of_row w3 p 1 _ 77 (0, 0) hh3]; rfl
  have HP3 := Lib.hid hp3
  have HHH3 := Lib.hid hh3
  have HR3 := Lib.hid rw3
  clear hp3 hh3 rw3 c0 c1 c2 z1 hEd hhd
  go_wp2
  go_ret2
  have hgn : g3 = g ∨ w.heap.size ≤ g3 := by
    rcases hgn3 with h | h
    · exact .inl h
    · have e : w2.drew.heap.size = w2.heap.size := rfl
      have := HZ2.out
      exact .inr (by omega)
  refine ⟨rfl, ⟨g3, ?_, hgn⟩, HF.out.trans ⟨fr3.os, fr3.tape, fr3.output, fr3.size, fr3.block⟩⟩
  have hpp : H3.Perm (ins (a, last + 1, q) S) := HP3.out.trans ((HP.out.cons _).trans (ins_perm _ _).symm)
  exact tm_shut HT.out.hp hB3 hpp hH3 HHH3.out HR3.out (by rw [HP3.out.length_eq, List.length_cons, HN.out]) (good_ins HT.out.good (by rw [HSN.out]; exact hl) a q)

theorem insert_ok (w : World) (B p g : Nat) (S : List En) (last : Int) (h : Tm w B p g S last) (hl : S.length < 256) (hla : last < 4611686018427387904) (a q : Int) :
    Calls Try.prog 30 #[.pointer (some ⟨p, 0, none⟩), .int .u64 a, .int .i64 q] w fun e w' => e = .returned (.tuple #[.int .i64 (last + 1), .int .i64 0]) ∧ (∃ g', Tm w' B p g' (ins (a, last + 1, q) S) (last + 1)) ∧ Fr B w w' := by
  refine (insert_only w B p g S last h hl hla a q).mono ?_
  rintro e w' ⟨rfl, ⟨g', ht, _⟩, ho⟩
  exact ⟨rfl, ⟨g', ht⟩, h.frd ho⟩

set_option maxHeartbeats 1600000 in
theorem cancel_any (w : World) (B p g : Nat) (S : List En) (last : Int) (h : Tm w B p g S last) (hd : Int) (b : Bool) (hb : (fnd S hd).isSome = b) :
    Calls Try.prog 18 #[.pointer (some ⟨p, 0, none⟩), .int .i64 hd] w fun e w' => e = .returned (.bool b) ∧ Tm w' B p g (del S hd) last ∧ Only p g w w' := by
  obtain ⟨H, X, k, hp, hH, hl, hh, hE, hk1, hk2, hob⟩ := h.open
  have hlen := h.good.len
  have HF := Lib.hid (find_any B _ H w hE (by omega) hd)
  obtain ⟨n, hn⟩ : ∃ n, S.length = n := ⟨_, rfl⟩
  rw [hn] at hh hl hlen HF hE hob hk1
  have c0 : w.cell? ⟨p, 0, none⟩ = some (.slice X n k) := by rw [cell_of_row w p 0 _ 77 (0, 0) hh]; rfl
  have HT := Lib.hid h
  have HL := Lib.hid hl
  have HP := Lib.hid hp
  have HE := Lib.hid hE
  have HHH := Lib.hid hh
  have HH := Lib.hid hH
  have HB := Lib.hid hb
  have HOB := Lib.hid hob
  have HN := Lib.hid hn
  clear h hh hE hn hl hp hH hb hob
  go_enter Try.func18, Try.ntmps18
  go_wp2_with fail
  refine HF.out.mono ?_
  rintro e w1 ⟨q, ok, rfl, hf, hb1⟩
  clear HF c0
  rcases hf with ⟨rfl, hq, hqh⟩ | ⟨rfl, rfl, hno⟩
  · rw [HL.out] at hq
    rcases HE.out.open with ⟨h1, h2⟩ | ⟨g1, k1, h1, hw, _⟩
    · have := HL.out; rw [h2] at this; simp at this; omega
    · injection h1 with e1 e2 e3
      subst e1 e3
      have hg1 : g1 = g := by
        rcases HOB.out with h | ⟨h, _⟩
        · injection h
        · cases h
      subst hg1
      obtain ⟨m, rfl⟩ : ∃ m, n = m + 1 := ⟨n - 1, by omega⟩
      have hp1 := (hb1.block p (lt_of_heap HHH.out)).trans HHH.out
      have HR := Lib.hid (removeAt_any p g1 k m q (.int .i64 last) H w1 hp1 (hw.below hb1) HL.out (by omega) (by omega) HH.out _ rfl)
      have HQ := Lib.hid hqh
      clear hqh hp1 hw e2
      go_wp2_with fail
      refine HR.out.mono ?_
      rintro e w2 ⟨rfl, ⟨H2, hp2, hH2, hh2, rw2⟩, o2⟩
      clear HR
      go_wp2
      go_ret
      have hx : ix H q ∈ S := HP.out.mem_iff.1 (ix_mem (by rw [HL.out]; omega))
      have hd2 := perm_del HT.out.good.apart HP.out hp2
      rw [HQ.out] at hd2
      refine ⟨?_, tm_shut HT.out.hp HT.out.hg hd2 hH2 hh2 rw2 ?_ (good_del HT.out.good hd), (Only.of_below hb1).trans o2⟩
      · have := fnd_some HT.out.good.apart hx
        rw [HQ.out] at this
        rw [← HB.out, this]; rfl
      · have := hp2.length_eq
        rw [List.length_cons, HL.out] at this; omega
  · have hno2 : ∀ x, x ∈ S → x.2.1 ≠ hd := fun x hx => hno x (HP.out.mem_iff.2 hx)
    have HNO := Lib.hid hno2
    clear hno hno2
    go_wp2
    go_ret
    refine ⟨?_, ?_, Only.of_below hb1⟩
    · rw [← HB.out, fnd_none HNO.out]; rfl
    · rw [del_none HNO.out]; exact HT.out.below hb1
end Go.Proofs.Ytpnhpgdidineaaa
