/- Contracts of package mbf: ensureRing, message, leave, wait. -/
import Derived.Test.YtneimdjgbblaoaaBfA
import Derived.Lib.SliceRun
import Derived.Deep.RegionHeld3
namespace Go.Proofs.Ytneimdjgbblaoaa
open Go.RowKit
set_option maxRecDepth 100000

theorem ensure_any {w : World} {s p : Nat} {t : St} (h : Dc w s p t) : Calls Try.prog 45 #[.pointer (some ⟨s, 0, none⟩)] w fun e w' => e = .returned (.tuple #[]) ∧ w = w' := by
  have c0 := h.ring
  clear h
  go_enter Try.func45, Try.ntmps45
  go_wp2
  go_end0
  exact ⟨rfl, rfl⟩

theorem bytes_cap (w : World) (x : List Int) : ∃ (cap : Nat) (wa : World), (convert 9 31 (.string (R.str x))).run Try.prog w = .ok (.slice (some ⟨w.heap.size, 0, none⟩) x.length cap) wa ∧ x.length ≤ cap ∧ R.Bk wa w.heap.size (R.str x) ∧ Below w.heap.size w wa := by
  have e := run_bytes_of_string (P := Try.prog) w 9 31 5 (R.str x) Try.underlying9 Try.underlying31 Try.underlying5
  rw [R.str_size] at e
  refine ⟨_, _, e, grownCap_ge _ _ _ _, ⟨_, _, heap_alloc_new _ _, fun j hj => ?_⟩, ((Below.refl _ _).drew).alloc (Nat.le_refl _) _⟩
  have hj' : j < (R.str x).data.size := by simpa using hj
  unfold bytesRow
  rw [Array.getElem?_append_left (by simpa using hj'), Array.getElem?_map, Array.getElem?_eq_getElem hj']
  simp

theorem bk_sb {w : World} {s p m g : Nat} {x : List Int} (h : R.Bk w g (R.str x)) (hb : By x) (h1 : g ≠ s) (h2 : g ≠ p) (h3 : g ≠ m) : Sb w s p m (some ⟨g, 0, none⟩) x.length (R.nth x) := fun _ => by
  obtain ⟨cs, fr, hh, hc⟩ := h
  refine ⟨g, 0, rfl, h1, h2, h3, fun j hj => ⟨?_, hb j hj⟩⟩
  have hl : (R.str x).data.toList.length = x.length := by rw [Array.length_toList]; exact R.str_size x
  rw [cell_of_row w g _ cs 5 fr hh, Nat.zero_add, hc j (by rw [hl]; exact hj)]
  have e : (R.str x).data.toList[j]'(by rw [hl]; exact hj) = UInt8.ofNat (R.nth x j).toNat := by simp [R.str, R.strOf]
  have := hb j hj
  rw [e]
  simp
  omega

theorem message_any {w : World} {s k : Nat} {x : List Int} (hk : k < 17) (hc : w.cell? ⟨s, 36 + k, none⟩ = some (.string (R.str x))) (z : Int) (hz : z = k) : Calls Try.prog 49 #[.pointer (some ⟨s, 2, none⟩), .int .i64 z] w fun e w' => ∃ g cap, e = .returned (.slice (some ⟨g, 0, none⟩) x.length cap) ∧ w.heap.size ≤ g ∧ x.length ≤ cap ∧ R.Bk w' g (R.str x) ∧ Below w.heap.size w w' := by
  subst hz
  obtain ⟨cap, wa, hcv, hcap, hbk, hb⟩ := bytes_cap w x
  have H := Lib.hid (And.intro hcap (And.intro hbk hb))
  have hji : (k : Int) < 17 := by omega
  clear hcap hbk hb
  go_enter Try.func49, Try.ntmps49
  go_wp2
  go_ret
  exact ⟨_, cap, rfl, Nat.le_refl _, H.out⟩

theorem erased {L : List It} {b : Bool} (h : Good b L) {id : Int} (hp : pos L id < L.length) : ∀ y, y ∈ L.eraseIdx (pos L id) → y.1 ≠ id := by
  intro y hy e
  obtain ⟨q, hq⟩ := pos_at hp
  have hn := h.ids
  obtain ⟨i, hi, hyi⟩ := List.mem_iff_getElem.1 hy
  have key : ∀ (a c : Nat) (ha : a < L.length) (hc : c < L.length), L[a].1 = L[c].1 → a = c := fun a c ha hc he => by
    have := (List.getElem_inj (h₀ := by simpa using ha) (h₁ := by simpa using hc) hn).1 (by simpa using he)
    exact this
  obtain ⟨hp2, e2⟩ := List.getElem?_eq_some_iff.1 hq
  rw [List.getElem_eraseIdx] at hyi
  split at hyi
  · rename_i c
    have := key i (pos L id) (by omega) hp (by rw [hyi, e2, e])
    omega
  · rename_i c
    have hl := List.length_eraseIdx_of_lt hp
    have := key (i + 1) (pos L id) (by omega) hp (by rw [hyi, e2, e])
    omega

set_option maxHeartbeats 800000 in
theorem leave_any (B s p m : Nat) (C : Int) (t : St) (id : Int) (w : World) (h : Bf w B s p m C t) (hf : Fine t) (ok : Bool) (hok : decide (pos t.S id < t.S.length) = ok) :
    Calls Try.prog 50 #[.pointer (some ⟨s, 2, none⟩), .int .i64 id] w fun e w' => e = .returned (.bool ok) ∧ Bf w' B s p m C { t with S := t.S.eraseIdx (pos t.S id) } ∧ Dt s p m w w' := by
  subst hok
  obtain ⟨X, hl, hX⟩ := h.c.sq
  have HR := Lib.hid (remove_any s 70 t.b t.S w hl hf.s.len id)
  have H := Lib.hid h
  have HX := Lib.hid hX
  by_cases c : pos t.S id < t.S.length
  · have hid : 1 ≤ id ∧ id ≤ 16 := by
      obtain ⟨z, hz, he⟩ := pos_lt.1 c
      have := hf.s.rng z hz
      rw [he] at this; exact ⟨this.1, this.2.1⟩
    obtain ⟨j, rfl⟩ : ∃ j : Nat, id = (j : Int) := ⟨id.toNat, by omega⟩
    have hj17 : j < 17 := by omega
    have hji : (j : Int) < 17 := by omega
    have HE := Lib.hid (erased hf.s c)
    have HG := Lib.hid hf.s.rng
    have HS := Lib.hid (List.eraseIdx_sublist t.S (pos t.S j))
    have d1 : decide (pos t.S j < t.S.length) = true := decide_eq_true c
    rw [d1] at HR ⊢
    clear h hf hl hX c d1 hid
    go_enter Try.func50, Try.ntmps50
    go_wp2_with fail
    refine HR.out.mono ?_
    rintro e w1 ⟨rfl, hl1, ho⟩
    have hc := HX.out w1 _ (fun y hy => ⟨y, HS.out.subset hy, rfl⟩) hl1
    have HQ := Lib.hid (H.out.turn ho hc rfl rfl)
    have HO := Lib.hid ho
    obtain ⟨u0, hu0⟩ := hc.text hj17
    have hz := hc.fz (36 + j)
    have HW := Lib.hid (fun u => hc.wipe hj17 (fun y hy e => HE.out y hy (by have := HG.out y (HS.out.subset hy); omega)) u)
    clear hc hl1 ho HX HR
    go_wp2
    go_ret
    exact ⟨rfl, HQ.out.turn ((Only.refl s w1).setCell (q := ⟨s, 36 + j, none⟩) (.inl rfl) _) (HW.out _) rfl rfl, (Dt.of_only HO.out).setCell _ _⟩
  · have HS := Lib.hid (List.eraseIdx_sublist t.S (pos t.S id))
    have d1 : decide (pos t.S id < t.S.length) = false := decide_eq_false c
    rw [d1] at HR ⊢
    clear h hf hl hX c d1
    go_enter Try.func50, Try.ntmps50
    go_wp2_with fail
    refine HR.out.mono ?_
    rintro e w1 ⟨rfl, hl1, ho⟩
    have HQ := Lib.hid (H.out.turn ho (HX.out w1 _ (fun y hy => ⟨y, HS.out.subset hy, rfl⟩) hl1) rfl rfl)
    have HO := Lib.hid ho
    clear hl1 ho HX HR
    go_wp2
    go_ret
    exact ⟨rfl, HQ.out, Dt.of_only HO.out⟩

set_option maxHeartbeats 800000 in
theorem wait_any (B s p m : Nat) (C : Int) (t t' : St) (id pri e : Int) (A : Option Addr) (n cap : Nat) (q : Nat → Int) (w : World) (h : Bf w B s p m C t) (hf : Fine t) (hs : Sb w s p m A n q) (hw : waitS t id pri (R.mkm n q) = (t', e)) :
    Calls Try.prog 35 #[.pointer (some ⟨s, 2, none⟩), .int .i64 id, .int .i64 pri, .slice A n cap] w fun en w' => en = .returned (.int .i64 e) ∧ Bf w' B s p m C t' ∧ Dt s p m w w' := by
  have H := Lib.hid h
  have HSB := Lib.hid hs
  unfold waitS at hw
  injection hw with h1 h2
  by_cases c : e = 0
  · subst c
    rw [if_pos h2] at h1
    obtain ⟨X, hl, hX⟩ := h.c.sqAdd
    have HA := Lib.hid (add_any s 70 t.b t.S w hl hf.s id pri)
    have HX := Lib.hid hX
    rw [h2] at HA
    have hid := addC_range h2
    obtain ⟨j, rfl⟩ : ∃ j : Nat, id = (j : Int) := ⟨id.toNat, by omega⟩
    have hj17 : j < 17 := by omega
    have hji : (j : Int) < 17 := by omega
    rw [show (j : Int).toNat = j from rfl] at h1
    have H1 := Lib.hid h1
    clear h hl hX h1 h2 hf hid hs
    go_enter Try.func35, Try.ntmps35
    go_wp2_with fail
    refine HA.out.mono ?_
    rintro en w1 ⟨rfl, hl1, ho⟩
    obtain ⟨hc, hz, u0, hu0⟩ := HX.out w1 _ j (R.mkm n q) hj17 (fun y hy => by
      rcases mem_addL hy with h | h
      · exact .inl ⟨y, h, rfl⟩
      · subst h; exact .inr rfl) hl1
    have HC := Lib.hid hc
    have HO := Lib.hid ho
    have hrs := R.run_str (cap := cap) (HSB.out.dt (Dt.of_only ho)).drew.src
    rw [← R.str_mkm] at hrs
    clear hc hl1 ho HX HA
    go_wp2
    go_region
    all_goals
      go_wp2
      go_ret
      rw [← H1.out]
      exact ⟨rfl, (H.out.turn (HO.out.setCell (q := ⟨s, 36 + j, none⟩) (.inl rfl) _) HC.out rfl rfl).drew, ((Dt.of_only HO.out).setCell _ _).drew⟩
  · have t1 : (e == 0) = false := by simpa using c
    rw [if_neg (by rw [h2]; exact c)] at h1
    have H1 := Lib.hid h1
    obtain ⟨X, hl, hX⟩ := h.c.sq
    have HA := Lib.hid (add_any s 70 t.b t.S w hl hf.s id pri)
    rw [addC_bad (by rw [h2]; exact c), h2] at HA
    rw [addC_bad (by rw [h2]; exact c)] at H1
    have HX := Lib.hid hX
    clear h hl hX h1 h2 hf c hs HSB
    go_enter Try.func35, Try.ntmps35
    go_wp2_with fail
    refine HA.out.mono ?_
    rintro en w1 ⟨rfl, hl1, ho⟩
    have HQ := Lib.hid (H.out.turn ho (HX.out w1 _ (fun y hy => ⟨y, hy, rfl⟩) hl1) rfl rfl)
    have HO := Lib.hid ho
    clear hl1 ho HX HA H
    go_wp2
    go_ret
    rw [← H1.out]
    exact ⟨rfl, HQ.out, Dt.of_only HO.out⟩
end Go.Proofs.Ytneimdjgbblaoaa
