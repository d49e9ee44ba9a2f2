/- What the laws of package mbx use: the contracts with their world held below; known. -/
import Derived.Test.YtapogohekfeiiaaMxD
namespace Go.Proofs.Ytapogohekfeiiaa
open Go.RowKit
set_option maxRecDepth 100000

/-- a mailbox that came behind w; what was there ahead of it is as it was in w -/
structure At (w : World) (s q n c : Nat) (S : St) (w' : World) : Prop where
  gs : w.heap.size ≤ s
  gq : w.heap.size ≤ q
  gn : w.heap.size ≤ n
  x : Bx w' s q n c S
  f : Fine S
  b : Below w.heap.size w w'
theorem At.c0 {w w' : World} {s q n c : Nat} {S : St} (h : At w s q n c S w') : w'.cell? ⟨s, 0, none⟩ = some (.pointer (some ⟨q, 0, none⟩)) := h.x.k.c0
theorem At.below {w w1 w2 : World} {s q n c : Nat} {S : St} (h : At w s q n c S w1) (k : Below w1.heap.size w1 w2) : At w s q n c S w2 :=
  ⟨h.gs, h.gq, h.gn, h.x.below k, h.f, h.b.trans (k.mono h.b.size)⟩
theorem At.mono {w w1 : World} {s q n c d : Nat} {S : St} (h : At w s q n c S w1) (k : c ≤ d) : At w s q n d S w1 := ⟨h.gs, h.gq, h.gn, h.x.mono k, h.f, h.b⟩
theorem At.drewN {w w1 : World} {s q n c : Nat} {S : St} (h : At w s q n c S w1) (m : Nat) : At w s q n c S (w1.drewN m) := h.below ⟨rfl, rfl, rfl, Nat.le_refl _, fun _ _ => rfl⟩
theorem At.go {w w1 w2 : World} {s q n c d : Nat} {S T : St} (h : At w s q n c S w1) (x : Bx w2 s q n d T) (f : Fine T) (k : On3 s q n w1 w2) : At w s q n d T w2 :=
  ⟨h.gs, h.gq, h.gn, x, f, h.b.trans (k.below h.b.size h.gs h.gq h.gn)⟩

theorem send_at {w w1 : World} {s q n c : Nat} {S S' : St} {msg pri t k : Int} (h : At w s q n c S w1) (hw : In64 msg) (hc : c < 90000) (hs : send S msg pri = (S', t, k)) :
    Calls Try.prog 10 #[.pointer (some ⟨s, 0, none⟩), .int .i64 msg, .int .i64 pri] w1 fun e w' => e = .returned (.tuple #[.int .i64 t, .int .i64 k]) ∧ At w s q n (c + 2) S' w' := by
  refine (send_any s q n c S S' msg pri t k w1 h.x h.f hw hc hs).mono ?_
  rintro e w2 ⟨rfl, x, k⟩
  exact ⟨rfl, h.go x (h.f.send hw hs) k⟩
theorem recv_at {w w1 : World} {s q n c : Nat} {S S' : St} {id pri r k : Int} {o : Bool} (h : At w s q n c S w1) (hc : c < 90000) (hs : recv S id pri = (S', r, o, k)) :
    Calls Try.prog 12 #[.pointer (some ⟨s, 0, none⟩), .int .i64 id, .int .i64 pri] w1 fun e w' => e = .returned (.tuple #[.int .i64 r, .bool o, .int .i64 k]) ∧ At w s q n (c + 1) S' w' := by
  refine (recv_any s q n c S S' id pri r k o w1 h.x h.f hc hs).mono ?_
  rintro e w2 ⟨rfl, x, k⟩
  exact ⟨rfl, h.go x (h.f.recv hs) k⟩
theorem poll_at {w w1 : World} {s q n c : Nat} {S S' : St} {r : Int} {o : Bool} (h : At w s q n c S w1) (hc : c < 90000) (hs : poll S = (S', r, o)) :
    Calls Try.prog 14 #[.pointer (some ⟨s, 0, none⟩)] w1 fun e w' => e = .returned (.tuple #[.int .i64 r, .bool o]) ∧ At w s q n (c + 1) S' w' := by
  refine (poll_any s q n c S S' r o w1 h.x h.f hc hs).mono ?_
  rintro e w2 ⟨rfl, x, k⟩
  exact ⟨rfl, h.go x (h.f.poll hs) k⟩
theorem messages_at {w w1 : World} {s q n c : Nat} {S : St} (h : At w s q n c S w1) (hl : S.M.length ≤ 1000) :
    Calls Try.prog 22 #[.pointer (some ⟨s, 0, none⟩)] w1 fun e w' => ∃ X k, e = .returned (.slice X S.M.length k) ∧ Ow w' w1.heap.size (.slice X S.M.length k) (ids S.M) ∧ At w s q n c S w' := by
  refine (messages_any s q n c S w1 h.x h.f.g hl).mono ?_
  rintro e w2 ⟨v, rfl, ho, hb⟩
  obtain ⟨X, k, e, _⟩ := K.own_form ho
  rw [show (ids S.M).length = S.M.length by simp [ids]] at e
  subst e
  exact ⟨X, k, rfl, ho, h.below hb⟩
theorem new_at (w w1 : World) (b mp : Bool) (m : Int) (h1 : 1 ≤ m) (h2 : m ≤ 255) (hb : Below w.heap.size w w1) :
    Calls Try.prog 8 #[.bool b, .bool mp, .int .i64 m] w1 fun e w' => ∃ s q n : Nat, e = .returned (.tuple #[.pointer (some ⟨s, 0, none⟩), .int .i64 0]) ∧ At w s q n 0 ⟨b, [], mp, m, []⟩ w' := by
  refine (newbox_ok b mp m h1 h2 w1).mono ?_
  rintro e w2 ⟨_, rfl, s, q, n, rfl, b1, b2, b3, x, hk⟩
  exact ⟨s, q, n, rfl, Nat.le_trans hb.size b1, Nat.le_trans hb.size b2, Nat.le_trans hb.size b3, x, fine_new b mp h1 h2, hb.trans (hk.mono hb.size)⟩
theorem len_at {w w1 : World} {s q n c : Nat} {S : St} {k : Int} (h : At w s q n c S w1) (hk : (S.L.length : Int) = k) :
    Calls Try.prog 24 #[.pointer (some ⟨q, 0, none⟩)] w1 fun e w' => e = .returned (.int .i64 k) ∧ w1 = w' := by
  subst hk; exact len_ok q 55 S.b S.L w1 h.x.l

theorem in64 {x : Int} (h1 : -9223372036854775808 ≤ x) (h2 : x ≤ 9223372036854775807) : In64 x := ⟨h1, h2⟩

set_option maxHeartbeats 3200000 in
theorem known_ok (w : World) : Calls Try.prog 7 #[] w fun e w' => e = .returned (.bool true) ∧ Below w.heap.size w w' := by
  go_enter Try.func7, Try.ntmps7
  go_wp2_with fail
  refine (new_at w w false true 9 (by omega) (by omega) (Below.refl _ _)).mono ?_
  rintro e w1 ⟨s, q, n, rfl, h1⟩
  have d0 := h1.c0
  go_wp2_with fail
  refine (send_at h1 (msg := 11) (pri := 5) (in64 (by omega) (by omega)) (by omega) (S' := ⟨false, [], true, 9, [(11, 5)]⟩) (t := 0) (k := 0) rfl).mono ?_
  rintro e w2 ⟨rfl, h2⟩
  clear d0 h1
  go_wp2_with fail
  refine (send_at h2 (msg := 12) (pri := 1) (in64 (by omega) (by omega)) (by omega) (S' := ⟨false, [], true, 9, [(12, 1), (11, 5)]⟩) (t := 0) (k := 0) rfl).mono ?_
  rintro e w3 ⟨rfl, h3⟩
  clear h2
  go_wp2_with fail
  refine (recv_at h3 (by omega) (S' := ⟨false, [], true, 9, [(11, 5)]⟩) (r := 12) (o := true) (k := 0) rfl).mono ?_
  rintro e w4 ⟨rfl, h4⟩
  clear h3
  go_wp2_with fail
  refine (send_at h4 (msg := 11) (pri := 3) (in64 (by omega) (by omega)) (by omega) (S' := ⟨false, [], true, 9, [(11, 5)]⟩) (t := 0) (k := -41) rfl).mono ?_
  rintro e w5 ⟨rfl, h5⟩
  clear h4
  go_wp2_with fail
  refine (poll_at h5 (by omega) (S' := ⟨false, [], true, 9, []⟩) (r := 11) (o := true) rfl).mono ?_
  rintro e w6 ⟨rfl, h6⟩
  clear h5
  go_wp2_with fail
  refine (recv_at h6 (by omega) (S' := ⟨false, [(2, 5)], true, 9, []⟩) (r := 0) (o := false) (k := 0) rfl).mono ?_
  rintro e w7 ⟨rfl, h7⟩
  clear h6
  go_wp2_with fail
  refine (send_at h7 (msg := 13) (pri := 9) (in64 (by omega) (by omega)) (by omega) (S' := ⟨false, [], true, 9, []⟩) (t := 2) (k := 0) rfl).mono ?_
  rintro e w8 ⟨rfl, h8⟩
  clear h7
  go_wp2_with fail
  refine (messages_at h8 (by simp)).mono ?_
  rintro e w9 ⟨X, k, rfl, _, h9⟩
  have HB := Lib.hid h9.b
  clear h8 h9
  simp only [List.length_nil]
  go_wp2
  go_ret
  exact ⟨rfl, HB.out⟩
end Go.Proofs.Ytapogohekfeiiaa
