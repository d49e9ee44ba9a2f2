/-
  detentlaw3.ListPlays: each call on the lists and on the document's rows comes to the same answer and the same rows.
-/
import Derived.Test.YtmfjhckacmdijaaPlO
namespace Go.Proofs.Ytmfjhckacmdijaa.listPlays
open Go.RowKit

theorem addSpec_any (N H : Nat) (R : Nat → List Nat) (h : Int) (ns : List Int) : (∃ c, AddSpec N H R h ns c ∧ (c != 0) = true) ∨ AddOk N H R h ns := by
  by_cases h1 : 0 ≤ h ∧ h < H
  · by_cases h2 : ∃ n, n ∈ ns ∧ ¬ (0 ≤ n ∧ n < N)
    · exact .inl ⟨-17, .inr (.inl ⟨h1, h2, rfl⟩), rfl⟩
    · have h2' : ∀ n, n ∈ ns → 0 ≤ n ∧ n < N := fun n hn => Classical.byContradiction fun g => h2 ⟨n, hn, g⟩
      by_cases h3 : (∃ n, n ∈ ns ∧ Inn H R n.toNat) ∨ ¬ ns.Nodup
      · exact .inl ⟨-41, .inr (.inr (.inl ⟨h1, h2', h3, rfl⟩)), rfl⟩
      · exact .inr ⟨h1, h2', fun n hn g => h3 (.inl ⟨n, hn, g⟩), Classical.byContradiction fun g => h3 (.inr g)⟩
  · exact .inl ⟨-17, .inl ⟨h1, rfl⟩, rfl⟩

theorem op_back (p m q r N H : Nat) (h : Int) (A : Option Addr) (cap : Nat) (ns : List Int) (R : Nat → List Nat) (hwf : Wf N H R) (hN : N ≤ 1024) (hH : H ≤ 64) (hn : ns.length ≤ 50) :
    ∃ (c : Int) (R' : Nat → List Nat), (∀ w, Lst w p m N H R → Nd w m A ns → Calls Try.prog 12 #[.pointer (some ⟨p, 0, none⟩), .int .i64 h, .slice A ns.length cap] w (Did p m N H R' c w)) ∧
      (∀ w, Rf w q r m N H R → m < w.heap.size → Nd w r A ns → Calls Try.prog 13 #[.pointer (some ⟨q, 0, none⟩), .int .i64 h, .slice A ns.length cap] w (DidR q r m N H R' c w)) := by
  rcases addSpec_any N H R h ns with ⟨c, hc, hc0⟩ | hk
  · exact ⟨c, R, fun w hl hs => back_bad p m N H h A cap ns R w hl hN hH hs (by omega) c hc hc0,
      fun w hl hm hs => rback_any q r m N H h A cap ns R R w hl hwf hN hH hm hs (by omega) c hc (fun _ => rfl) (fun e => by subst e; simp at hc0)⟩
  · obtain ⟨k, rfl⟩ : ∃ k : Nat, h = k := ⟨h.toNat, by have := hk.hd; omega⟩
    refine ⟨0, setR R k (R k ++ ns.map Int.toNat), fun w hl hs => back_ok p m N H k A cap ns R w hl hN hH hs (by omega) hk,
      fun w hl hm hs => rback_any q r m N H k A cap ns R _ w hl hwf hN hH hm hs (by omega) 0 (.inr (.inr (.inr ⟨hk, rfl⟩))) (fun e => absurd rfl e) (fun _ j e => ?_)⟩
    obtain rfl : k = j := by omega
    rfl

theorem op_front (p m q r N H : Nat) (h x : Int) (R : Nat → List Nat) (hwf : Wf N H R) (hN : N ≤ 1024) (hH : H ≤ 64) :
    ∃ (c : Int) (R' : Nat → List Nat), (∀ w, Lst w p m N H R → Calls Try.prog 14 #[.pointer (some ⟨p, 0, none⟩), .int .i64 h, .int .i64 x] w (Did p m N H R' c w)) ∧
      (∀ w, Rf w q r m N H R → m < w.heap.size → Calls Try.prog 15 #[.pointer (some ⟨q, 0, none⟩), .int .i64 h, .int .i64 x] w (DidR q r m N H R' c w)) := by
  rcases addSpec_any N H R h [x] with ⟨c, hc, hc0⟩ | hk
  · exact ⟨c, R, fun w hl => front_bad p m N H h x R w hl hN hH c hc hc0, fun w hl hm => rfront_bad q r m N H h x R w hl hwf hN hH c hc hc0⟩
  · obtain ⟨k, rfl⟩ : ∃ k : Nat, h = k := ⟨h.toNat, by have := hk.hd; omega⟩
    obtain ⟨y, rfl⟩ : ∃ y : Nat, x = y := ⟨x.toNat, by have := hk.nd x (by simp); omega⟩
    have h1 := hk.hd
    have h2 := hk.nd (y : Int) (by simp)
    have h3 := hk.out (y : Int) (by simp)
    exact ⟨0, setR R k (y :: R k), fun w hl => front_ok p m N H k y R w hl hN hH hk, fun w hl hm => rfront_ok q r m N H k y R w hl hwf hN hH hm (by omega) (by omega) (by simpa using h3)⟩

theorem op_before (p m q r N H : Nat) (x a : Int) (R : Nat → List Nat) (hwf : Wf N H R) (hN : N ≤ 1024) (hH : H ≤ 64) :
    ∃ (c : Int) (R' : Nat → List Nat), (∀ w, Lst w p m N H R → Calls Try.prog 16 #[.pointer (some ⟨p, 0, none⟩), .int .i64 x, .int .i64 a] w (Did p m N H R' c w)) ∧
      (∀ w, Rf w q r m N H R → m < w.heap.size → Calls Try.prog 17 #[.pointer (some ⟨q, 0, none⟩), .int .i64 x, .int .i64 a] w (DidR q r m N H R' c w)) := by
  by_cases h1 : (0 ≤ x ∧ x < N) ∧ (0 ≤ a ∧ a < N)
  · obtain ⟨y, rfl⟩ : ∃ y : Nat, x = y := ⟨x.toNat, by omega⟩
    obtain ⟨b, rfl⟩ : ∃ b : Nat, a = b := ⟨a.toNat, by omega⟩
    by_cases h2 : Inn H R b ∧ ¬ Inn H R y
    · obtain ⟨k, L1, L2, hk, hR⟩ := inn_part h2.1
      exact ⟨0, _, fun w hl => before_ok p m N H y b k R w hl (by omega) hk L1 L2 hR h2.2, fun w hl hm => rbefore_ok q r m N H y b k R w hl hwf hN hH hm (by omega) hk L1 L2 hR h2.2⟩
    · exact ⟨-41, R, fun w hl => before_obj p m N H y b R w hl (by omega) (by omega) h2, fun w hl hm => rbefore_obj q r m N H y b R w hl hwf hN hH (by omega) (by omega) h2⟩
  · exact ⟨-17, R, fun w hl => before_par p m N H x a R w hl h1, fun w hl hm => rbefore_par q r m N H x a R w hl h1⟩

theorem op_remove (p m q r N H : Nat) (x : Int) (R : Nat → List Nat) (hwf : Wf N H R) (hN : N ≤ 1024) (hH : H ≤ 64) :
    ∃ (c : Int) (R' : Nat → List Nat), (∀ w, Lst w p m N H R → Calls Try.prog 18 #[.pointer (some ⟨p, 0, none⟩), .int .i64 x] w (Did p m N H R' c w)) ∧
      (∀ w, Rf w q r m N H R → m < w.heap.size → Calls Try.prog 19 #[.pointer (some ⟨q, 0, none⟩), .int .i64 x] w (DidR q r m N H R' c w)) := by
  by_cases h1 : 0 ≤ x ∧ x < N
  · obtain ⟨y, rfl⟩ : ∃ y : Nat, x = y := ⟨x.toNat, by omega⟩
    by_cases h2 : Inn H R y
    · obtain ⟨k, L1, L2, hk, hR⟩ := inn_part h2
      exact ⟨0, _, fun w hl => remove_ok p m N H y k R w hl hk L1 L2 hR, fun w hl hm => rremove_ok q r m N H k y R w hl hwf hN hm hk hH L1 L2 hR⟩
    · exact ⟨-41, R, fun w hl => (remove_obj p m N H y R w hl (by omega) h2).mono (by rintro e w' ⟨he, rfl⟩; exact ⟨he, hl, Only.refl _ _ _⟩), fun w hl hm => rremove_obj q r m N H y R w hl hwf hN hH (by omega) h2⟩
  · exact ⟨-17, R, fun w hl => (remove_par p m N H x R w hl h1).mono (by rintro e w' ⟨he, rfl⟩; exact ⟨he, hl, Only.refl _ _ _⟩), fun w hl hm => rremove_par q r m N H x R w hl h1⟩
end Go.Proofs.Ytmfjhckacmdijaa.listPlays
