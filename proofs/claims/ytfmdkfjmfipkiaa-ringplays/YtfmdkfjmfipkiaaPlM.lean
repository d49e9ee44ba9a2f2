/-
  detentlaw6.RingPlays: the walk.
-/
import Derived.Test.YtfmdkfjmfipkiaaPlO
namespace Go.Proofs.Ytfmdkfjmfipkiaa.ringPlays
open Go.RowKit
set_option linter.unusedVariables false

def Post (w : World) (e : Ending) (w' : World) : Prop := e = .returned (.bool true) ∧ Below w.heap.size w w'

theorem msgs {w : World} {p m N : Nat} {c : Int} {L : List (List Int)} (h : Rg w p m N c L) : ∀ x, x ∈ L → x.length ≤ 1024 := by obtain ⟨F, f, _, hg⟩ := h; exact hg.msg
theorem lens {w : World} {p m N : Nat} {c : Int} {L : List (List Int)} (h : Rg w p m N c L) : 4 * L.length ≤ N := Nat.le_trans (tot_len L) h.fit

/-- what both rings tell -/
structure Tell (W : World) (p q N ln : Nat) (X : Option Addr) (k : Nat) (fr : Int) (fb : Bool) (z : Int) : Prop where
  len : ∀ d, Calls Try.prog 15 #[.pointer (some ⟨p, 0, none⟩)] (W.drewN d) fun e w' => e = .returned (.int .i64 (ln : Int)) ∧ w' = W.drewN d
  free : ∀ d, Calls Try.prog 16 #[.pointer (some ⟨p, 0, none⟩)] (W.drewN d) fun e w' => e = .returned (.int .i64 fr) ∧ ∃ n, w' = (W.drewN d).drewN n
  rfree : ∀ d, Calls Try.prog 17 #[.pointer (some ⟨q, 0, none⟩)] (W.drewN d) fun e w' => e = .returned (.int .i64 fr) ∧ w' = W.drewN d
  fits : ∀ d, Calls Try.prog 18 #[.pointer (some ⟨p, 0, none⟩), .int .i64 z] (W.drewN d) fun e w' => e = .returned (.bool fb) ∧ ∃ n, w' = (W.drewN d).drewN n
  rfits : ∀ d, Calls Try.prog 19 #[.pointer (some ⟨q, 0, none⟩), .int .i64 z] (W.drewN d) fun e w' => e = .returned (.bool fb) ∧ w' = W.drewN d
  size : ∀ d, Calls Try.prog 20 #[.pointer (some ⟨p, 0, none⟩)] (W.drewN d) fun e w' => e = .returned (.int .i64 (N : Int)) ∧ w' = W.drewN d
  cell : W.cell? ⟨q, 1, none⟩ = some (.slice X ln k)
  ll : ln ≤ 65536

theorem tell {W : World} {p m q N : Nat} {c : Int} {L : List (List Int)} (hg : Rg W p m N c L) (hr : Rf W q N L) (hN : N ≤ 65536) (z : Int) : ∃ (ln : Nat) (X : Option Addr) (k : Nat) (fr : Int) (fb : Bool), Tell W p q N ln X k fr fb z := by
  obtain ⟨X, k, _, c1, _⟩ := hr.open
  have hl := lens hg
  exact ⟨L.length, X, k, (N : Int) - (tot L : Int), fits N (tot L) z,
    fun d => call_sym (glen_any (hg.drewN d)), fun d => gfree_any (hg.drewN d) hN, fun d => call_sym (rfree_any q N L _ (hr.drewN d) hg.fit hN (msgs hg)),
    fun d => gfits_any (hg.drewN d) hN z, fun d => call_sym (rfits_any q N L _ (hr.drewN d) hg.fit hN (msgs hg) z _ rfl), fun d => call_sym (gsize_any (hg.drewN d)), c1, by omega⟩

theorem put_b (p m N n cap : Nat) (c : Int) (L : List (List Int)) (q : Nat → Int) (A : Option Addr) (w : World) (h : Rg w p m N c L) (hs : Src w p m A n q) (hcap : n ≤ cap) (hN : N ≤ 65536) (hc0 : 0 ≤ c) (hc1 : c ≤ 10000000000) :
    Calls Try.prog 10 #[.pointer (some ⟨p, 0, none⟩), .slice A n cap] w fun e w' => ∃ c', c ≤ c' ∧ c' ≤ c + 2000 ∧ e = .returned (.bool (fits N (tot L) (n : Int))) ∧ Rg w' p m N c' (putL N L (mkm n q)) ∧ Only p m w w' := by
  have := put_any p m N n cap c L q A w h hs hcap hN hc0 hc1
  unfold PutPost at this
  rw [mkm_len] at this
  exact this

def PlRel (q n N : Nat) (w : World) (rv i : Value) (wr : World) : Prop :=
  ∃ (p m t : Nat) (c : Int) (L : List (List Int)), t ≤ n ∧ rv = .pointer (some ⟨p, 0, none⟩) ∧ i = .int .i64 (t : Int) ∧ w.heap.size ≤ p ∧ w.heap.size ≤ m ∧ 0 ≤ c ∧ c ≤ 2000 * t ∧ Rg wr p m N c L ∧ Rf wr q N L ∧ Below w.heap.size w wr
theorem below_drewN {B : Nat} {a w : World} (h : Below B a w) (n : Nat) : Below B a (w.drewN n) := ⟨h.os, h.tape, h.output, h.size, h.block⟩

theorem ck_only {W W' : World} {s o p m : Nat} {v : Value} (ho : Only p m W W') (hp : s ≠ p) (hm : s ≠ m) (h : W.cell? ⟨s, o, none⟩ = some v) : W'.cell? ⟨s, o, none⟩ = some v :=
  (ho.cell (q := ⟨s, o, none⟩) (block_lt_of_cell h) hp hm).trans h

set_option maxHeartbeats 6400000 in
set_option maxRecDepth 100000 in
theorem walkIn (N n cap b o : Nat) (A : Option Addr) (z : Int) (op : Nat → Int) (SA : Nat → Option Addr) (sn sk : Nat → Nat) (qq : Nat → Nat → Int) (w : World)
    (hA : 0 < n → A = some ⟨b, o, none⟩ ∧ Acts w b o n op SA sn sk qq) (hn : n ≤ 80) (hN : N ≤ 4000) (h4 : N % 4 = 0) :
    Calls Try.prog 3 #[.int .i64 (N : Int), .slice A n cap, .int .i64 z] w (Post w) := by
  have t1 : decide ((80 : Int) < (n : Int)) = false := by simp; omega
  have t1' : decide (80 < n) = false := by simp; omega
  have t2 : decide ((4000 : Int) < (N : Int)) = false := by simp; omega
  have HA := Lib.hid hA
  have H4 := Lib.hid h4
  clear hA h4
  go_enter Try.func3, Try.ntmps3
  go_wp2_with fail
  refine (known_any _).mono ?_
  rintro e w0 ⟨rfl, hb0⟩
  have HB0 := Lib.hid hb0
  clear hb0
  go_wp2_with fail
  refine (gnew_ok N (by omega) H4.out _ rfl w0).mono ?_
  rintro e w1 ⟨p, m, hp, hm, rfl, ha1, hb1⟩
  have hpw : w.heap.size ≤ p := Nat.le_trans HB0.out.size hp
  have hmw : w.heap.size ≤ m := Nat.le_trans HB0.out.size hm
  have HB1 := Lib.hid (HB0.out.trans (hb1.mono HB0.out.size))
  have HA1 := Lib.hid ha1
  clear ha1 hb1 HB0 hp hm t1 t1' t2
  go_wp2_with fail
  refine (rnew_ok N (by omega) H4.out w1).mono ?_
  rintro e w2 ⟨rfl, hr2, hb2⟩
  have HA2 := Lib.hid (HA1.out.below hb2)
  have HR2 := Lib.hid hr2
  have HB2 := Lib.hid (HB1.out.trans (hb2.mono HB1.out.size))
  have hqw : w.heap.size ≤ w1.heap.size := HB1.out.size
  clear hr2 hb2 HA1 HB1
  generalize w1.heap.size = q at *
  go_wp2
  go_loopw [7, 11] (fun rv i wr => PlRel q n N w rv i wr) (fun _ i _ => n - (intOf i).toNat)
  case atStart => exact ⟨p, m, 0, 0, [], Nat.zero_le _, rfl, rfl, hpw, hmw, by omega, by omega, HA2.out, HR2.out, HB2.out⟩
  case round =>
    clear HA2 HR2 HB2 hpw hmw
    obtain ⟨p, m, t, c, L, ht, rfl, rfl, hpw, hmw, hc0, hc1, hg3, hr3, hb3⟩ := hrel
    have HB3 := Lib.hid hb3
    have HG3 := Lib.hid hg3
    have HR3 := Lib.hid hr3
    clear hg3 hr3
    by_cases hlt : t < n
    · obtain ⟨rfl, hac⟩ := HA.out (by omega)
      have hlb := hac.hlt t hlt
      have k0 := (hb3.cell (p := ⟨b, o + t * 2, none⟩) hlb).trans (hac.c0 t hlt)
      have k1 := (hb3.cell (p := ⟨b, o + t * 2 + 1, none⟩) hlb).trans (hac.c1 t hlt)
      obtain ⟨hcp1, hcp2⟩ := hac.cap t hlt
      have HS := Lib.hid (hac.src t hlt)
      clear hac hb3
      generalize op t = x0 at *
      generalize SA t = A1 at *
      generalize sn t = n1 at *
      generalize sk t = s1 at *
      generalize qq t = f1 at *
      by_cases hbig : 1100 < n1
      · have g1 : (1100 : Int) < (n1 : Int) := by omega
        go_wp2
        go_ret
        exact ⟨rfl, HB3.out⟩
      have g1 : decide ((1100 : Int) < (n1 : Int)) = false := by simp; omega
      have g1' : decide (1100 < n1) = false := by simp; omega
      have bp : b ≠ p := by omega
      have bm : b ≠ m := by omega
      have bq : b ≠ q := by omega
      by_cases hop1 : x0 = 1
      · have hop := hop1
        clear hop1
        subst hop
        go_wp2
        have hs3 := (HS.out.later HB3.out hpw hmw).drew
        have hg3 := HG3.out.drew
        have hr3 : Rf wr.drew q N L := HR3.out
        have c1 : wr.drew.cell? ⟨b, o + t * 2 + 1, none⟩ = some (.slice A1 n1 s1) := k1
        clear k0
        go_region_held3 (fun W => W.cell? ⟨b, o + t * 2 + 1, none⟩ = some (.slice A1 n1 s1) ∧ True)
          (first | exact ⟨c1, trivial⟩ | exact ⟨ck_only ho6 bq bq (ck_only ho5 bp bm c1), trivial⟩ | exact ⟨ck_only ho5 bp bm c1, trivial⟩)
          (first
            | (go_at_call 10; refine (put_b p m N n1 s1 c L f1 A1 _ (by exact hg3) (by exact hs3) hcp1 (by omega) hc0 (by omega)).mono ?_; rintro e w5 ⟨c5, h51, h52, rfl, hg5, ho5⟩; have hb5 := HB3.out.drew.trans (ho5.below HB3.out.size hpw hmw))
            | (go_at_call 11; refine (rput_any q N n1 s1 L f1 A1 _ (by exact hr3.only hg3 ho5) (by exact HS.out.later hb5 hqw hqw) hg3.fit (by omega) (msgs hg3)).mono ?_; rintro e w6 ⟨rfl, hr6, ho6⟩))
        have hr5 := hr3.only hg3 ho5
        have hg6 := hg5.ronly hr5 ho6
        have hb6 := hb5.trans (ho6.below hb5.size hqw hqw)
        clear hr5 hg5 ho5 ho6 hb5 hs3 hg3 hr3 c1 k1 HB3 HG3 HR3 HS
        generalize putL N L (mkm n1 f1) = M at *
        obtain ⟨ln, X, k, fr, fb, hT⟩ := tell (p := p) (m := m) hg6 hr6 (by omega) z
        have T := Lib.hid hT
        have cq := hT.cell
        have ll := hT.ll
        have HG6 := Lib.hid hg6
        have HR6 := Lib.hid hr6
        have HB6 := Lib.hid hb6
        clear hT hg6 hr6 hb6
        go_wp2
        go_quiet (first | (go_at_call 15; exact Calls.quiet_of_same (T.out.len _)) | (go_at_call 16; exact Calls.quiet_of (T.out.free _)) | (go_at_call 17; exact Calls.quiet_of_same (T.out.rfree _)) | (go_at_call 18; exact Calls.quiet_of (T.out.fits _)) | (go_at_call 19; exact Calls.quiet_of_same (T.out.rfits _)) | (go_at_call 20; exact Calls.quiet_of_same (T.out.size _)))
        go_wp2
        go_roundw
        case rel => exact ⟨p, m, t + 1, c5, M, by omega, rfl, by go_num, hpw, hmw, by omega, by omega, HG6.out.drewN _, HR6.out.drewN _, below_drewN HB6.out _⟩
        case measure => simp [intOf] <;> omega
      by_cases hop2 : x0 = 2
      · have hop := hop2
        clear hop2 hop1
        subst hop
        cases L with
        | nil =>
          have hnil := run_str (A := none) (n := 0) (cap := 0) (p := 0) (m := 0) (f := fun _ => 0) (W := wr) (fun h => absurd h (by omega))
          go_wp2_with fail
          refine (get_nil p m N c wr HG3.out).mono ?_
          rintro e w5 ⟨rfl, rfl⟩
          go_wp2_with fail
          refine (rget_none q N wr HR3.out).mono ?_
          rintro e w5 ⟨rfl, rfl⟩
          have hg6 := HG3.out
          have hr6 := HR3.out
          have hb6 := HB3.out
          clear k0 k1 HG3 HR3 HB3
          obtain ⟨ln, X, k, fr, fb, hT⟩ := tell (p := p) (m := m) hg6 hr6 (by omega) z
          have T := Lib.hid hT
          have cq := hT.cell
          have ll := hT.ll
          have HG6 := Lib.hid hg6
          have HR6 := Lib.hid hr6
          have HB6 := Lib.hid hb6
          clear hT hg6 hr6 hb6
          go_wp2
          go_quiet (first | (go_at_call 15; exact Calls.quiet_of_same (T.out.len _)) | (go_at_call 16; exact Calls.quiet_of (T.out.free _)) | (go_at_call 17; exact Calls.quiet_of_same (T.out.rfree _)) | (go_at_call 18; exact Calls.quiet_of (T.out.fits _)) | (go_at_call 19; exact Calls.quiet_of_same (T.out.rfits _)) | (go_at_call 20; exact Calls.quiet_of_same (T.out.size _)))
          go_wp2
          go_roundw
          case rel => exact ⟨p, m, t + 1, c, [], by omega, rfl, by go_num, hpw, hmw, by omega, by omega, HG6.out.drewN _, HR6.out.drewN _, below_drewN HB6.out _⟩
          case measure => simp [intOf] <;> omega
        | cons x L =>
          have hlen := lens HG3.out
          rw [List.length_cons] at hlen
          have hll : L.length ≤ 20000 := by omega
          have lq := HR3.out.lt
          clear hlen
          go_wp2_with fail
          refine (get_some p m N c x L wr HG3.out (by omega) hc0 (by omega)).mono ?_
          rintro e w5 ⟨g, k5, c5, h51, h52, hg, hk1, hk2, rfl, hg5, hrow5, ho5⟩
          have hr5 := HR3.out.only HG3.out ho5
          have hb5 := HB3.out.trans (ho5.below HB3.out.size hpw hmw)
          have gq : g ≠ q := by omega
          clear k0 k1 HG3 HR3 HB3 ho5
          have HG5 := Lib.hid hg5
          have HROW5 := Lib.hid hrow5
          have HR5 := Lib.hid hr5
          have HB5 := Lib.hid hb5
          clear hg5 hrow5 hr5 hb5
          go_wp2_with fail
          refine (rget_some q N x L w5 HR5.out hll).mono ?_
          rintro e w6 ⟨g2, k6, hg2, rfl, hbk, hr6, ho6⟩
          have hg6 := HG5.out.ronly HR5.out ho6
          have hb6 := HB5.out.trans (ho6.below HB5.out.size hqw hqw)
          have e1 : (convert 31 9 (.slice (some ⟨g, 0, none⟩) x.length k5)).run Try.prog w6 = .ok (.string (str x)) w6 := run_str (cap := k5) (HROW5.out.only ho6 gq gq).src
          have e2 := hbk.str (cap := k6) (str_size x)
          clear HG5 HR5 HB5 HROW5 ho6 hbk
          generalize str x = sx at *
          obtain ⟨ln, X, k, fr, fb, hT⟩ := tell (p := p) (m := m) hg6 hr6 (by omega) z
          have T := Lib.hid hT
          have cq := hT.cell
          have ll := hT.ll
          have HG6 := Lib.hid hg6
          have HR6 := Lib.hid hr6
          have HB6 := Lib.hid hb6
          clear hT hg6 hr6 hb6
          go_wp2
          go_quiet (first | (go_at_call 15; exact Calls.quiet_of_same (T.out.len _)) | (go_at_call 16; exact Calls.quiet_of (T.out.free _)) | (go_at_call 17; exact Calls.quiet_of_same (T.out.rfree _)) | (go_at_call 18; exact Calls.quiet_of (T.out.fits _)) | (go_at_call 19; exact Calls.quiet_of_same (T.out.rfits _)) | (go_at_call 20; exact Calls.quiet_of_same (T.out.size _)))
          go_wp2
          go_roundw
          case rel => exact ⟨p, m, t + 1, c5, L, by omega, rfl, by go_num, hpw, hmw, by omega, by omega, HG6.out.drewN _, HR6.out.drewN _, below_drewN HB6.out _⟩
          case measure => simp [intOf] <;> omega
      by_cases hop3 : x0 = 3
      · have hop := hop3
        clear hop3 hop2 hop1
        subst hop
        go_wp2_with fail
        refine (gtwin_any HG3.out (by omega)).mono ?_
        rintro e w5 ⟨p2, m2, hp2, hm2, rfl, hg5, hb5⟩
        have lp := HG3.out.ltp
        have lm := HG3.out.ltm
        have hp2w : w.heap.size ≤ p2 := Nat.le_trans HB3.out.size hp2
        have hm2w : w.heap.size ≤ m2 := Nat.le_trans HB3.out.size hm2
        have n1 : p2 ≠ p := by omega
        have n2 : p2 ≠ m := by omega
        have n3 : m2 ≠ p := by omega
        have n4 : m2 ≠ m := by omega
        have HE := Lib.hid (HG3.out.below hb5)
        have HT := Lib.hid hg5
        have HR := Lib.hid (HR3.out.below hb5)
        have HB := Lib.hid (HB3.out.trans (hb5.mono HB3.out.size))
        clear hg5 hb5 HG3 HR3 HB3 k0 k1 hp2 hm2
        go_wp2
        go_loopw [17] (fun kv wr => ∃ (s : Nat) (c2 : Int) (M : List (List Int)), s ≤ 200 ∧ kv = .int .i64 (s : Int) ∧ 0 ≤ c2 ∧ c2 ≤ c + 2000 * s ∧ Rg wr p m N c2 M ∧ Rg wr p2 m2 N c L ∧ Rf wr q N L ∧ Below w.heap.size w wr) (fun kv _ => 200 - (intOf kv).toNat)
        case atStart => exact ⟨0, c, L, Nat.zero_le _, rfl, hc0, by omega, HE.out, HT.out, HR.out, HB.out⟩
        case round =>
          obtain ⟨s, c2, M, hs, rfl, hc20, hc21, he9, ht9, hr9, hb9⟩ := hrel
          have HE9 := Lib.hid he9
          have HT9 := Lib.hid ht9
          have HR9 := Lib.hid hr9
          have HB9 := Lib.hid hb9
          clear he9 ht9 hr9 hb9 HE HT HR HB
          by_cases hs200 : s < 200
          · cases M with
            | nil =>
              go_wp2_with fail
              refine (glen_any HE9.out).mono ?_
              rintro e w6 ⟨rfl, rfl⟩
              have hg6 := HT9.out
              have hr6 := HR9.out
              have hb6 := HB9.out
              clear HE9 HT9 HR9 HB9
              obtain ⟨ln, X, k, fr, fb, hT⟩ := tell (p := p2) (m := m2) hg6 hr6 (by omega) z
              have T := Lib.hid hT
              have cq := hT.cell
              have ll := hT.ll
              have HG6 := Lib.hid hg6
              have HR6 := Lib.hid hr6
              have HB6 := Lib.hid hb6
              clear hT hg6 hr6 hb6
              go_wp2
              go_quiet (first | (go_at_call 15; exact Calls.quiet_of_same (T.out.len _)) | (go_at_call 16; exact Calls.quiet_of (T.out.free _)) | (go_at_call 17; exact Calls.quiet_of_same (T.out.rfree _)) | (go_at_call 18; exact Calls.quiet_of (T.out.fits _)) | (go_at_call 19; exact Calls.quiet_of_same (T.out.rfits _)) | (go_at_call 20; exact Calls.quiet_of_same (T.out.size _)))
              go_wp2
              go_roundw
              case rel => exact ⟨p2, m2, t + 1, c, L, by omega, rfl, by go_num, hp2w, hm2w, by omega, by omega, HG6.out.drewN _, HR6.out.drewN _, below_drewN HB6.out _⟩
              case measure => simp [intOf] <;> omega
            | cons y M =>
              have HLN := Lib.hid (glen_any HE9.out)
              have HGT := Lib.hid (get_some p m N c2 y M wr HE9.out (by omega) hc20 (by omega))
              obtain ⟨ly, hly⟩ : ∃ ly, (y :: M).length = ly := ⟨_, rfl⟩
              have hpos : (0 : Int) < (ly : Int) := by rw [← hly, List.length_cons]; omega
              have hpos2 : 0 < ly := by omega
              rw [hly] at HLN
              clear hly
              go_wp2_with fail
              refine HLN.out.mono ?_
              rintro e w6 ⟨rfl, rfl⟩
              go_wp2_with fail
              refine HGT.out.mono ?_
              rintro e w6 ⟨g, k5, c5, h51, h52, hg, hk1, hk2, rfl, hg5, hrow5, ho5⟩
              have HE6 := Lib.hid hg5
              have HT6 := Lib.hid (HT9.out.only ho5 n1 n2 n3 n4)
              have HR6 := Lib.hid (HR9.out.only HE9.out ho5)
              have HB6 := Lib.hid (HB9.out.trans (ho5.below HB9.out.size hpw hmw))
              clear hg5 hrow5 ho5 HE9 HT9 HR9 HB9 HLN HGT
              go_wp2
              go_roundw
              case rel => exact ⟨s + 1, c5, M, by omega, by go_num, by omega, by omega, HE6.out, HT6.out, HR6.out, HB6.out⟩
              case measure => simp [intOf] <;> omega
          · have s1 : decide ((s : Int) < 200) = false := by simp; omega
            have s2 : decide (s < 200) = false := by simp; omega
            have hg6 := HT9.out
            have hr6 := HR9.out
            have hb6 := HB9.out
            clear HE9 HT9 HR9 HB9 hs200
            obtain ⟨ln, X, k, fr, fb, hT⟩ := tell (p := p2) (m := m2) hg6 hr6 (by omega) z
            have T := Lib.hid hT
            have cq := hT.cell
            have ll := hT.ll
            have HG6 := Lib.hid hg6
            have HR6 := Lib.hid hr6
            have HB6 := Lib.hid hb6
            clear hT hg6 hr6 hb6
            go_wp2
            go_quiet (first | (go_at_call 15; exact Calls.quiet_of_same (T.out.len _)) | (go_at_call 16; exact Calls.quiet_of (T.out.free _)) | (go_at_call 17; exact Calls.quiet_of_same (T.out.rfree _)) | (go_at_call 18; exact Calls.quiet_of (T.out.fits _)) | (go_at_call 19; exact Calls.quiet_of_same (T.out.rfits _)) | (go_at_call 20; exact Calls.quiet_of_same (T.out.size _)))
            go_wp2
            go_roundw
            case rel => exact ⟨p2, m2, t + 1, c, L, by omega, rfl, by go_num, hp2w, hm2w, by omega, by omega, HG6.out.drewN _, HR6.out.drewN _, below_drewN HB6.out _⟩
            case measure => simp [intOf] <;> omega
      have f1 : (x0 == 1) = false := by simpa using hop1
      have f2 : (x0 == 2) = false := by simpa using hop2
      have f3 : (x0 == 3) = false := by simpa using hop3
      have hg6 := HG3.out
      have hr6 := HR3.out
      have hb6 := HB3.out
      clear HG3 HR3 HB3 hop1 hop2 hop3
      obtain ⟨ln, X, k, fr, fb, hT⟩ := tell (p := p) (m := m) hg6 hr6 (by omega) z
      have T := Lib.hid hT
      have cq := hT.cell
      have ll := hT.ll
      have HG6 := Lib.hid hg6
      have HR6 := Lib.hid hr6
      have HB6 := Lib.hid hb6
      clear hT hg6 hr6 hb6
      go_wp2
      go_quiet (first | (go_at_call 15; exact Calls.quiet_of_same (T.out.len _)) | (go_at_call 16; exact Calls.quiet_of (T.out.free _)) | (go_at_call 17; exact Calls.quiet_of_same (T.out.rfree _)) | (go_at_call 18; exact Calls.quiet_of (T.out.fits _)) | (go_at_call 19; exact Calls.quiet_of_same (T.out.rfits _)) | (go_at_call 20; exact Calls.quiet_of_same (T.out.size _)))
      go_wp2
      go_roundw
      case rel => exact ⟨p, m, t + 1, c, L, by omega, rfl, by go_num, hpw, hmw, by omega, by omega, HG6.out.drewN _, HR6.out.drewN _, below_drewN HB6.out _⟩
      case measure => simp [intOf] <;> omega
    · go_wp2
      go_ret
      exact ⟨rfl, HB3.out⟩

set_option maxHeartbeats 800000 in
theorem walkOut (a z : Int) (A : Option Addr) (n cap : Nat) (w : World) (hn : n ≤ 9223372036854775807) (h : 80 < n ∨ (n ≤ 80 ∧ 4000 < a ∧ a ≤ 65536)) :
    Calls Try.prog 3 #[.int .i64 a, .slice A n cap, .int .i64 z] w (Post w) := by
  rcases h with h | ⟨h1, h2, h3⟩
  · have t1 : (80 : Int) < (n : Int) := by omega
    go_enter Try.func3, Try.ntmps3
    go_wp2_with fail
    refine (known_any _).mono ?_
    rintro e w0 ⟨rfl, hb0⟩
    go_wp2
    go_ret
    exact ⟨rfl, hb0⟩
  · have t1 : decide ((80 : Int) < (n : Int)) = false := by simp; omega
    have t1' : decide (80 < n) = false := by simp; omega
    have t2 : decide (4000 < a) = true := by simpa using h2
    have t3 : decide (a ≤ 65536) = true := by simpa using h3
    go_enter Try.func3, Try.ntmps3
    go_wp2_with fail
    refine (known_any _).mono ?_
    rintro e w0 ⟨rfl, hb0⟩
    go_wp2
    go_ret
    exact ⟨rfl, hb0⟩

set_option maxHeartbeats 800000 in
theorem walkBad (a z : Int) (A : Option Addr) (n cap : Nat) (w : World) (h0 : -9223372036854775808 ≤ a) (h1 : a ≤ 9223372036854775807) (hn : n ≤ 80) (h : (a ≤ 4000 ∧ (a < 0 ∨ a % 4 ≠ 0)) ∨ 65536 < a) :
    Calls Try.prog 3 #[.int .i64 a, .slice A n cap, .int .i64 z] w (Post w) := by
  have t1 : decide ((80 : Int) < (n : Int)) = false := by simp; omega
  have t1' : decide (80 < n) = false := by simp; omega
  have HG := Lib.hid (fun w => gnew_bad a h0 h1 (by omega) w)
  have HR := Lib.hid (fun w => rnew_bad a (by omega) w)
  have key : decide (4000 < a) = false ∨ (decide (4000 < a) = true ∧ decide (a ≤ 65536) = false) := by
    rcases h with h | h
    · left; simp; omega
    · right; simp; omega
  clear h
  rcases key with k1 | ⟨k1, k2⟩
  all_goals
    go_enter Try.func3, Try.ntmps3
    go_wp2_with fail
    refine (known_any _).mono ?_
    rintro e w0 ⟨rfl, hb0⟩
    have HB0 := Lib.hid hb0
    clear hb0
    go_wp2_with fail
    refine (HG.out _).mono ?_
    rintro e w1 ⟨rfl, rfl⟩
    go_wp2_with fail
    refine (HR.out _).mono ?_
    rintro e w1 ⟨rfl, rfl⟩
    go_wp2
    go_ret
    exact ⟨rfl, HB0.out⟩
end Go.Proofs.Ytfmdkfjmfipkiaa.ringPlays
