/- A task by itself: its three counts, its state, whether it sleeps; what each call makes of it, and answers. No Go. -/
namespace Go.Proofs.Ytjiiopnlcohilaa

/-- acts, wups, susps; the state's number; asleep -/
structure St where
  A : Int
  W : Int
  S : Int
  X : Int
  z : Bool

/-- what a task can be -/
def Good (s : St) : Prop :=
  (0 ≤ s.A ∧ s.A ≤ 7) ∧ (0 ≤ s.W ∧ s.W ≤ 7) ∧ (0 ≤ s.S ∧ s.S ≤ 7) ∧
  ((s.X = 2 ∧ s.S = 0 ∧ s.z = false) ∨ (s.X = 4 ∧ s.S = 0) ∨ (s.X = 8 ∧ 1 ≤ s.S ∧ s.z = false) ∨ (s.X = 12 ∧ 1 ≤ s.S) ∨
    (s.X = 16 ∧ s.A = 0 ∧ s.W = 0 ∧ s.S = 0 ∧ s.z = false))

def born : St := ⟨0, 0, 0, 16, false⟩
/-- what is left behind an end -/
def over (s : St) : St := if s.A ≤ 0 then ⟨s.A, 0, 0, 16, false⟩ else ⟨s.A - 1, 0, 0, 2, false⟩
def act (s : St) : St × Bool × Int :=
  if s.X = 16 then ({ s with X := 2 }, true, 0) else if 7 ≤ s.A then (s, false, -43) else ({ s with A := s.A + 1 }, false, 0)
def canAct (s : St) : St := { s with A := 0 }
def endS (s : St) : St × Bool := if s.X = 2 then (over s, decide (0 < s.A)) else (s, false)
def kill (s : St) : St × Bool × Int := if s.X = 16 then (s, false, -41) else (over s, decide (0 < s.A), 0)
def sleep (s : St) : St × Bool × Int :=
  if s.X = 2 then if 0 < s.W then ({ s with W := s.W - 1 }, false, 0) else ({ s with X := 4, z := true }, true, 0) else (s, false, -41)
def stay (s : St) : St × Int := if s.X = 2 then ({ s with X := 4, z := false }, 0) else (s, -41)
def release (s : St) : St × Bool :=
  if s.X = 4 then ({ s with X := 2, z := false }, true) else if s.X = 12 then ({ s with X := 8, z := false }, true) else (s, false)
def wake (s : St) : St × Bool × Int :=
  if s.X = 16 then (s, false, -41) else if s.z = true then ((release s).1, true, 0)
  else if 7 ≤ s.W then (s, false, -43) else ({ s with W := s.W + 1 }, false, 0)
def canWake (s : St) : St × Int × Int := if s.X = 16 then (s, 0, -41) else ({ s with W := 0 }, s.W, 0)
def suspend (s : St) : St × Int :=
  if s.X = 16 then (s, -41) else if 7 ≤ s.S then (s, -43)
  else if s.X = 2 then ({ s with S := s.S + 1, X := 8 }, 0) else if s.X = 4 then ({ s with S := s.S + 1, X := 12 }, 0)
  else ({ s with S := s.S + 1 }, 0)
def resume (s : St) (all : Bool) : St × Bool × Int :=
  if s.X = 8 then if all = true ∨ s.S = 1 then ({ s with S := 0, X := 2 }, true, 0) else ({ s with S := s.S - 1 }, false, 0)
  else if s.X = 12 then if all = true ∨ s.S = 1 then ({ s with S := 0, X := 4 }, false, 0) else ({ s with S := s.S - 1 }, false, 0)
  else (s, false, -41)

def flagOf (b : Bool) : Int := if b = true then 1 else 0
/-- an act by its number: the state behind it, and the two numbers that it answers -/
def step (a : Int) (s : St) : St × Int × Int :=
  if a = 0 then ((act s).1, flagOf (act s).2.1, (act s).2.2)
  else if a = 1 then (canAct s, s.A, 0)
  else if a = 2 then ((endS s).1, flagOf (endS s).2, 0)
  else if a = 3 then ((kill s).1, flagOf (kill s).2.1, (kill s).2.2)
  else if a = 4 then ((sleep s).1, flagOf (sleep s).2.1, (sleep s).2.2)
  else if a = 5 then ((stay s).1, 0, (stay s).2)
  else if a = 6 then ((wake s).1, flagOf (wake s).2.1, (wake s).2.2)
  else if a = 7 then ((canWake s).1, (canWake s).2.1, (canWake s).2.2)
  else if a = 8 then ((release s).1, flagOf (release s).2, 0)
  else if a = 9 then ((suspend s).1, 0, (suspend s).2)
  else if a = 10 then ((resume s false).1, flagOf (resume s false).2.1, (resume s false).2.2)
  else if a = 11 then ((resume s true).1, flagOf (resume s true).2.1, (resume s true).2.2)
  else (s, 0, 0)

theorem good_born : Good born := by unfold Good born; simp
theorem good_over {s : St} (h : Good s) : Good (over s) := by
  obtain ⟨A, W, S, X, z⟩ := s
  unfold Good over at *; dsimp only at *
  split <;> simp <;> omega
theorem good_act {s : St} (h : Good s) : Good (act s).1 := by
  obtain ⟨A, W, S, X, z⟩ := s
  unfold act
  dsimp only
  split
  · rename_i e
    obtain ⟨h1, h2, h3, h4⟩ := h
    dsimp only at *
    subst e
    refine ⟨h1, h2, h3, .inl ?_⟩
    rcases h4 with h | h | h | h | h
    · exact absurd h.1 (by decide)
    · exact absurd h.1 (by decide)
    · exact absurd h.1 (by decide)
    · exact absurd h.1 (by decide)
    · exact ⟨rfl, h.2.2.2⟩
  · split
    · exact h
    · rename_i e1 e2
      obtain ⟨h1, h2, h3, h4⟩ := h
      dsimp only at *
      refine ⟨⟨by dsimp only; omega, by dsimp only; omega⟩, h2, h3, ?_⟩
      rcases h4 with h | h | h | h | h
      · exact .inl h
      · exact .inr (.inl h)
      · exact .inr (.inr (.inl h))
      · exact .inr (.inr (.inr (.inl h)))
      · exact absurd h.1 e1
theorem good_canAct {s : St} (h : Good s) : Good (canAct s) := by
  obtain ⟨A, W, S, X, z⟩ := s
  obtain ⟨h1, h2, h3, h4⟩ := h
  dsimp only at *
  unfold canAct Good; dsimp only
  rcases h4 with ⟨rfl, rfl, rfl⟩ | ⟨rfl, rfl⟩ | ⟨rfl, h4, rfl⟩ | ⟨rfl, h4⟩ | ⟨rfl, rfl, rfl, rfl, rfl⟩
  all_goals simp <;> omega
theorem good_end {s : St} (h : Good s) : Good (endS s).1 := by
  unfold endS; split
  · exact good_over h
  · exact h
theorem good_kill {s : St} (h : Good s) : Good (kill s).1 := by
  unfold kill; split
  · exact h
  · exact good_over h
theorem good_sleep {s : St} (h : Good s) : Good (sleep s).1 := by
  obtain ⟨A, W, S, X, z⟩ := s
  obtain ⟨h1, h2, h3, h4⟩ := h
  dsimp only at *
  unfold sleep Good; dsimp only
  rcases h4 with ⟨rfl, rfl, rfl⟩ | ⟨rfl, rfl⟩ | ⟨rfl, h4, rfl⟩ | ⟨rfl, h4⟩ | ⟨rfl, rfl, rfl, rfl, rfl⟩
  · by_cases c : 0 < W <;> simp [c] <;> omega
  all_goals simp <;> omega
theorem good_stay {s : St} (h : Good s) : Good (stay s).1 := by
  obtain ⟨A, W, S, X, z⟩ := s
  unfold Good stay at *; dsimp only at *
  split <;> simp_all
theorem good_release {s : St} (h : Good s) : Good (release s).1 := by
  obtain ⟨A, W, S, X, z⟩ := s
  unfold Good release at *; dsimp only at *
  split <;> (try split) <;> simp_all
theorem good_wake {s : St} (h : Good s) : Good (wake s).1 := by
  unfold wake
  split
  · exact h
  split
  · exact good_release h
  split
  · exact h
  · rename_i h1 h2 h3
    obtain ⟨A, W, S, X, z⟩ := s
    unfold Good at *; dsimp only at *; simp_all; omega
theorem good_canWake {s : St} (h : Good s) : Good (canWake s).1 := by
  obtain ⟨A, W, S, X, z⟩ := s
  unfold Good canWake at *; dsimp only at *
  split <;> simp_all
theorem good_suspend {s : St} (h : Good s) : Good (suspend s).1 := by
  obtain ⟨A, W, S, X, z⟩ := s
  unfold Good suspend at *; dsimp only at *
  cases z <;> repeat' split
  all_goals simp_all
  all_goals omega
theorem good_resume {s : St} {all : Bool} (h : Good s) : Good (resume s all).1 := by
  obtain ⟨A, W, S, X, z⟩ := s
  unfold Good resume at *; dsimp only at *
  repeat' split
  all_goals simp_all
  all_goals omega
theorem good_step {a : Int} {s : St} (h : Good s) : Good (step a s).1 := by
  unfold step
  by_cases h0 : a = 0
  · rw [if_pos h0]; exact good_act h
  rw [if_neg h0]
  by_cases h1 : a = 1
  · rw [if_pos h1]; exact good_canAct h
  rw [if_neg h1]
  by_cases h2 : a = 2
  · rw [if_pos h2]; exact good_end h
  rw [if_neg h2]
  by_cases h3 : a = 3
  · rw [if_pos h3]; exact good_kill h
  rw [if_neg h3]
  by_cases h4 : a = 4
  · rw [if_pos h4]; exact good_sleep h
  rw [if_neg h4]
  by_cases h5 : a = 5
  · rw [if_pos h5]; exact good_stay h
  rw [if_neg h5]
  by_cases h6 : a = 6
  · rw [if_pos h6]; exact good_wake h
  rw [if_neg h6]
  by_cases h7 : a = 7
  · rw [if_pos h7]; exact good_canWake h
  rw [if_neg h7]
  by_cases h8 : a = 8
  · rw [if_pos h8]; exact good_release h
  rw [if_neg h8]
  by_cases h9 : a = 9
  · rw [if_pos h9]; exact good_suspend h
  rw [if_neg h9]
  by_cases h10 : a = 10
  · rw [if_pos h10]; exact good_resume h
  rw [if_neg h10]
  by_cases h11 : a = 11
  · rw [if_pos h11]; exact good_resume h
  rw [if_neg h11]
  exact h
end Go.Proofs.Ytjiiopnlcohilaa
