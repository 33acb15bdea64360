/- The walks over package cal: leap years, months' days, a year's first day. -/
import Derived.Test.YtobolipjgkabhaaDoorMath
import Derived.WalkKit
import Derived.WalkSpells
import Derived.WalkLawsBesides
import Derived.Handy
namespace Go.Proofs.YtobolipjgkabhaaDoor
open Go.RowKit
set_option linter.unusedVariables false
set_option linter.unusedSimpArgs false

def I64 (x : Int) : Prop := -9223372036854775808 ≤ x ∧ x < 9223372036854775808

theorem leap_spell {y : Int} {a b c : Bool} (h4 : (y.tmod 4 == 0) = a) (h100 : (y.tmod 100 == 0) = b) (h400 : (y.tmod 400 == 0) = c) : leapB y = ((a && !b) || c) := by
  unfold leapB; rw [bne, h4, h100, h400]

set_option maxHeartbeats 400000 in
theorem leap_any (y : Int) (w : World) (hy : I64 y) : Calls Tryd.prog 73 #[.int .i64 y] w fun e w' => e = .returned (.bool (leapB y)) ∧ w = w' := by
  cases h4 : (y.tmod 4 == 0) <;> cases h100 : (y.tmod 100 == 0) <;> cases h400 : (y.tmod 400 == 0) <;> rw [leap_spell h4 h100 h400]
  all_goals
    have h100' := congrArg not h100
    rw [← bne] at h100'
    go_enter Tryd.func73, Tryd.ntmps73
    go_wp2
    go_ret
    exact ⟨rfl, rfl⟩

theorem month_cases (m : Int) : (m = 1 ∨ m = 2 ∨ m = 3 ∨ m = 4 ∨ m = 5 ∨ m = 6 ∨ m = 7 ∨ m = 8 ∨ m = 9 ∨ m = 10 ∨ m = 11 ∨ m = 12) ∨ (m < 1 ∨ 12 < m) := by omega

theorem beqf {a b : Int} (h : a ≠ b) : (a == b) = false := beq_eq_false_iff_ne.2 h

set_option maxHeartbeats 1000000 in
theorem days_any (y m : Int) (w : World) (hy : I64 y) : Calls Tryd.prog 65 #[.int .i64 y, .int .i64 m] w fun e w' => e = .returned (.int .i64 (days y m)) ∧ w = w' := by
  rcases month_cases m with (h | h | h | h | h | h | h | h | h | h | h | h) | h
  · subst h
    go_enter Tryd.func65, Tryd.ntmps65
    go_wp2
    go_ret
    exact ⟨rfl, rfl⟩
  · subst h
    cases hl : leapB y
    all_goals
      rw [show days y 2 = if leapB y then 29 else 28 from rfl, hl]
      go_enter Tryd.func65, Tryd.ntmps65
      go_wp2_with (go_at_call 73; refine (leap_any _ _ hy).mono ?_; rintro e w' ⟨rfl, rfl⟩; rw [hl])
      go_ret
      exact ⟨rfl, rfl⟩
  iterate 10
    · subst h
      go_enter Tryd.func65, Tryd.ntmps65
      go_wp2
      go_ret
      exact ⟨rfl, rfl⟩
  · have z : days y m = 0 := by unfold days; rw [if_neg (by omega), if_neg (by omega), if_neg (by omega)]
    rw [z]
    have h1 : (m == 1) = false := beqf (by omega)
    have h2 : (m == 2) = false := beqf (by omega)
    have h3 : (m == 3) = false := beqf (by omega)
    have h4 : (m == 4) = false := beqf (by omega)
    have h5 : (m == 5) = false := beqf (by omega)
    have h6 : (m == 6) = false := beqf (by omega)
    have h7 : (m == 7) = false := beqf (by omega)
    have h8 : (m == 8) = false := beqf (by omega)
    have h9 : (m == 9) = false := beqf (by omega)
    have h10 : (m == 10) = false := beqf (by omega)
    have h11 : (m == 11) = false := beqf (by omega)
    have h12 : (m == 12) = false := beqf (by omega)
    clear h
    go_enter Tryd.func65, Tryd.ntmps65
    go_wp2
    go_ret
    exact ⟨rfl, rfl⟩

set_option maxHeartbeats 400000 in
theorem ahead_any (y : Int) (w : World) (h : 1900 ≤ y) (h' : y ≤ 2200) : Calls Tryd.prog 72 #[.int .i64 y] w fun e w' => e = .returned (.int .i64 (ahead y)) ∧ w = w' := by
  go_enter Tryd.func72, Tryd.ntmps72
  go_wp2
  go_ret
  exact ⟨rfl, rfl⟩

set_option maxHeartbeats 400000 in
theorem ny_any (y : Int) (w : World) (h : 1900 ≤ y) (h' : y ≤ 2200) : Calls Tryd.prog 64 #[.int .i64 y] w fun e w' => e = .returned (.int .i64 (ny y)) ∧ w = w' := by
  have b : 460 ≤ ahead y ∧ ahead y ≤ 1000 := by unfold ahead; omega
  have c : ahead 1900 = 460 := by decide
  go_enter Tryd.func64, Tryd.ntmps64
  go_wp2_with (go_at_call 72; refine (ahead_any _ _ ?_ ?_).mono ?_; omega; omega; rintro e w' ⟨rfl, rfl⟩)
  go_ret
  exact ⟨rfl, rfl⟩

def dayB (n : Int) : Bool := decide (0 ≤ n) && decide (n ≤ 109572)
theorem dayB_yes {n : Int} (h : 0 ≤ n) (h' : n ≤ 109572) : dayB n = true := by unfold dayB; simp [h, h']
theorem dayB_no {n : Int} (h : n < 0 ∨ 109572 < n) : dayB n = false := by unfold dayB; simp; omega
theorem dayB_of {n : Int} (h : dayB n = true) : 0 ≤ n ∧ n ≤ 109572 := by unfold dayB at h; simpa using h

set_option maxHeartbeats 400000 in
theorem isday_any (n : Int) (w : World) : Calls Tryd.prog 63 #[.int .i64 n] w fun e w' => e = .returned (.bool (dayB n)) ∧ w = w' := by
  by_cases a : 0 ≤ n <;> by_cases b : n ≤ 109572
  all_goals
    go_enter Tryd.func63, Tryd.ntmps63
    go_wp2
    go_ret
    refine ⟨?_, rfl⟩
    congr 2
    unfold dayB
    simp [a, b]

def wday (n : Int) : Int := if dayB n then n % 7 else -1
end Go.Proofs.YtobolipjgkabhaaDoor
