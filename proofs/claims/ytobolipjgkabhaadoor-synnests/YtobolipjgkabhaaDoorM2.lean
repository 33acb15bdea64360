/- The calendar's numbers, on: the next day, a date for each day, months there and back, a year on. -/
import Derived.Test.YtobolipjgkabhaaDoorW3
namespace Go.Proofs.YtobolipjgkabhaaDoor
set_option linter.unusedVariables false
set_option linter.unusedSimpArgs false

theorem step_day {n y m d : Int} (h : IsDate n y m d) (k : d < days y m) : IsDate (n + 1) y m (d + 1) :=
  ⟨h.y0, h.y1, h.m0, h.m1, by have := h.d0; omega, by omega, by have := h.eq; omega⟩
theorem step_month {n y m d : Int} (h : IsDate n y m d) (k : ¬ d < days y m) (k2 : m < 12) : IsDate (n + 1) y (m + 1) 1 := by
  have a := h.m0
  have b := days_28 (y := y) (m := m + 1) (by omega) (by omega)
  have c := bef_m (y := y) h.m0
  have e := h.eq
  have f := h.d1
  refine ⟨h.y0, h.y1, by omega, by omega, by omega, by omega, ?_⟩
  rw [show m + 1 - 1 = m by omega, c]
  omega
theorem step_year {n y m d : Int} (h : IsDate n y m d) (k : ¬ d < days y m) (k2 : ¬ m < 12) (hn : n < 109572) : IsDate (n + 1) (y + 1) 1 1 := by
  have a := h.m1
  obtain rfl : m = 12 := by omega
  have c := bef_m (y := y) h.m0
  rw [show (12 : Int).toNat = 12 from rfl, bef_12] at c
  have e := h.eq
  have f := h.d1
  have s := ny_succ h.y0
  have y1 : y + 1 ≤ 2199 := by
    rcases Int.lt_or_eq_of_le h.y1 with q | q
    · omega
    · subst q
      rw [show (2199 : Int) + 1 = 2200 from rfl, ny_end] at s
      omega
  refine ⟨by have := h.y0; omega, y1, by omega, by omega, by omega, ?_, ?_⟩
  · have := days_28 (y := y + 1) (m := 1) (by omega) (by omega); omega
  · rw [show ((1 : Int) - 1).toNat = 0 from rfl, bef_0]; omega

theorem date_exN (k : Nat) : (k : Int) ≤ 109572 → ∃ y m d : Int, IsDate k y m d := by
  induction k with
  | zero => intro _; exact ⟨1900, 1, 1, by decide, by decide, by decide, by decide, by decide, by decide, by decide⟩
  | succ k ih =>
    intro hk
    obtain ⟨y, m, d, h⟩ := ih (by omega)
    rw [show ((k + 1 : Nat) : Int) = (k : Int) + 1 by omega]
    by_cases c : d < days y m
    · exact ⟨_, _, _, step_day h c⟩
    · by_cases c2 : m < 12
      · exact ⟨_, _, _, step_month h c c2⟩
      · exact ⟨_, _, _, step_year h c c2 (by omega)⟩
theorem date_ex {n : Int} (h : dayB n = true) : ∃ y m d : Int, IsDate n y m d := by
  obtain ⟨a, b⟩ := dayB_of h
  obtain ⟨k, rfl⟩ := Int.eq_ofNat_of_zero_le a
  exact date_exN k b

/-- Months there and back. -/
theorem back_y {y m k : Int} (m0 : 1 ≤ m) (m1 : m ≤ 12) : mY (mY y m k) (mM y m k) (-k) = y := by unfold mY mM; omega
theorem back_m {y m k : Int} (m0 : 1 ≤ m) (m1 : m ≤ 12) : mM (mY y m k) (mM y m k) (-k) = m := by unfold mY mM; omega
theorem months_sum (y m k : Int) : 12 * mY y m k + mM y m k = 12 * y + m + k := by unfold mY mM; omega
theorem mD_le (y m d k : Int) : mD y m d k ≤ d := by unfold mD; omega
theorem back_d {n y m d k : Int} (h : IsDate n y m d) : mD (mY y m k) (mM y m k) (mD y m d k) (-k) = mD y m d k := by
  have a := mD_le y m d k
  have b := h.d1
  show min (mD y m d k) (days (mY (mY y m k) (mM y m k) (-k)) (mM (mY y m k) (mM y m k) (-k))) = _
  rw [back_y h.m0 h.m1, back_m h.m0 h.m1]
  omega
theorem back_date {n y m d k : Int} (h : IsDate n y m d) : IsDate (dayN y m (mD y m d k)) y m (mD y m d k) ∧ dayN y m (mD y m d k) = n - (d - mD y m d k) := by
  have a := mD_le y m d k
  have b := h.d1
  have c := mD_in (k := k) h
  have e : IsDate (dayN y m (mD y m d k)) y m (mD y m d k) := isDate_of ((dateB_iff _ _ _).2 ⟨h.y0, h.y1, c.1, by omega⟩)
  have e1 := e.eq
  have e2 := h.eq
  exact ⟨e, by omega⟩

/-- A year on. -/
theorem year_y {y m : Int} (m0 : 1 ≤ m) (m1 : m ≤ 12) : mY y m 12 = y + 1 := by unfold mY; omega
theorem year_m {y m : Int} (m0 : 1 ≤ m) (m1 : m ≤ 12) : mM y m 12 = m := by unfold mM; omega
theorem days_other {y z m : Int} (h : m ≠ 2) : days y m = days z m := by unfold days; rw [if_neg h, if_neg h]
theorem leap_next {y : Int} (y0 : 0 ≤ y) (h : leapB y = true) : leapB (y + 1) = false := by
  have a := (leap_iff y0).1 h
  cases c : leapB (y + 1)
  · rfl
  · have b := (leap_iff (y := y + 1) (by omega)).1 c
    omega
theorem year_d29 {n y : Int} (h : IsDate n y 2 29) : mD y 2 29 12 = 28 := by
  have a := h.d1
  have l : leapB y = true := by
    cases c : leapB y
    · rw [show days y 2 = if leapB y then 29 else 28 from rfl, c] at a
      simp at a
    · rfl
  have b := leap_next (by have := h.y0; omega) l
  unfold mD
  rw [year_y (by omega) (by omega), year_m (by omega) (by omega), show days (y + 1) 2 = if leapB (y + 1) then 29 else 28 from rfl, b]
  decide
theorem year_d {n y m d : Int} (h : IsDate n y m d) (k : ¬ (m = 2 ∧ d = 29)) : mD y m d 12 = d := by
  have a := h.d1
  unfold mD
  rw [year_y h.m0 h.m1, year_m h.m0 h.m1]
  by_cases c : m = 2
  · subst c
    have b := days_28 (y := y + 1) (m := 2) (by omega) (by omega)
    have e : days y 2 ≤ 29 := by rw [show days y 2 = if leapB y then 29 else 28 from rfl]; split <;> omega
    omega
  · rw [days_other (z := y) c]; omega
theorem bef_next {y : Int} (k : Nat) (hk : k ≤ 12) : bef (y + 1) k - bef y k = if k < 2 then 0 else yl (y + 1) - yl y := by
  have e : ∀ z : Int, days z 2 = yl z - 337 := fun z => by unfold yl; rw [show days z 2 = if leapB z then 29 else 28 from rfl]; split <;> omega
  induction k with
  | zero => simp [bef]
  | succ k ih =>
    have i := ih (by omega)
    rw [bef_step, bef_step]
    by_cases c : k = 1
    · subst c
      rw [if_pos (by omega)] at i
      rw [if_neg (by omega)]
      have := e y
      have := e (y + 1)
      rw [show ((1 : Nat) : Int) + 1 = 2 by omega]
      omega
    · rw [days_other (y := y + 1) (z := y) (m := (k : Int) + 1) (by omega)]
      by_cases c2 : k < 2
      · rw [if_pos c2] at i; rw [if_pos (by omega)]; omega
      · rw [if_neg c2] at i; rw [if_neg (by omega)]; omega
theorem year_n {n k y m d : Int} (h : IsDate n y m d) (h' : IsDate k (y + 1) m d) : k - n = 365 ∨ k - n = 366 := by
  have a := h.eq
  have a' := h'.eq
  have b := bef_next (y := y) (m - 1).toNat (by have := h.m1; omega)
  have c := ny_succ h.y0
  have e := yl_bd y
  have e' := yl_bd (y + 1)
  split at b <;> omega
end Go.Proofs.YtobolipjgkabhaaDoor
