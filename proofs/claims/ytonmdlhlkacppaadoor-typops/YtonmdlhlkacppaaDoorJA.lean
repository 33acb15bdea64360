/- The calendar's numbers: leap years, months, the days ahead of a year and of a month; a day has one date. The walks over package cal: leap years, months' days, a year's first day. The walks over package cal, on: a date's day, a day's date, months on. The walks over package cal, on: months on and back; the next day. The calendar's numbers, on: the next day, a date for each day, months there and back, a year on. The walks over package publicanref1: leap years, a date's day, a day's date, months on. The walks over package cal, on: figures in a field, a day's text. The walks over package cal, on: a field of figures, the pattern, a text read. The walks over package cal, on: Read. The walks over package publicanref1, on: months on, a day's text. The walks over package publicanref1, on: a day's text read. -/
import Derived.Test.YtonmdlhlkacppaaDoorRows
import Derived.WalkKit
import Derived.WalkSpells
import Derived.WalkLawsBesides
import Derived.Handy
import Derived.Deep.LoopGhost
import Derived.Laws.BytesArg
import Derived.Lib.SlBytesConst
import Derived.Deep.RegionHeld3
import Derived.Deep.QuietTactic
import Derived.Deep.DeepCutAuto
import Derived.Deep.RegionWith
import Derived.Laws.Concat
import Derived.RegionTactic
namespace Go.Proofs.YtonmdlhlkacppaaDoor
set_option linter.unusedVariables false
set_option linter.unusedSimpArgs false

def leapB (y : Int) : Bool := (y.tmod 4 == 0 && y.tmod 100 != 0) || y.tmod 400 == 0
def days (y m : Int) : Int := if m = 2 then (if leapB y then 29 else 28) else if m = 4 ∨ m = 6 ∨ m = 9 ∨ m = 11 then 30 else if 1 ≤ m ∧ m ≤ 12 then 31 else 0
def ahead (y : Int) : Int := (y - 1) / 4 - (y - 1) / 100 + (y - 1) / 400
def ny (y : Int) : Int := (y - 1900) * 365 + ahead y - 460
def bef (y : Int) : Nat → Int
  | 0 => 0
  | k + 1 => bef y k + days y (k + 1)
def yl (y : Int) : Int := if leapB y then 366 else 365

theorem leap_iff {y : Int} (h : 0 ≤ y) : leapB y = true ↔ (y % 4 = 0 ∧ ¬ y % 100 = 0) ∨ y % 400 = 0 := by
  unfold leapB
  rw [Int.tmod_eq_emod_of_nonneg h, Int.tmod_eq_emod_of_nonneg h, Int.tmod_eq_emod_of_nonneg h]
  simp

theorem days_ge (y m : Int) : 0 ≤ days y m := by
  unfold days; split <;> split <;> (try split) <;> omega
theorem days_le (y m : Int) : days y m ≤ 31 := by
  unfold days; split <;> split <;> (try split) <;> omega
theorem days_in {y m : Int} (h : 0 < days y m) : 1 ≤ m ∧ m ≤ 12 := by
  unfold days at h; split at h
  · omega
  · split at h
    · omega
    · split at h
      · omega
      · omega
theorem days_28 {y m : Int} (h : 1 ≤ m) (h' : m ≤ 12) : 28 ≤ days y m := by
  unfold days; split
  · split <;> omega
  · split
    · omega
    · rw [if_pos ⟨h, h'⟩]; omega
theorem bef_step (y : Int) (k : Nat) : bef y (k + 1) = bef y k + days y (k + 1) := rfl
theorem bef_mono (y : Int) {j k : Nat} (h : j ≤ k) : bef y j ≤ bef y k := by
  induction k with
  | zero => obtain rfl : j = 0 := by omega
            exact Int.le_refl _
  | succ k ih =>
    rcases Nat.lt_or_ge j (k + 1) with c | c
    · have := ih (by omega); have := days_ge y (k + 1); rw [bef_step]; omega
    · obtain rfl : j = k + 1 := by omega
      exact Int.le_refl _
theorem bef_12 (y : Int) : bef y 12 = yl y := by
  unfold yl
  cases h : leapB y <;> simp [bef, days, h]
theorem bef_0 (y : Int) : bef y 0 = 0 := rfl
theorem yl_bd (y : Int) : 365 ≤ yl y ∧ yl y ≤ 366 := by unfold yl; split <;> omega
theorem ny_succ {y : Int} (h : 1900 ≤ y) : ny (y + 1) = ny y + yl y := by
  have e : leapB y = true ↔ _ := leap_iff (by omega)
  unfold ny ahead yl
  by_cases c : leapB y = true
  · rw [if_pos c]
    have d := e.1 c
    omega
  · rw [if_neg c]
    have d : ¬ _ := fun z => c (e.2 z)
    omega
theorem ny_mono {a b : Int} (h : 1900 ≤ a) (k : a ≤ b) : ny a ≤ ny b := by
  unfold ny ahead; omega
theorem ny_0 : ny 1900 = 0 := by decide
theorem ny_end : ny 2200 = 109573 := by decide

/-- The day n has the date y, m, d. -/
structure IsDate (n y m d : Int) : Prop where
  y0 : 1900 ≤ y
  y1 : y ≤ 2199
  m0 : 1 ≤ m
  m1 : m ≤ 12
  d0 : 1 ≤ d
  d1 : d ≤ days y m
  eq : n = ny y + bef y (m - 1).toNat + d - 1

theorem bef_m {y m : Int} (h : 1 ≤ m) : bef y m.toNat = bef y (m - 1).toNat + days y m := by
  obtain ⟨k, rfl⟩ : ∃ k : Nat, m = (k : Int) + 1 := ⟨(m - 1).toNat, by omega⟩
  rw [show ((k : Int) + 1).toNat = k + 1 by omega, show ((k : Int) + 1 - 1).toNat = k by omega]
  rfl
theorem IsDate.in_year {n y m d : Int} (h : IsDate n y m d) : ny y ≤ n ∧ n < ny (y + 1) := by
  have a := bef_m (y := y) h.m0
  have b := bef_mono y (j := 0) (k := (m - 1).toNat) (by omega)
  have c := bef_mono y (j := m.toNat) (k := 12) (by have := h.m1; omega)
  rw [bef_12] at c
  rw [bef_0] at b
  have e := ny_succ h.y0
  have := h.d0
  have := h.d1
  have := h.eq
  omega
theorem IsDate.bd {n y m d : Int} (h : IsDate n y m d) : 0 ≤ n ∧ n ≤ 109572 := by
  have a := h.in_year
  have b := ny_mono (a := 1900) (b := y) (by omega) h.y0
  have c := ny_mono (a := y + 1) (b := 2200) (by have := h.y0; omega) (by have := h.y1; omega)
  rw [ny_0] at b
  rw [ny_end] at c
  omega
theorem IsDate.year {n y m d y' m' d' : Int} (h : IsDate n y m d) (h' : IsDate n y' m' d') : y = y' := by
  have a := h.in_year
  have a' := h'.in_year
  have z := h.y0
  have z' := h'.y0
  rcases Int.lt_trichotomy y y' with c | c | c
  · have := ny_mono (a := y + 1) (b := y') (by omega) (by omega); omega
  · exact c
  · have := ny_mono (a := y' + 1) (b := y) (by omega) (by omega); omega
theorem IsDate.uniq {n y m d y' m' d' : Int} (h : IsDate n y m d) (h' : IsDate n y' m' d') : y = y' ∧ m = m' ∧ d = d' := by
  obtain rfl := h.year h'
  have e := h.eq
  have e' := h'.eq
  have s := bef_m (y := y) h.m0
  have s' := bef_m (y := y) h'.m0
  have p := h.d0; have p' := h'.d0; have q := h.d1; have q' := h'.d1; have r := h.m0; have r' := h'.m0
  rcases Int.lt_trichotomy m m' with c | c | c
  · have := bef_mono y (j := m.toNat) (k := (m' - 1).toNat) (by omega); omega
  · subst c
    exact ⟨rfl, rfl, by omega⟩
  · have := bef_mono y (j := m'.toNat) (k := (m - 1).toNat) (by omega); omega
theorem IsDate.uniqN {n n' y m d : Int} (h : IsDate n y m d) (h' : IsDate n' y m d) : n = n' := by
  rw [h.eq, h'.eq]

/-- A date that there is. -/
def dateB (y m d : Int) : Bool := decide (1900 ≤ y) && decide (y ≤ 2199) && decide (1 ≤ d) && decide (d ≤ days y m)
def dayN (y m d : Int) : Int := if dateB y m d then ny y + bef y (m - 1).toNat + d - 1 else 0
theorem dateB_iff (y m d : Int) : dateB y m d = true ↔ (1900 ≤ y ∧ y ≤ 2199 ∧ 1 ≤ d ∧ d ≤ days y m) := by
  unfold dateB; simp only [Bool.and_eq_true, decide_eq_true_eq]; omega
theorem isDate_of {y m d : Int} (h : dateB y m d = true) : IsDate (dayN y m d) y m d := by
  have k := (dateB_iff y m d).1 h
  have i := days_in (y := y) (m := m) (by omega)
  unfold dayN
  rw [if_pos h]
  exact ⟨k.1, k.2.1, i.1, i.2, k.2.2.1, k.2.2.2, rfl⟩
theorem IsDate.dateB {n y m d : Int} (h : IsDate n y m d) : dateB y m d = true :=
  (dateB_iff y m d).2 ⟨h.y0, h.y1, h.d0, h.d1⟩
theorem IsDate.dayN {n y m d : Int} (h : IsDate n y m d) : dayN y m d = n := (isDate_of h.dateB).uniqN h

theorem start_year {n : Int} (h : 0 ≤ n) : ny (1900 + n / 366) ≤ n := by unfold ny ahead; omega

/-- Behind the years: the months. -/
theorem month_more {n y m d : Int} (h : n < ny (y + 1)) (y0 : 1900 ≤ y) (m0 : 1 ≤ m) (m1 : m ≤ 12) (e : n = ny y + bef y (m - 1).toNat + d - 1) (k : days y m < d) : m < 12 := by
  rcases Int.lt_or_eq_of_le m1 with c | c
  · exact c
  · subst c
    have a := bef_m (y := y) (m := 12) (by omega)
    rw [show (12 : Int).toNat = 12 from rfl, bef_12] at a
    have := ny_succ y0
    omega
end Go.Proofs.YtonmdlhlkacppaaDoor

namespace Go.Proofs.YtonmdlhlkacppaaDoor
open Go.RowKit
set_option linter.unusedVariables false
set_option linter.unusedSimpArgs false

def I64 (x : Int) : Prop := -9223372036854775808 ≤ x ∧ x < 9223372036854775808

theorem leap_spell {y : Int} {a b c : Bool} (h4 : (y.tmod 4 == 0) = a) (h100 : (y.tmod 100 == 0) = b) (h400 : (y.tmod 400 == 0) = c) : leapB y = ((a && !b) || c) := by
  unfold leapB; rw [bne, h4, h100, h400]

theorem month_cases (m : Int) : (m = 1 ∨ m = 2 ∨ m = 3 ∨ m = 4 ∨ m = 5 ∨ m = 6 ∨ m = 7 ∨ m = 8 ∨ m = 9 ∨ m = 10 ∨ m = 11 ∨ m = 12) ∨ (m < 1 ∨ 12 < m) := by omega

theorem beqf {a b : Int} (h : a ≠ b) : (a == b) = false := beq_eq_false_iff_ne.2 h

def dayB (n : Int) : Bool := decide (0 ≤ n) && decide (n ≤ 109572)
theorem dayB_yes {n : Int} (h : 0 ≤ n) (h' : n ≤ 109572) : dayB n = true := by unfold dayB; simp [h, h']
theorem dayB_no {n : Int} (h : n < 0 ∨ 109572 < n) : dayB n = false := by unfold dayB; simp; omega
theorem dayB_of {n : Int} (h : dayB n = true) : 0 ≤ n ∧ n ≤ 109572 := by unfold dayB at h; simpa using h

def wday (n : Int) : Int := if dayB n then n % 7 else -1
end Go.Proofs.YtonmdlhlkacppaaDoor

namespace Go.Proofs.YtonmdlhlkacppaaDoor
open Go.RowKit
set_option linter.unusedVariables false
set_option linter.unusedSimpArgs false

theorem retIB {a b : Int} {p q : Bool} (h : a = b) (k : p = q) : Ending.returned (.tuple #[.int .i64 a, .bool p]) = .returned (.tuple #[.int .i64 b, .bool q]) := by rw [h, k]

theorem bef_bd (y : Int) (k : Nat) (h : k ≤ 12) : 0 ≤ bef y k ∧ bef y k ≤ 366 := by
  have a := bef_mono y (j := 0) (k := k) (by omega)
  have b := bef_mono y h
  rw [bef_12] at b
  rw [bef_0] at a
  have := yl_bd y
  omega
theorem ny_bd {y : Int} (h : 1900 ≤ y) (h' : y ≤ 2200) : 0 ≤ ny y ∧ ny y ≤ 109573 := by
  have a := ny_mono (a := 1900) (b := y) (by omega) h
  have b := ny_mono (a := y) (b := 2200) h h'
  rw [ny_0] at a
  rw [ny_end] at b
  omega

theorem dateB_no {y m d : Int} (h : dateB y m d = false) : y < 1900 ∨ y > 2199 ∨ d < 1 ∨ d > days y m := by
  have k := dateB_iff y m d
  rw [h] at k
  simp at k
  omega

theorem ret4 {a b c x y z : Int} {p q : Bool} (h : a = x) (i : b = y) (j : c = z) (k : p = q) : Ending.returned (.tuple #[.int .i64 a, .int .i64 b, .int .i64 c, .bool p]) = .returned (.tuple #[.int .i64 x, .int .i64 y, .int .i64 z, .bool q]) := by rw [h, i, j, k]

end Go.Proofs.YtonmdlhlkacppaaDoor

namespace Go.Proofs.YtonmdlhlkacppaaDoor
open Go.RowKit
set_option linter.unusedVariables false
set_option linter.unusedSimpArgs false

def mY (y m k : Int) : Int := (12 * y + m - 1 + k) / 12
def mM (y m k : Int) : Int := (12 * y + m - 1 + k) % 12 + 1
def mD (y m d k : Int) : Int := min d (days (mY y m k) (mM y m k))
/-- There is such a month. -/
def mB (y m k : Int) : Prop := 1900 ≤ mY y m k ∧ mY y m k ≤ 2199

theorem mM_in (y m k : Int) : 1 ≤ mM y m k ∧ mM y m k ≤ 12 := by unfold mM; omega
theorem mD_in {n y m d k : Int} (h : IsDate n y m d) : 1 ≤ mD y m d k ∧ mD y m d k ≤ days (mY y m k) (mM y m k) := by
  have a := mM_in y m k
  have b := days_28 (y := mY y m k) a.1 a.2
  have := h.d0
  unfold mD
  omega
theorem months_date {n y m d k : Int} (h : IsDate n y m d) (b : mB y m k) : IsDate (dayN (mY y m k) (mM y m k) (mD y m d k)) (mY y m k) (mM y m k) (mD y m d k) := by
  have e := mD_in (k := k) h
  exact isDate_of ((dateB_iff _ _ _).2 ⟨b.1, b.2, e.1, e.2⟩)

end Go.Proofs.YtonmdlhlkacppaaDoor

namespace Go.Proofs.YtonmdlhlkacppaaDoor
set_option linter.unusedVariables false
set_option linter.unusedSimpArgs false

theorem step_day {n y m d : Int} (h : IsDate n y m d) (k : d < days y m) : IsDate (n + 1) y m (d + 1) :=
  ⟨h.y0, h.y1, h.m0, h.m1, by have := h.d0; omega, by omega, by have := h.eq; omega⟩
theorem step_month {n y m d : Int} (h : IsDate n y m d) (k : ¬ d < days y m) (k2 : m < 12) : IsDate (n + 1) y (m + 1) 1 := by
  have a := h.m0
  have b := days_28 (y := y) (m := m + 1) (by omega) (by omega)
  have c := bef_m (y := y) h.m0
  have e := h.eq
  have f := h.d1
  refine ⟨h.y0, h.y1, by omega, by omega, by omega, by omega, ?_⟩
  rw [show m + 1 - 1 = m by omega, c]
  omega
theorem step_year {n y m d : Int} (h : IsDate n y m d) (k : ¬ d < days y m) (k2 : ¬ m < 12) (hn : n < 109572) : IsDate (n + 1) (y + 1) 1 1 := by
  have a := h.m1
  obtain rfl : m = 12 := by omega
  have c := bef_m (y := y) h.m0
  rw [show (12 : Int).toNat = 12 from rfl, bef_12] at c
  have e := h.eq
  have f := h.d1
  have s := ny_succ h.y0
  have y1 : y + 1 ≤ 2199 := by
    rcases Int.lt_or_eq_of_le h.y1 with q | q
    · omega
    · subst q
      rw [show (2199 : Int) + 1 = 2200 from rfl, ny_end] at s
      omega
  refine ⟨by have := h.y0; omega, y1, by omega, by omega, by omega, ?_, ?_⟩
  · have := days_28 (y := y + 1) (m := 1) (by omega) (by omega); omega
  · rw [show ((1 : Int) - 1).toNat = 0 from rfl, bef_0]; omega

theorem date_exN (k : Nat) : (k : Int) ≤ 109572 → ∃ y m d : Int, IsDate k y m d := by
  induction k with
  | zero => intro _; exact ⟨1900, 1, 1, by decide, by decide, by decide, by decide, by decide, by decide, by decide⟩
  | succ k ih =>
    intro hk
    obtain ⟨y, m, d, h⟩ := ih (by omega)
    rw [show ((k + 1 : Nat) : Int) = (k : Int) + 1 by omega]
    by_cases c : d < days y m
    · exact ⟨_, _, _, step_day h c⟩
    · by_cases c2 : m < 12
      · exact ⟨_, _, _, step_month h c c2⟩
      · exact ⟨_, _, _, step_year h c c2 (by omega)⟩
theorem date_ex {n : Int} (h : dayB n = true) : ∃ y m d : Int, IsDate n y m d := by
  obtain ⟨a, b⟩ := dayB_of h
  obtain ⟨k, rfl⟩ := Int.eq_ofNat_of_zero_le a
  exact date_exN k b

/-- Months there and back. -/
theorem back_y {y m k : Int} (m0 : 1 ≤ m) (m1 : m ≤ 12) : mY (mY y m k) (mM y m k) (-k) = y := by unfold mY mM; omega
theorem back_m {y m k : Int} (m0 : 1 ≤ m) (m1 : m ≤ 12) : mM (mY y m k) (mM y m k) (-k) = m := by unfold mY mM; omega
theorem months_sum (y m k : Int) : 12 * mY y m k + mM y m k = 12 * y + m + k := by unfold mY mM; omega
theorem mD_le (y m d k : Int) : mD y m d k ≤ d := by unfold mD; omega
theorem back_d {n y m d k : Int} (h : IsDate n y m d) : mD (mY y m k) (mM y m k) (mD y m d k) (-k) = mD y m d k := by
  have a := mD_le y m d k
  have b := h.d1
  show min (mD y m d k) (days (mY (mY y m k) (mM y m k) (-k)) (mM (mY y m k) (mM y m k) (-k))) = _
  rw [back_y h.m0 h.m1, back_m h.m0 h.m1]
  omega
theorem back_date {n y m d k : Int} (h : IsDate n y m d) : IsDate (dayN y m (mD y m d k)) y m (mD y m d k) ∧ dayN y m (mD y m d k) = n - (d - mD y m d k) := by
  have a := mD_le y m d k
  have b := h.d1
  have c := mD_in (k := k) h
  have e : IsDate (dayN y m (mD y m d k)) y m (mD y m d k) := isDate_of ((dateB_iff _ _ _).2 ⟨h.y0, h.y1, c.1, by omega⟩)
  have e1 := e.eq
  have e2 := h.eq
  exact ⟨e, by omega⟩

/-- A year on. -/
theorem year_y {y m : Int} (m0 : 1 ≤ m) (m1 : m ≤ 12) : mY y m 12 = y + 1 := by unfold mY; omega
theorem year_m {y m : Int} (m0 : 1 ≤ m) (m1 : m ≤ 12) : mM y m 12 = m := by unfold mM; omega
theorem days_other {y z m : Int} (h : m ≠ 2) : days y m = days z m := by unfold days; rw [if_neg h, if_neg h]
theorem leap_next {y : Int} (y0 : 0 ≤ y) (h : leapB y = true) : leapB (y + 1) = false := by
  have a := (leap_iff y0).1 h
  cases c : leapB (y + 1)
  · rfl
  · have b := (leap_iff (y := y + 1) (by omega)).1 c
    omega
theorem year_d29 {n y : Int} (h : IsDate n y 2 29) : mD y 2 29 12 = 28 := by
  have a := h.d1
  have l : leapB y = true := by
    cases c : leapB y
    · rw [show days y 2 = if leapB y then 29 else 28 from rfl, c] at a
      simp at a
    · rfl
  have b := leap_next (by have := h.y0; omega) l
  unfold mD
  rw [year_y (by omega) (by omega), year_m (by omega) (by omega), show days (y + 1) 2 = if leapB (y + 1) then 29 else 28 from rfl, b]
  decide
theorem year_d {n y m d : Int} (h : IsDate n y m d) (k : ¬ (m = 2 ∧ d = 29)) : mD y m d 12 = d := by
  have a := h.d1
  unfold mD
  rw [year_y h.m0 h.m1, year_m h.m0 h.m1]
  by_cases c : m = 2
  · subst c
    have b := days_28 (y := y + 1) (m := 2) (by omega) (by omega)
    have e : days y 2 ≤ 29 := by rw [show days y 2 = if leapB y then 29 else 28 from rfl]; split <;> omega
    omega
  · rw [days_other (z := y) c]; omega
theorem bef_next {y : Int} (k : Nat) (hk : k ≤ 12) : bef (y + 1) k - bef y k = if k < 2 then 0 else yl (y + 1) - yl y := by
  have e : ∀ z : Int, days z 2 = yl z - 337 := fun z => by unfold yl; rw [show days z 2 = if leapB z then 29 else 28 from rfl]; split <;> omega
  induction k with
  | zero => simp [bef]
  | succ k ih =>
    have i := ih (by omega)
    rw [bef_step, bef_step]
    by_cases c : k = 1
    · subst c
      rw [if_pos (by omega)] at i
      rw [if_neg (by omega)]
      have := e y
      have := e (y + 1)
      rw [show ((1 : Nat) : Int) + 1 = 2 by omega]
      omega
    · rw [days_other (y := y + 1) (z := y) (m := (k : Int) + 1) (by omega)]
      by_cases c2 : k < 2
      · rw [if_pos c2] at i; rw [if_pos (by omega)]; omega
      · rw [if_neg c2] at i; rw [if_neg (by omega)]; omega
theorem year_n {n k y m d : Int} (h : IsDate n y m d) (h' : IsDate k (y + 1) m d) : k - n = 365 ∨ k - n = 366 := by
  have a := h.eq
  have a' := h'.eq
  have b := bef_next (y := y) (m - 1).toNat (by have := h.m1; omega)
  have c := ny_succ h.y0
  have e := yl_bd y
  have e' := yl_bd (y + 1)
  split at b <;> omega
end Go.Proofs.YtonmdlhlkacppaaDoor

namespace Go.Proofs.YtonmdlhlkacppaaDoor
open Go.RowKit
set_option linter.unusedVariables false
set_option linter.unusedSimpArgs false

set_option maxHeartbeats 400000 in
theorem rleap_any (y : Int) (w : World) (hy : I64 y) : Calls Tryd.prog 73 #[.int .i64 y] w fun e w' => e = .returned (.bool (leapB y)) ∧ w = w' := by
  cases h4 : (y.tmod 4 == 0) <;> cases h100 : (y.tmod 100 == 0) <;> cases h400 : (y.tmod 400 == 0) <;> rw [leap_spell h4 h100 h400]
  all_goals
    have h100' := congrArg not h100
    rw [← bne] at h100'
    go_enter Tryd.func73, Tryd.ntmps73
    go_wp2
    go_ret
    exact ⟨rfl, rfl⟩

set_option maxHeartbeats 1000000 in
theorem rdays_any (y m : Int) (w : World) (hy : I64 y) : Calls Tryd.prog 74 #[.int .i64 y, .int .i64 m] w fun e w' => e = .returned (.int .i64 (days y m)) ∧ w = w' := by
  rcases month_cases m with (h | h | h | h | h | h | h | h | h | h | h | h) | h
  · subst h
    go_enter Tryd.func74, Tryd.ntmps74
    go_wp2
    go_ret
    exact ⟨rfl, rfl⟩
  · subst h
    cases hl : leapB y
    all_goals
      rw [show days y 2 = if leapB y then 29 else 28 from rfl, hl]
      go_enter Tryd.func74, Tryd.ntmps74
      go_wp2_with (go_at_call 73; refine (rleap_any _ _ hy).mono ?_; rintro e w' ⟨rfl, rfl⟩; rw [hl])
      go_ret
      exact ⟨rfl, rfl⟩
  iterate 10
    · subst h
      go_enter Tryd.func74, Tryd.ntmps74
      go_wp2
      go_ret
      exact ⟨rfl, rfl⟩
  · have z : days y m = 0 := by unfold days; rw [if_neg (by omega), if_neg (by omega), if_neg (by omega)]
    rw [z]
    have h1 : (m == 1) = false := beqf (by omega)
    have h2 : (m == 2) = false := beqf (by omega)
    have h3 : (m == 3) = false := beqf (by omega)
    have h4 : (m == 4) = false := beqf (by omega)
    have h5 : (m == 5) = false := beqf (by omega)
    have h6 : (m == 6) = false := beqf (by omega)
    have h7 : (m == 7) = false := beqf (by omega)
    have h8 : (m == 8) = false := beqf (by omega)
    have h9 : (m == 9) = false := beqf (by omega)
    have h10 : (m == 10) = false := beqf (by omega)
    have h11 : (m == 11) = false := beqf (by omega)
    have h12 : (m == 12) = false := beqf (by omega)
    clear h
    go_enter Tryd.func74, Tryd.ntmps74
    go_wp2
    go_ret
    exact ⟨rfl, rfl⟩


theorem yl_yes {y : Int} (h : leapB y = true) : yl y = 366 := by unfold yl; rw [h]; rfl
theorem yl_no {y : Int} (h : leapB y = false) : yl y = 365 := by unfold yl; rw [h]; rfl

set_option maxHeartbeats 1000000 in
theorem rday_yes (y m d : Int) (w : World) (h : dateB y m d = true) :
    Calls Tryd.prog 72 #[.int .i64 y, .int .i64 m, .int .i64 d] w fun e w' => e = .returned (.tuple #[.int .i64 (dayN y m d), .bool true]) ∧ w = w' := by
  obtain ⟨y0, y1, m0, m1, d0, d1, eq⟩ := isDate_of h
  have hy : I64 y := ⟨by omega, by omega⟩
  have EQ : Hid _ := eq
  have nb := ny_bd y0 (by omega)
  have dl := days_le y m
  have i1 : ¬ y < 1900 := by omega
  have i2 : ¬ y > 2199 := by omega
  have j1 : ¬ m < 1 := by omega
  have j2 : ¬ m > 12 := by omega
  have i3 : ¬ d < 1 := by omega
  have i4 : ¬ d > days y m := by omega
  clear eq h
  go_enter Tryd.func72, Tryd.ntmps72
  go_wp2_with (go_at_call 74; refine (rdays_any _ _ _ hy).mono ?_; rintro e w' ⟨rfl, rfl⟩)
  go_loopg [8, 9] ((y - 1900).toNat) (fun g n k wr => ∃ z : Int, 1900 ≤ z ∧ z ≤ y ∧ g = (y - z).toNat ∧ n = .int .i64 (ny z) ∧ k = .int .i64 z ∧ wr = w)
  case atStart => exact ⟨1900, by omega, by omega, rfl, by rw [ny_0], rfl, rfl⟩
  case round =>
    obtain ⟨z, z0, z1, rfl, rfl, rfl, rfl⟩ := hrel
    have zb := ny_bd (y := z) z0 (by omega)
    have hz : I64 z := ⟨by omega, by omega⟩
    by_cases c : z < y
    · have st := ny_succ z0
      cases l : leapB z
      · rw [yl_no l] at st
        go_wp2_with (go_at_call 73; refine (rleap_any _ _ hz).mono ?_; rintro e w' ⟨rfl, rfl⟩; rw [l])
        go_roundg ((y - (z + 1)).toNat)
        case measure => omega
        case rel => exact ⟨z + 1, by omega, by omega, rfl, by congr 1; omega, by first | rfl | (congr 1; go_arith), rfl⟩
      · rw [yl_yes l] at st
        go_wp2_with (go_at_call 73; refine (rleap_any _ _ hz).mono ?_; rintro e w' ⟨rfl, rfl⟩; rw [l])
        go_roundg ((y - (z + 1)).toNat)
        case measure => omega
        case rel => exact ⟨z + 1, by omega, by omega, rfl, by congr 1; omega, by first | rfl | (congr 1; go_arith), rfl⟩
    · obtain rfl : z = y := by omega
      go_wp2_with fail
      go_loopg [8, 10] 12 (fun g n k wz => ∃ j : Nat, (j : Int) + 1 ≤ m ∧ g = 12 - j ∧ n = .int .i64 (ny z + bef z j) ∧ k = .int .i64 ((j : Int) + 1) ∧ wz = wr)
      case atStart => exact ⟨0, by omega, rfl, by rw [bef_0]; simp, rfl, rfl⟩
      case round =>
        obtain ⟨j, hj, rfl, rfl, rfl, rfl⟩ := hrel
        have bb := bef_bd z j (by omega)
        by_cases c : (j : Int) + 1 < m
        · have b2 := bef_bd z (j + 1) (by omega)
          have st := bef_step z j
          go_wp2_with (go_at_call 74; refine (rdays_any _ _ _ hy).mono ?_; rintro e w' ⟨rfl, rfl⟩)
          go_roundg (12 - (j + 1))
          case measure => omega
          case rel =>
            refine ⟨j + 1, by omega, rfl, ?_, ?_, rfl⟩
            · rw [st]; congr 1; first | done | go_arith
            · congr 1; first | done | go_arith
        · have e : (m - 1).toNat = j := by omega
          have E : Hid _ := e
          clear e
          go_wp2
          go_ret2
          refine ⟨retIB ?_ rfl, rfl⟩
          rw [EQ.out, E.out]

set_option maxHeartbeats 1000000 in
theorem rday_no (y m d : Int) (w : World) (hy : I64 y) (h : dateB y m d = false) :
    Calls Tryd.prog 72 #[.int .i64 y, .int .i64 m, .int .i64 d] w fun e w' => e = .returned (.tuple #[.int .i64 (dayN y m d), .bool false]) ∧ w = w' := by
  have z : dayN y m d = 0 := by unfold dayN; rw [h]; rfl
  rw [z]
  clear z
  have k := dateB_no h
  clear h
  by_cases i1 : y < 1900
  · clear k
    go_enter Tryd.func72, Tryd.ntmps72
    go_wp2
    go_ret2
    exact ⟨rfl, rfl⟩
  · by_cases i2 : y > 2199
    · clear k
      go_enter Tryd.func72, Tryd.ntmps72
      go_wp2
      go_ret2
      exact ⟨rfl, rfl⟩
    · by_cases j1 : m < 1
      · clear k
        go_enter Tryd.func72, Tryd.ntmps72
        go_wp2
        go_ret2
        exact ⟨rfl, rfl⟩
      · by_cases j2 : m > 12
        · clear k
          go_enter Tryd.func72, Tryd.ntmps72
          go_wp2
          go_ret2
          exact ⟨rfl, rfl⟩
        · by_cases i3 : d < 1
          · clear k
            go_enter Tryd.func72, Tryd.ntmps72
            go_wp2
            go_ret2
            exact ⟨rfl, rfl⟩
          · have i4 : d > days y m := by omega
            clear k
            go_enter Tryd.func72, Tryd.ntmps72
            go_wp2_with (go_at_call 74; refine (rdays_any _ _ _ hy).mono ?_; rintro e w' ⟨rfl, rfl⟩)
            go_ret2
            exact ⟨rfl, rfl⟩

theorem rday_any (y m d : Int) (w : World) (hy : I64 y) :
    Calls Tryd.prog 72 #[.int .i64 y, .int .i64 m, .int .i64 d] w fun e w' => e = .returned (.tuple #[.int .i64 (dayN y m d), .bool (dateB y m d)]) ∧ w = w' := by
  cases h : dateB y m d
  · exact rday_no y m d w hy h
  · exact rday_yes y m d w h
theorem rday_eq (y m : Int) {d d' : Int} (w : World) (hy : I64 y) (hd : d' = d) :
    Calls Tryd.prog 72 #[.int .i64 y, .int .i64 m, .int .i64 d'] w fun e w' => e = .returned (.tuple #[.int .i64 (dayN y m d), .bool (dateB y m d)]) ∧ w = w' := by
  subst hd
  exact rday_any y m d' w hy

set_option maxHeartbeats 1000000 in
theorem rdate_no (n : Int) (w : World) (h : dayB n = false) :
    Calls Tryd.prog 54 #[.int .i64 n] w fun e w' => e = .returned (.tuple #[.int .i64 0, .int .i64 0, .int .i64 0, .bool false]) ∧ w = w' := by
  by_cases c : n < 0
  · go_enter Tryd.func54, Tryd.ntmps54
    go_wp2
    go_returns
    exact ⟨rfl, rfl⟩
  · have c2 : n > 109572 := by
      rcases Int.lt_or_le 109572 n with q | q
      · exact q
      · rw [dayB_yes (by omega) q] at h; cases h
    go_enter Tryd.func54, Tryd.ntmps54
    go_wp2
    go_returns
    exact ⟨rfl, rfl⟩

set_option maxHeartbeats 1000000 in
theorem rdate_yes (n : Int) (w : World) (h : dayB n = true) :
    Calls Tryd.prog 54 #[.int .i64 n] w fun e w' => (∃ y m d : Int, e = .returned (.tuple #[.int .i64 y, .int .i64 m, .int .i64 d, .bool true]) ∧ IsDate n y m d) ∧ w = w' := by
  obtain ⟨n0, n1⟩ := dayB_of h
  have ne := ny_end
  have i1 : ¬ n < 0 := by omega
  have i2 : ¬ n > 109572 := by omega
  go_enter Tryd.func54, Tryd.ntmps54
  go_wp2_with fail
  go_loopg [0, 6] 300 (fun g nv yv wr => ∃ y r : Int, 1900 ≤ y ∧ y ≤ 2199 ∧ 0 ≤ r ∧ r ≤ 109572 ∧ Hid (n = ny y + r) ∧ g = (2200 - y).toNat ∧ nv = .int .i64 r ∧ yv = .int .i64 y ∧ wr = w)
  case atStart => exact ⟨1900, n, by omega, by omega, by omega, by omega, (by rw [ny_0]; omega : n = ny 1900 + n), rfl, rfl, rfl, rfl⟩
  case round =>
    obtain ⟨y, r, y0, y1, r0, r1, hn, rfl, rfl, rfl, rfl⟩ := hrel
    have hy : I64 y := ⟨by omega, by omega⟩
    have st : Hid _ := ny_succ y0
    by_cases c : r < yl y
    · have C : Hid _ := c
      cases l : leapB y
      · rw [yl_no l] at c
        go_wp2_with (go_at_call 73; refine (rleap_any _ _ hy).mono ?_; rintro e w' ⟨rfl, rfl⟩; rw [l])
        clear c
        go_loopg [0, 8] 11 (fun g rv mv wz => ∃ m q : Int, 1 ≤ m ∧ m ≤ 12 ∧ 0 ≤ q ∧ q ≤ 109572 ∧ Hid (n = ny y + bef y (m - 1).toNat + q) ∧ g = (12 - m).toNat ∧ rv = .int .i64 q ∧ mv = .int .i64 m ∧ wz = wr)
        case atStart => exact ⟨1, r, by omega, by omega, by omega, by omega, (by rw [show ((1 : Int) - 1).toNat = 0 from rfl, bef_0]; have := hn.out; omega : n = ny y + bef y ((1 : Int) - 1).toNat + r), rfl, rfl, rfl, rfl⟩
        case round =>
          obtain ⟨m, q, m0, m1, q0, q1, eq, rfl, rfl, rfl, rfl⟩ := hrel
          have dg := days_ge y m
          have dl := days_le y m
          by_cases k : q ≥ days y m
          · have mm := month_more (n := n) (y := y) (m := m) (d := q + 1) (by have := hn.out; have := st.out; have := C.out; omega) y0 m0 m1 (by have := eq.out; omega) (by omega)
            have E : Hid (n = ny y + bef y (m + 1 - 1).toNat + (q - days y m)) := (by rw [show m + 1 - 1 = m by omega, bef_m m0]; have := eq.out; omega : n = ny y + bef y (m + 1 - 1).toNat + (q - days y m))
            go_wp2_with (go_at_call 74; refine (rdays_any _ _ _ hy).mono ?_; rintro e w' ⟨rfl, rfl⟩)
            go_roundg ((12 - (m + 1)).toNat)
            case measure => omega
            case rel => exact ⟨m + 1, q - days y m, by omega, by omega, by omega, by omega, E, rfl, by first | rfl | (congr 1; go_arith), by first | rfl | (congr 1; go_arith), rfl⟩
          · go_wp2_with (go_at_call 74; refine (rdays_any _ _ _ hy).mono ?_; rintro e w' ⟨rfl, rfl⟩)
            go_returns
            refine ⟨⟨y, m, q + 1, ?_, ⟨y0, y1, m0, m1, by omega, by omega, by have := eq.out; omega⟩⟩, rfl⟩
            first | rfl | (congr 2; go_arith)
      · rw [yl_yes l] at c
        go_wp2_with (go_at_call 73; refine (rleap_any _ _ hy).mono ?_; rintro e w' ⟨rfl, rfl⟩; rw [l])
        clear c
        go_loopg [0, 8] 11 (fun g rv mv wz => ∃ m q : Int, 1 ≤ m ∧ m ≤ 12 ∧ 0 ≤ q ∧ q ≤ 109572 ∧ Hid (n = ny y + bef y (m - 1).toNat + q) ∧ g = (12 - m).toNat ∧ rv = .int .i64 q ∧ mv = .int .i64 m ∧ wz = wr)
        case atStart => exact ⟨1, r, by omega, by omega, by omega, by omega, (by rw [show ((1 : Int) - 1).toNat = 0 from rfl, bef_0]; have := hn.out; omega : n = ny y + bef y ((1 : Int) - 1).toNat + r), rfl, rfl, rfl, rfl⟩
        case round =>
          obtain ⟨m, q, m0, m1, q0, q1, eq, rfl, rfl, rfl, rfl⟩ := hrel
          have dg := days_ge y m
          have dl := days_le y m
          by_cases k : q ≥ days y m
          · have mm := month_more (n := n) (y := y) (m := m) (d := q + 1) (by have := hn.out; have := st.out; have := C.out; omega) y0 m0 m1 (by have := eq.out; omega) (by omega)
            have E : Hid (n = ny y + bef y (m + 1 - 1).toNat + (q - days y m)) := (by rw [show m + 1 - 1 = m by omega, bef_m m0]; have := eq.out; omega : n = ny y + bef y (m + 1 - 1).toNat + (q - days y m))
            go_wp2_with (go_at_call 74; refine (rdays_any _ _ _ hy).mono ?_; rintro e w' ⟨rfl, rfl⟩)
            go_roundg ((12 - (m + 1)).toNat)
            case measure => omega
            case rel => exact ⟨m + 1, q - days y m, by omega, by omega, by omega, by omega, E, rfl, by first | rfl | (congr 1; go_arith), by first | rfl | (congr 1; go_arith), rfl⟩
          · go_wp2_with (go_at_call 74; refine (rdays_any _ _ _ hy).mono ?_; rintro e w' ⟨rfl, rfl⟩)
            go_returns
            refine ⟨⟨y, m, q + 1, ?_, ⟨y0, y1, m0, m1, by omega, by omega, by have := eq.out; omega⟩⟩, rfl⟩
            first | rfl | (congr 2; go_arith)
    · have yn : y + 1 ≤ 2199 := by
        rcases Int.lt_or_eq_of_le y1 with k | k
        · omega
        · subst k
          have s := st.out
          rw [show (2199 : Int) + 1 = 2200 from rfl, ne] at s
          have := hn.out
          omega
      have HN : Hid (n = ny (y + 1) + (r - yl y)) := (by have := hn.out; have := st.out; omega : n = ny (y + 1) + (r - yl y))
      cases l : leapB y
      · rw [yl_no l] at c HN
        go_wp2_with (go_at_call 73; refine (rleap_any _ _ hy).mono ?_; rintro e w' ⟨rfl, rfl⟩; rw [l])
        go_roundg ((2200 - (y + 1)).toNat)
        case measure => omega
        case rel => exact ⟨y + 1, r - 365, by omega, by omega, by omega, by omega, HN, rfl, by first | rfl | (congr 1; go_arith), by first | rfl | (congr 1; go_arith), rfl⟩
      · rw [yl_yes l] at c HN
        go_wp2_with (go_at_call 73; refine (rleap_any _ _ hy).mono ?_; rintro e w' ⟨rfl, rfl⟩; rw [l])
        go_roundg ((2200 - (y + 1)).toNat)
        case measure => omega
        case rel => exact ⟨y + 1, r - 366, by omega, by omega, by omega, by omega, HN, rfl, by first | rfl | (congr 1; go_arith), by first | rfl | (congr 1; go_arith), rfl⟩
end Go.Proofs.YtonmdlhlkacppaaDoor

namespace Go.Proofs.YtonmdlhlkacppaaDoor
open Go.RowKit
set_option linter.unusedVariables false
set_option linter.unusedSimpArgs false

def upd (f : Nat → Int) (j : Nat) (v : Int) : Nat → Int := fun i => if i = j then v else f i

/-- Ten bytes in memory. -/
structure R10 (w : World) (b : Nat) (f : Nat → Int) : Prop where
  c : ∀ i, i < 10 → w.cell? ⟨b, i, none⟩ = some (.int .u8 (f i))
  fz : ∀ o, o < 10 → w.frozen? ⟨b, o, none⟩ = false

theorem R10.set {w : World} {b : Nat} {f : Nat → Int} (h : R10 w b f) (j : Nat) (hj : j < 10) (v : Int) : R10 (w.setCell ⟨b, j, none⟩ (.int .u8 v)) b (upd f j v) := by
  refine ⟨fun i hi => ?_, fun o ho => by simpa using h.fz o ho⟩
  unfold upd
  by_cases e : i = j
  · subst e
    rw [if_pos rfl]
    exact World.cell?_setCell_same _ _ _ (h.c i hi)
  · have ne : (⟨b, i, none⟩ : Addr) ≠ ⟨b, j, none⟩ := fun k => e (by injection k)
    rw [if_neg e]
    first | exact (World.cell?_setCell_other _ _ _ _ ne).trans (h.c i hi) | exact (World.cell?_setCell_other _ _ _ _ ne.symm).trans (h.c i hi)

/-- A day's ten bytes. -/
def dtext (y m d : Int) : List Int := [48 + y / 10 / 10 / 10 % 10, 48 + y / 10 / 10 % 10, 48 + y / 10 % 10, 48 + y % 10, 45, 48 + m / 10 % 10, 48 + m % 10, 45, 48 + d / 10 % 10, 48 + d % 10]
def pat : Nat → Int := fun i => if i = 4 ∨ i = 7 then 45 else 48

def patCells : Array Value := #[.int .u8 48, .int .u8 48, .int .u8 48, .int .u8 48, .int .u8 45, .int .u8 48, .int .u8 48, .int .u8 45, .int .u8 48, .int .u8 48]

theorem lt10 {P : Nat → Prop} (h0 : P 0) (h1 : P 1) (h2 : P 2) (h3 : P 3) (h4 : P 4) (h5 : P 5) (h6 : P 6) (h7 : P 7) (h8 : P 8) (h9 : P 9) (i : Nat) (hi : i < 10) : P i := by
  match i, hi with
  | 0, _ => exact h0
  | 1, _ => exact h1
  | 2, _ => exact h2
  | 3, _ => exact h3
  | 4, _ => exact h4
  | 5, _ => exact h5
  | 6, _ => exact h6
  | 7, _ => exact h7
  | 8, _ => exact h8
  | 9, _ => exact h9
  | i + 10, hi => exact absurd hi (by omega)

end Go.Proofs.YtonmdlhlkacppaaDoor

namespace Go.Proofs.YtonmdlhlkacppaaDoor
open Go.RowKit
set_option linter.unusedVariables false
set_option linter.unusedSimpArgs false

def dig (c : UInt8) : Int := (c.toNat : Int) - 48
def isDig (c : UInt8) : Bool := decide (48 ≤ (c.toNat : Int)) && decide ((c.toNat : Int) ≤ 57)
theorem isDig_of {c : UInt8} (h : isDig c = true) : 48 ≤ (c.toNat : Int) ∧ (c.toNat : Int) ≤ 57 := by unfold isDig at h; simpa using h

theorem bytes_laid (s : ByteArray) (w : World) : ∃ (W : World) (cap : Nat), (convert 9 95 (.string s)).run Tryd.prog w = .ok (.slice (some ⟨w.heap.size, 0, none⟩) s.size cap) W ∧
    (∀ j (hj : j < s.data.size), W.cell? ⟨w.heap.size, j, none⟩ = some (.int .u8 (s.data[j].toNat : Int))) ∧ Below w.heap.size w W := by
  refine ⟨_, _, run_bytes_of_string (P := Tryd.prog) w 9 95 5 s Tryd.underlying9 Tryd.underlying95 Tryd.underlying5, fun j hj => ?_, ?_⟩
  · have := World.cell?_alloc_mark w.drew (bytesRow s (grownCap w s.size 0 5)) 5 ((bytesRow s (grownCap w s.size 0 5)).size, (bytesRow s (grownCap w s.size 0 5)).size + 1) j
    rw [bytesRow_at s _ j hj] at this
    exact this
  · exact (Below.refl _ _).drew.alloc (Nat.le_refl _) _

def dg2 (a b : UInt8) : Int := (dig a) * 10 + dig b
def dg4 (a b c d : UInt8) : Int := (((dig a) * 10 + dig b) * 10 + dig c) * 10 + dig d
def fitB (c0 c1 c2 c3 c4 c5 c6 c7 c8 c9 : UInt8) : Bool := isDig c0 && isDig c1 && isDig c2 && isDig c3 && decide ((c4.toNat : Int) = 45) && isDig c5 && isDig c6 && decide ((c7.toNat : Int) = 45) && isDig c8 && isDig c9

theorem isDig_no {c : UInt8} (h : isDig c = false) : (c.toNat : Int) < 48 ∨ (48 ≤ (c.toNat : Int) ∧ 57 < (c.toNat : Int)) := by
  unfold isDig at h
  simp only [Bool.and_eq_false_iff, decide_eq_false_iff_not] at h
  omega

end Go.Proofs.YtonmdlhlkacppaaDoor

namespace Go.Proofs.YtonmdlhlkacppaaDoor
open Go.RowKit
set_option linter.unusedVariables false
set_option linter.unusedSimpArgs false

theorem nextB {w u v : World} (h : Below w.heap.size w u) (hb : Below u.heap.size u v) : Below w.heap.size w v := h.trans (hb.mono h.size)
theorem below_drewN (w : World) (x : Nat) : Below w.heap.size w (w.drewN x) := by
  induction x with
  | zero => exact Below.refl _ _
  | succ x ih => exact ih.drew

theorem fit_digs {c0 c1 c2 c3 c4 c5 c6 c7 c8 c9 : UInt8} (h : fitB c0 c1 c2 c3 c4 c5 c6 c7 c8 c9 = true) : isDig c0 = true ∧ isDig c1 = true ∧ isDig c2 = true ∧ isDig c3 = true ∧ isDig c5 = true ∧ isDig c6 = true ∧ isDig c8 = true ∧ isDig c9 = true ∧ (c4.toNat : Int) = 45 ∧ (c7.toNat : Int) = 45 := by
  unfold fitB at h
  simp only [Bool.and_eq_true, decide_eq_true_eq] at h
  obtain ⟨⟨⟨⟨⟨⟨⟨⟨⟨h0, h1⟩, h2⟩, h3⟩, h4⟩, h5⟩, h6⟩, h7⟩, h8⟩, h9⟩ := h
  exact ⟨h0, h1, h2, h3, h5, h6, h8, h9, h4, h7⟩

theorem dg4_bd {a b c d : UInt8} : I64 (dg4 a b c d) := by
  have := a.toNat_lt; have := b.toNat_lt; have := c.toNat_lt; have := d.toNat_lt
  unfold I64 dg4 dig; omega

end Go.Proofs.YtonmdlhlkacppaaDoor

namespace Go.Proofs.YtonmdlhlkacppaaDoor
open Go.RowKit
set_option linter.unusedVariables false
set_option linter.unusedSimpArgs false

theorem rdate_is {n y m d : Int} (w : World) (h : IsDate n y m d) :
    Calls Tryd.prog 54 #[.int .i64 n] w fun e w' => e = .returned (.tuple #[.int .i64 y, .int .i64 m, .int .i64 d, .bool true]) ∧ w = w' := by
  have b := h.bd
  refine (rdate_yes n w (dayB_yes b.1 b.2)).mono ?_
  rintro e w' ⟨⟨y', m', d', rfl, h'⟩, rfl⟩
  obtain ⟨rfl, rfl, rfl⟩ := h.uniq h'
  exact ⟨rfl, rfl⟩

def twoS (n : Int) : ByteArray := strOfNums [48 + n / 10 % 10, 48 + n % 10]
theorem twoS_size (n : Int) : (twoS n).size = 2 := rfl

set_option maxHeartbeats 1000000 in
theorem two_any (n : Int) (w : World) (h0 : 0 ≤ n) (h1 : n ≤ 9999) :
    Calls Tryd.prog 55 #[.int .i64 n] w fun e w' => e = .returned (.string (twoS n)) ∧ Below w.heap.size w w' := by
  have kd : (convert 95 9 (.slice (some ⟨w.heap.size, 0, none⟩) 2 2)).run Tryd.prog (w.alloc (.cells #[.int .u8 (48 + n / 10 % 10), .int .u8 (48 + n % 10)] 5)) = .ok (.string (twoS n)) (w.alloc (.cells #[.int .u8 (48 + n / 10 % 10), .int .u8 (48 + n % 10)] 5)) :=
    run_convert_bytes_arg (P := Tryd.prog) (w.alloc (.cells #[.int .u8 (48 + n / 10 % 10), .int .u8 (48 + n % 10)] 5)) 95 5 Tryd.underlying95 Tryd.underlying5 w.heap.size 0 2 2 [48 + n / 10 % 10, 48 + n % 10] rfl (fun i hi => by
      have q : i = 0 ∨ i = 1 := by omega
      rcases q with rfl | rfl <;> simp) 9 Tryd.underlying9
  go_enter Tryd.func55, Tryd.ntmps55
  go_wp2
  go_ret
  exact ⟨rfl, (Below.refl _ _).alloc (Nat.le_refl _) _⟩

set_option maxHeartbeats 1000000 in
theorem rtext_no (n : Int) (w : World) (h : dayB n = false) :
    Calls Tryd.prog 40 #[.int .i64 n] w fun e w' => e = .returned (.string ByteArray.empty) ∧ w = w' := by
  go_enter Tryd.func40, Tryd.ntmps40
  go_wp2_with (go_at_call 54; refine (rdate_no _ _ h).mono ?_; rintro e w' ⟨rfl, rfl⟩)
  go_ret
  exact ⟨rfl, rfl⟩

def stroke : ByteArray := ⟨#[45]⟩
theorem join_text (y m d : Int) : ((((twoS (y / 100) ++ twoS y) ++ stroke) ++ twoS m) ++ stroke) ++ twoS d = strOfNums (dtext y m d) := by
  have e1 : y / 100 / 10 % 10 = y / 10 / 10 / 10 % 10 := by omega
  have e2 : y / 100 % 10 = y / 10 / 10 % 10 := by omega
  unfold twoS
  rw [e1, e2]
  rfl

set_option maxHeartbeats 2000000 in
theorem rtext_yes {n y m d : Int} (w : World) (h : IsDate n y m d) :
    Calls Tryd.prog 40 #[.int .i64 n] w fun e w' => e = .returned (.string (strOfNums (dtext y m d))) ∧ Below w.heap.size w w' := by
  obtain ⟨y0, y1, m0, m1, d0, d1, eq⟩ := id h
  have dl := days_le y m
  clear eq
  have J : Hid _ := join_text y m d
  have s1 := twoS_size (y / 100)
  have s2 := twoS_size y
  have s3 := twoS_size m
  have s4 := twoS_size d
  have s5 : (⟨#[45]⟩ : ByteArray).size = 1 := rfl
  go_enter Tryd.func40, Tryd.ntmps40
  go_wp2_with (go_at_call 54; refine (rdate_is _ h).mono ?_; rintro e w' ⟨rfl, rfl⟩)
  refine (two_any _ _ (by omega) (by omega)).mono ?_
  rintro e w1 ⟨rfl, b1⟩
  go_wp2_with fail
  refine (two_any _ _ (by omega) (by omega)).mono ?_
  rintro e w2 ⟨rfl, b2⟩
  go_wp2_with fail
  refine (two_any _ _ (by omega) (by omega)).mono ?_
  rintro e w3 ⟨rfl, b3⟩
  go_wp2_with fail
  refine (two_any _ _ (by omega) (by omega)).mono ?_
  rintro e w4 ⟨rfl, b4⟩
  have B : Hid _ := nextB (nextB (nextB b1 b2) b3) b4
  go_wp2
  go_ret
  exact ⟨by rw [← J.out]; rfl, B.out⟩
end Go.Proofs.YtonmdlhlkacppaaDoor

namespace Go.Proofs.YtonmdlhlkacppaaDoor
open Go.RowKit
set_option linter.unusedVariables false
set_option linter.unusedSimpArgs false

/-- Three numbers in memory. -/
structure R3 (w0 w : World) (b : Nat) (x y z : Int) : Prop where
  c0 : w.cell? ⟨b, 0, none⟩ = some (.int .i64 x)
  c1 : w.cell? ⟨b, 1, none⟩ = some (.int .i64 y)
  c2 : w.cell? ⟨b, 2, none⟩ = some (.int .i64 z)
  fz : ∀ o, w.frozen? ⟨b, o, none⟩ = false
  bl : Below w0.heap.size w0 w
  ge : w0.heap.size ≤ b

theorem R3.drewN {w0 w : World} {b : Nat} {x y z : Int} (h : R3 w0 w b x y z) (n : Nat) : R3 w0 (w.drewN n) b x y z := by
  have q := below_drewN w n
  have lt := World.block_lt_of_cell? _ _ h.c0
  exact ⟨by rw [q.cell (p := ⟨b, 0, none⟩) lt]; exact h.c0, by rw [q.cell (p := ⟨b, 1, none⟩) lt]; exact h.c1, by rw [q.cell (p := ⟨b, 2, none⟩) lt]; exact h.c2, fun o => by rw [q.frozen (p := ⟨b, o, none⟩) lt]; exact h.fz o, nextB h.bl q, h.ge⟩
theorem R3.set0 {w0 w : World} {b : Nat} {x y z : Int} (h : R3 w0 w b x y z) (v : Int) : R3 w0 (w.setCell ⟨b, 0, none⟩ (.int .i64 v)) b v y z :=
  ⟨World.cell?_setCell_same _ _ _ h.c0, (World.cell?_setCell_other _ _ _ _ (by simp)).trans h.c1, (World.cell?_setCell_other _ _ _ _ (by simp)).trans h.c2, fun o => by simpa using h.fz o, h.bl.setCell (p := ⟨b, 0, none⟩) h.ge _, h.ge⟩
theorem R3.set1 {w0 w : World} {b : Nat} {x y z : Int} (h : R3 w0 w b x y z) (v : Int) : R3 w0 (w.setCell ⟨b, 1, none⟩ (.int .i64 v)) b x v z :=
  ⟨(World.cell?_setCell_other _ _ _ _ (by simp)).trans h.c0, World.cell?_setCell_same _ _ _ h.c1, (World.cell?_setCell_other _ _ _ _ (by simp)).trans h.c2, fun o => by simpa using h.fz o, h.bl.setCell (p := ⟨b, 1, none⟩) h.ge _, h.ge⟩
theorem R3.set2 {w0 w : World} {b : Nat} {x y z : Int} (h : R3 w0 w b x y z) (v : Int) : R3 w0 (w.setCell ⟨b, 2, none⟩ (.int .i64 v)) b x y v :=
  ⟨(World.cell?_setCell_other _ _ _ _ (by simp)).trans h.c0, (World.cell?_setCell_other _ _ _ _ (by simp)).trans h.c1, World.cell?_setCell_same _ _ _ h.c2, fun o => by simpa using h.fz o, h.bl.setCell (p := ⟨b, 2, none⟩) h.ge _, h.ge⟩
theorem R3.drew {w0 w : World} {b : Nat} {x y z : Int} (h : R3 w0 w b x y z) : R3 w0 w.drew b x y z := h.drewN 1
abbrev S3 (w0 : World) (b : Nat) (x y z : Int) (w : World) : Prop := w.cell? ⟨b, 0, none⟩ = some (.int .i64 x) ∧ w.cell? ⟨b, 1, none⟩ = some (.int .i64 y) ∧ w.cell? ⟨b, 2, none⟩ = some (.int .i64 z) ∧ Below w0.heap.size w0 w
theorem R3.all {w0 w : World} {b : Nat} {x y z : Int} (h : R3 w0 w b x y z) : S3 w0 b x y z w := ⟨h.c0, h.c1, h.c2, h.bl⟩
theorem R3.new (w : World) (t : TypeId) : R3 w (w.alloc (.cells #[.int .i64 0, .int .i64 0, .int .i64 0] t)) w.heap.size 0 0 0 :=
  ⟨by simp, by simp, by simp, fun o => by simp, (Below.refl _ _).alloc (Nat.le_refl _) _, Nat.le_refl _⟩

def fa (c0 c1 c2 c3 c4 c5 c6 c7 c8 c9 : UInt8) : Nat → Int
  | 0 => 0
  | 1 => dig c0
  | 2 => 10 * (dig c0) + dig c1
  | 3 => 10 * (10 * (dig c0) + dig c1) + dig c2
  | 4 => 10 * (10 * (10 * (dig c0) + dig c1) + dig c2) + dig c3
  | 5 => 10 * (10 * (10 * (dig c0) + dig c1) + dig c2) + dig c3
  | 6 => 10 * (10 * (10 * (dig c0) + dig c1) + dig c2) + dig c3
  | 7 => 10 * (10 * (10 * (dig c0) + dig c1) + dig c2) + dig c3
  | 8 => 10 * (10 * (10 * (dig c0) + dig c1) + dig c2) + dig c3
  | 9 => 10 * (10 * (10 * (dig c0) + dig c1) + dig c2) + dig c3
  | _ => 10 * (10 * (10 * (dig c0) + dig c1) + dig c2) + dig c3
def fb (c0 c1 c2 c3 c4 c5 c6 c7 c8 c9 : UInt8) : Nat → Int
  | 0 => 0
  | 1 => 0
  | 2 => 0
  | 3 => 0
  | 4 => 0
  | 5 => 0
  | 6 => dig c5
  | 7 => 10 * (dig c5) + dig c6
  | 8 => 10 * (dig c5) + dig c6
  | 9 => 10 * (dig c5) + dig c6
  | _ => 10 * (dig c5) + dig c6
def fc (c0 c1 c2 c3 c4 c5 c6 c7 c8 c9 : UInt8) : Nat → Int
  | 0 => 0
  | 1 => 0
  | 2 => 0
  | 3 => 0
  | 4 => 0
  | 5 => 0
  | 6 => 0
  | 7 => 0
  | 8 => 0
  | 9 => dig c8
  | _ => 10 * (dig c8) + dig c9

theorem fa_end (c0 c1 c2 c3 c4 c5 c6 c7 c8 c9 : UInt8) : fa c0 c1 c2 c3 c4 c5 c6 c7 c8 c9 10 = dg4 c0 c1 c2 c3 := by show 10 * (10 * (10 * (dig c0) + dig c1) + dig c2) + dig c3 = _; unfold dg4; omega
theorem fb_end (c0 c1 c2 c3 c4 c5 c6 c7 c8 c9 : UInt8) : fb c0 c1 c2 c3 c4 c5 c6 c7 c8 c9 10 = dg2 c5 c6 := by show 10 * (dig c5) + dig c6 = _; unfold dg2; omega
theorem fc_end (c0 c1 c2 c3 c4 c5 c6 c7 c8 c9 : UInt8) : fc c0 c1 c2 c3 c4 c5 c6 c7 c8 c9 10 = dg2 c8 c9 := by show 10 * (dig c8) + dig c9 = _; unfold dg2; omega

theorem dig_bd (c : UInt8) : -48 ≤ dig c ∧ dig c ≤ 207 := by have := c.toNat_lt; unfold dig; omega

def rdN (c0 c1 c2 c3 c4 c5 c6 c7 c8 c9 : UInt8) : Int := if fitB c0 c1 c2 c3 c4 c5 c6 c7 c8 c9 then dayN (dg4 c0 c1 c2 c3) (dg2 c5 c6) (dg2 c8 c9) else 0
def rdB (c0 c1 c2 c3 c4 c5 c6 c7 c8 c9 : UInt8) : Bool := if fitB c0 c1 c2 c3 c4 c5 c6 c7 c8 c9 then dateB (dg4 c0 c1 c2 c3) (dg2 c5 c6) (dg2 c8 c9) else false

set_option maxHeartbeats 1000000 in
theorem rread_other (s : ByteArray) (w : World) (h : s.size ≠ 10) (hs : s.size < 9223372036854775808) :
    Calls Tryd.prog 51 #[.string s] w fun e w' => e = .returned (.tuple #[.int .i64 0, .bool false]) ∧ w = w' := by
  have h' : ((s.size : Int) != 10) = true := by rw [bne_iff_ne]; omega
  go_enter Tryd.func51, Tryd.ntmps51
  go_wp2
  go_ret2
  exact ⟨rfl, rfl⟩

theorem rd_no {c0 c1 c2 c3 c4 c5 c6 c7 c8 c9 : UInt8} (h : fitB c0 c1 c2 c3 c4 c5 c6 c7 c8 c9 = false) : rdN c0 c1 c2 c3 c4 c5 c6 c7 c8 c9 = 0 ∧ rdB c0 c1 c2 c3 c4 c5 c6 c7 c8 c9 = false := by unfold rdN rdB; rw [h]; exact ⟨rfl, rfl⟩
theorem rd_yes {c0 c1 c2 c3 c4 c5 c6 c7 c8 c9 : UInt8} (h : fitB c0 c1 c2 c3 c4 c5 c6 c7 c8 c9 = true) : rdN c0 c1 c2 c3 c4 c5 c6 c7 c8 c9 = dayN (dg4 c0 c1 c2 c3) (dg2 c5 c6) (dg2 c8 c9) ∧ rdB c0 c1 c2 c3 c4 c5 c6 c7 c8 c9 = dateB (dg4 c0 c1 c2 c3) (dg2 c5 c6) (dg2 c8 c9) := by unfold rdN rdB; rw [h]; exact ⟨rfl, rfl⟩

set_option maxHeartbeats 1000000 in
theorem rread_stroke (c0 c1 c2 c3 c4 c5 c6 c7 c8 c9 : UInt8) (w : World) (k : (c4.toNat : Int) ≠ 45 ∨ (c7.toNat : Int) ≠ 45) :
    Calls Tryd.prog 51 #[.string ⟨#[c0, c1, c2, c3, c4, c5, c6, c7, c8, c9]⟩] w fun e w' => e = .returned (.tuple #[.int .i64 (rdN c0 c1 c2 c3 c4 c5 c6 c7 c8 c9), .bool (rdB c0 c1 c2 c3 c4 c5 c6 c7 c8 c9)]) ∧ Below w.heap.size w w' := by
  have f : fitB c0 c1 c2 c3 c4 c5 c6 c7 c8 c9 = false := by
    cases q : fitB c0 c1 c2 c3 c4 c5 c6 c7 c8 c9
    · rfl
    · obtain ⟨_, _, _, _, _, _, _, _, h4, h7⟩ := fit_digs q
      omega
  rw [(rd_no f).1, (rd_no f).2]
  clear f
  have x4 : ((((⟨#[c0, c1, c2, c3, c4, c5, c6, c7, c8, c9]⟩ : ByteArray)[4]'(by show 4 < 10; omega)).toNat : Nat) : Int) = (c4.toNat : Int) := rfl
  have x7 : ((((⟨#[c0, c1, c2, c3, c4, c5, c6, c7, c8, c9]⟩ : ByteArray)[7]'(by show 7 < 10; omega)).toNat : Nat) : Int) = (c7.toNat : Int) := rfl
  generalize (c4.toNat : Int) = C4 at *
  generalize (c7.toNat : Int) = C7 at *
  by_cases k4 : C4 = 45
  · subst k4
    have k7 : (C7 != 45) = true := by rw [bne_iff_ne]; omega
    clear k
    go_enter Tryd.func51, Tryd.ntmps51
    go_wp2
    go_ret2
    exact ⟨rfl, Below.refl _ _⟩
  · have k4' : (C4 != 45) = true := by rw [bne_iff_ne]; exact k4
    clear k k4
    go_enter Tryd.func51, Tryd.ntmps51
    go_wp2
    go_ret2
    exact ⟨rfl, Below.refl _ _⟩

set_option maxHeartbeats 8000000 in
theorem rread_10 (c0 c1 c2 c3 c4 c5 c6 c7 c8 c9 : UInt8) (w : World) (k4 : (c4.toNat : Int) = 45) (k7 : (c7.toNat : Int) = 45) :
    Calls Tryd.prog 51 #[.string ⟨#[c0, c1, c2, c3, c4, c5, c6, c7, c8, c9]⟩] w fun e w' => e = .returned (.tuple #[.int .i64 (rdN c0 c1 c2 c3 c4 c5 c6 c7 c8 c9), .bool (rdB c0 c1 c2 c3 c4 c5 c6 c7 c8 c9)]) ∧ Below w.heap.size w w' := by
  have FB : Hid (fitB c0 c1 c2 c3 c4 c5 c6 c7 c8 c9 = (isDig c0 && isDig c1 && isDig c2 && isDig c3 && decide ((c4.toNat : Int) = 45) && isDig c5 && isDig c6 && decide ((c7.toNat : Int) = 45) && isDig c8 && isDig c9)) := (rfl : _ = _)
  have x4 : ((((⟨#[c0, c1, c2, c3, c4, c5, c6, c7, c8, c9]⟩ : ByteArray)[4]'(by show 4 < 10; omega)).toNat : Nat) : Int) = 45 := k4
  have x7 : ((((⟨#[c0, c1, c2, c3, c4, c5, c6, c7, c8, c9]⟩ : ByteArray)[7]'(by show 7 < 10; omega)).toNat : Nat) : Int) = 45 := k7
  have H4 : Hid _ := k4
  have H7 : Hid _ := k7
  clear k4 k7
  have RN : Hid _ := R3.new w 3
  go_enter Tryd.func51, Tryd.ntmps51
  go_wp2_with fail
  go_loopg [5] 10 (fun g iv wr => ∃ j : Nat, j ≤ 10 ∧ g = 10 - j ∧ iv = .int .i64 j ∧ Hid (R3 w wr w.heap.size (fa c0 c1 c2 c3 c4 c5 c6 c7 c8 c9 j) (fb c0 c1 c2 c3 c4 c5 c6 c7 c8 c9 j) (fc c0 c1 c2 c3 c4 c5 c6 c7 c8 c9 j)) ∧ Hid ((0 < j → isDig c0 = true) ∧ (1 < j → isDig c1 = true) ∧ (2 < j → isDig c2 = true) ∧ (3 < j → isDig c3 = true) ∧ (4 < j → decide ((c4.toNat : Int) = 45) = true) ∧ (5 < j → isDig c5 = true) ∧ (6 < j → isDig c6 = true) ∧ (7 < j → decide ((c7.toNat : Int) = 45) = true) ∧ (8 < j → isDig c8 = true) ∧ (9 < j → isDig c9 = true)))
  case atStart => exact ⟨0, by omega, rfl, rfl, RN, fun h => by omega, fun h => by omega, fun h => by omega, fun h => by omega, fun h => by omega, fun h => by omega, fun h => by omega, fun h => by omega, fun h => by omega, fun h => by omega⟩
  case round =>
    obtain ⟨j, hj, rfl, rfl, HR, P⟩ := hrel
    have J : j = 0 ∨ j = 1 ∨ j = 2 ∨ j = 3 ∨ j = 4 ∨ j = 5 ∨ j = 6 ∨ j = 7 ∨ j = 8 ∨ j = 9 ∨ j = 10 := by omega
    clear RN
    rcases J with rfl | rfl | rfl | rfl | rfl | rfl | rfl | rfl | rfl | rfl | rfl
    · have xi : ((((⟨#[c0, c1, c2, c3, c4, c5, c6, c7, c8, c9]⟩ : ByteArray)[0]'(by show 0 < 10; omega)).toNat : Nat) : Int) = (c0.toNat : Int) := rfl
      cases k : isDig c0
      · have E : Hid (fitB c0 c1 c2 c3 c4 c5 c6 c7 c8 c9 = false) := (by rw [FB.out, k]; simp : fitB c0 c1 c2 c3 c4 c5 c6 c7 c8 c9 = false)
        have k' := isDig_no k
        have BL : Hid _ := HR.out.bl
        clear k
        generalize (c0.toNat : Int) = C at *
        rcases k' with k' | ⟨k', k''⟩
        · go_wp2
          go_ret2
          exact ⟨by rw [(rd_no E.out).1, (rd_no E.out).2]; rfl, BL.out⟩
        · go_wp2
          go_ret2
          exact ⟨by rw [(rd_no E.out).1, (rd_no E.out).2]; rfl, BL.out⟩
      · have k' := isDig_of k
        have NX : Hid ((0 < 1 → isDig c0 = true) ∧ (1 < 1 → isDig c1 = true) ∧ (2 < 1 → isDig c2 = true) ∧ (3 < 1 → isDig c3 = true) ∧ (4 < 1 → decide ((c4.toNat : Int) = 45) = true) ∧ (5 < 1 → isDig c5 = true) ∧ (6 < 1 → isDig c6 = true) ∧ (7 < 1 → decide ((c7.toNat : Int) = 45) = true) ∧ (8 < 1 → isDig c8 = true) ∧ (9 < 1 → isDig c9 = true)) := (by
          obtain ⟨p0, p1, p2, p3, p4, p5, p6, p7, p8, p9⟩ := P.out
          exact ⟨fun _ => k, fun h => by omega, fun h => by omega, fun h => by omega, fun h => by omega, fun h => by omega, fun h => by omega, fun h => by omega, fun h => by omega, fun h => by omega⟩)
        have R : R3 w wr w.heap.size (0) (0) (0) := HR.out
        have ND : Hid ((c0.toNat : Int) - 48 = dig c0) := (rfl : (c0.toNat : Int) - 48 = dig c0)
        clear k HR
        obtain ⟨k0, k1⟩ := k'
        have r0 := R.c0
        have rf := R.fz 0
        have HR : Hid _ := R
        clear R
        generalize (c0.toNat : Int) = C at *
        go_upto_region 15 with fail
        go_region
        go_wp2
        go_roundg 9
        case measure => omega
        case rel =>
          have Q := (HR.out.set0 (C - 48)).drew
          rw [ND.out] at Q
          refine ⟨1, by omega, rfl, rfl, ?_, NX⟩
          rw [← ND.out] at Q
          first | exact Q | (rw [ND.out] at Q; exact Q) | (simp only [ND.out]; rw [ND.out] at Q; exact Q)
    · have xi : ((((⟨#[c0, c1, c2, c3, c4, c5, c6, c7, c8, c9]⟩ : ByteArray)[1]'(by show 1 < 10; omega)).toNat : Nat) : Int) = (c1.toNat : Int) := rfl
      cases k : isDig c1
      · have E : Hid (fitB c0 c1 c2 c3 c4 c5 c6 c7 c8 c9 = false) := (by rw [FB.out, k]; simp : fitB c0 c1 c2 c3 c4 c5 c6 c7 c8 c9 = false)
        have k' := isDig_no k
        have BL : Hid _ := HR.out.bl
        clear k
        generalize (c1.toNat : Int) = C at *
        rcases k' with k' | ⟨k', k''⟩
        · go_wp2
          go_ret2
          exact ⟨by rw [(rd_no E.out).1, (rd_no E.out).2]; rfl, BL.out⟩
        · go_wp2
          go_ret2
          exact ⟨by rw [(rd_no E.out).1, (rd_no E.out).2]; rfl, BL.out⟩
      · have k' := isDig_of k
        have NX : Hid ((0 < 2 → isDig c0 = true) ∧ (1 < 2 → isDig c1 = true) ∧ (2 < 2 → isDig c2 = true) ∧ (3 < 2 → isDig c3 = true) ∧ (4 < 2 → decide ((c4.toNat : Int) = 45) = true) ∧ (5 < 2 → isDig c5 = true) ∧ (6 < 2 → isDig c6 = true) ∧ (7 < 2 → decide ((c7.toNat : Int) = 45) = true) ∧ (8 < 2 → isDig c8 = true) ∧ (9 < 2 → isDig c9 = true)) := (by
          obtain ⟨p0, p1, p2, p3, p4, p5, p6, p7, p8, p9⟩ := P.out
          exact ⟨fun _ => p0 (by omega), fun _ => k, fun h => by omega, fun h => by omega, fun h => by omega, fun h => by omega, fun h => by omega, fun h => by omega, fun h => by omega, fun h => by omega⟩)
        have R : R3 w wr w.heap.size (dig c0) (0) (0) := HR.out
        have ND : Hid ((c1.toNat : Int) - 48 = dig c1) := (rfl : (c1.toNat : Int) - 48 = dig c1)
        clear k HR
        obtain ⟨k0, k1⟩ := k'
        have vb : -100000000 ≤ dig c0 ∧ dig c0 ≤ 100000000 := by have := dig_bd c0; omega
        obtain ⟨vb0, vb1⟩ := vb
        generalize hX : dig c0 = X at *
        have HX : Hid _ := hX
        clear hX
        have r0 := R.c0
        have rf := R.fz 0
        have HR : Hid _ := R
        clear R
        generalize (c1.toNat : Int) = C at *
        go_upto_region 15 with fail
        go_region
        go_wp2
        go_roundg 8
        case measure => omega
        case rel =>
          have Q := (HR.out.set0 (10 * X + (C - 48))).drew
          refine ⟨2, by omega, rfl, rfl, ?_, NX⟩
          rw [ND.out] at Q ⊢
          rw [← HX.out] at Q ⊢
          exact Q
    · have xi : ((((⟨#[c0, c1, c2, c3, c4, c5, c6, c7, c8, c9]⟩ : ByteArray)[2]'(by show 2 < 10; omega)).toNat : Nat) : Int) = (c2.toNat : Int) := rfl
      cases k : isDig c2
      · have E : Hid (fitB c0 c1 c2 c3 c4 c5 c6 c7 c8 c9 = false) := (by rw [FB.out, k]; simp : fitB c0 c1 c2 c3 c4 c5 c6 c7 c8 c9 = false)
        have k' := isDig_no k
        have BL : Hid _ := HR.out.bl
        clear k
        generalize (c2.toNat : Int) = C at *
        rcases k' with k' | ⟨k', k''⟩
        · go_wp2
          go_ret2
          exact ⟨by rw [(rd_no E.out).1, (rd_no E.out).2]; rfl, BL.out⟩
        · go_wp2
          go_ret2
          exact ⟨by rw [(rd_no E.out).1, (rd_no E.out).2]; rfl, BL.out⟩
      · have k' := isDig_of k
        have NX : Hid ((0 < 3 → isDig c0 = true) ∧ (1 < 3 → isDig c1 = true) ∧ (2 < 3 → isDig c2 = true) ∧ (3 < 3 → isDig c3 = true) ∧ (4 < 3 → decide ((c4.toNat : Int) = 45) = true) ∧ (5 < 3 → isDig c5 = true) ∧ (6 < 3 → isDig c6 = true) ∧ (7 < 3 → decide ((c7.toNat : Int) = 45) = true) ∧ (8 < 3 → isDig c8 = true) ∧ (9 < 3 → isDig c9 = true)) := (by
          obtain ⟨p0, p1, p2, p3, p4, p5, p6, p7, p8, p9⟩ := P.out
          exact ⟨fun _ => p0 (by omega), fun _ => p1 (by omega), fun _ => k, fun h => by omega, fun h => by omega, fun h => by omega, fun h => by omega, fun h => by omega, fun h => by omega, fun h => by omega⟩)
        have R : R3 w wr w.heap.size (10 * (dig c0) + dig c1) (0) (0) := HR.out
        have ND : Hid ((c2.toNat : Int) - 48 = dig c2) := (rfl : (c2.toNat : Int) - 48 = dig c2)
        clear k HR
        obtain ⟨k0, k1⟩ := k'
        have vb : -100000000 ≤ 10 * (dig c0) + dig c1 ∧ 10 * (dig c0) + dig c1 ≤ 100000000 := by have := dig_bd c0; have := dig_bd c1; omega
        obtain ⟨vb0, vb1⟩ := vb
        generalize hX : 10 * (dig c0) + dig c1 = X at *
        have HX : Hid _ := hX
        clear hX
        have r0 := R.c0
        have rf := R.fz 0
        have HR : Hid _ := R
        clear R
        generalize (c2.toNat : Int) = C at *
        go_upto_region 15 with fail
        go_region
        go_wp2
        go_roundg 7
        case measure => omega
        case rel =>
          have Q := (HR.out.set0 (10 * X + (C - 48))).drew
          refine ⟨3, by omega, rfl, rfl, ?_, NX⟩
          rw [ND.out] at Q ⊢
          rw [← HX.out] at Q ⊢
          exact Q
    · have xi : ((((⟨#[c0, c1, c2, c3, c4, c5, c6, c7, c8, c9]⟩ : ByteArray)[3]'(by show 3 < 10; omega)).toNat : Nat) : Int) = (c3.toNat : Int) := rfl
      cases k : isDig c3
      · have E : Hid (fitB c0 c1 c2 c3 c4 c5 c6 c7 c8 c9 = false) := (by rw [FB.out, k]; simp : fitB c0 c1 c2 c3 c4 c5 c6 c7 c8 c9 = false)
        have k' := isDig_no k
        have BL : Hid _ := HR.out.bl
        clear k
        generalize (c3.toNat : Int) = C at *
        rcases k' with k' | ⟨k', k''⟩
        · go_wp2
          go_ret2
          exact ⟨by rw [(rd_no E.out).1, (rd_no E.out).2]; rfl, BL.out⟩
        · go_wp2
          go_ret2
          exact ⟨by rw [(rd_no E.out).1, (rd_no E.out).2]; rfl, BL.out⟩
      · have k' := isDig_of k
        have NX : Hid ((0 < 4 → isDig c0 = true) ∧ (1 < 4 → isDig c1 = true) ∧ (2 < 4 → isDig c2 = true) ∧ (3 < 4 → isDig c3 = true) ∧ (4 < 4 → decide ((c4.toNat : Int) = 45) = true) ∧ (5 < 4 → isDig c5 = true) ∧ (6 < 4 → isDig c6 = true) ∧ (7 < 4 → decide ((c7.toNat : Int) = 45) = true) ∧ (8 < 4 → isDig c8 = true) ∧ (9 < 4 → isDig c9 = true)) := (by
          obtain ⟨p0, p1, p2, p3, p4, p5, p6, p7, p8, p9⟩ := P.out
          exact ⟨fun _ => p0 (by omega), fun _ => p1 (by omega), fun _ => p2 (by omega), fun _ => k, fun h => by omega, fun h => by omega, fun h => by omega, fun h => by omega, fun h => by omega, fun h => by omega⟩)
        have R : R3 w wr w.heap.size (10 * (10 * (dig c0) + dig c1) + dig c2) (0) (0) := HR.out
        have ND : Hid ((c3.toNat : Int) - 48 = dig c3) := (rfl : (c3.toNat : Int) - 48 = dig c3)
        clear k HR
        obtain ⟨k0, k1⟩ := k'
        have vb : -100000000 ≤ 10 * (10 * (dig c0) + dig c1) + dig c2 ∧ 10 * (10 * (dig c0) + dig c1) + dig c2 ≤ 100000000 := by have := dig_bd c0; have := dig_bd c1; have := dig_bd c2; omega
        obtain ⟨vb0, vb1⟩ := vb
        generalize hX : 10 * (10 * (dig c0) + dig c1) + dig c2 = X at *
        have HX : Hid _ := hX
        clear hX
        have r0 := R.c0
        have rf := R.fz 0
        have HR : Hid _ := R
        clear R
        generalize (c3.toNat : Int) = C at *
        go_upto_region 15 with fail
        go_region
        go_wp2
        go_roundg 6
        case measure => omega
        case rel =>
          have Q := (HR.out.set0 (10 * X + (C - 48))).drew
          refine ⟨4, by omega, rfl, rfl, ?_, NX⟩
          rw [ND.out] at Q ⊢
          rw [← HX.out] at Q ⊢
          exact Q
    · have NX : Hid ((0 < 5 → isDig c0 = true) ∧ (1 < 5 → isDig c1 = true) ∧ (2 < 5 → isDig c2 = true) ∧ (3 < 5 → isDig c3 = true) ∧ (4 < 5 → decide ((c4.toNat : Int) = 45) = true) ∧ (5 < 5 → isDig c5 = true) ∧ (6 < 5 → isDig c6 = true) ∧ (7 < 5 → decide ((c7.toNat : Int) = 45) = true) ∧ (8 < 5 → isDig c8 = true) ∧ (9 < 5 → isDig c9 = true)) := (by
          obtain ⟨p0, p1, p2, p3, p4, p5, p6, p7, p8, p9⟩ := P.out
          exact ⟨fun _ => p0 (by omega), fun _ => p1 (by omega), fun _ => p2 (by omega), fun _ => p3 (by omega), fun _ => decide_eq_true H4.out, fun h => by omega, fun h => by omega, fun h => by omega, fun h => by omega, fun h => by omega⟩)
      go_wp2
      go_roundg 5
      case measure => omega
      case rel => exact ⟨5, by omega, rfl, rfl, HR, NX⟩
    · have xi : ((((⟨#[c0, c1, c2, c3, c4, c5, c6, c7, c8, c9]⟩ : ByteArray)[5]'(by show 5 < 10; omega)).toNat : Nat) : Int) = (c5.toNat : Int) := rfl
      cases k : isDig c5
      · have E : Hid (fitB c0 c1 c2 c3 c4 c5 c6 c7 c8 c9 = false) := (by rw [FB.out, k]; simp : fitB c0 c1 c2 c3 c4 c5 c6 c7 c8 c9 = false)
        have k' := isDig_no k
        have BL : Hid _ := HR.out.bl
        clear k
        generalize (c5.toNat : Int) = C at *
        rcases k' with k' | ⟨k', k''⟩
        · go_wp2
          go_ret2
          exact ⟨by rw [(rd_no E.out).1, (rd_no E.out).2]; rfl, BL.out⟩
        · go_wp2
          go_ret2
          exact ⟨by rw [(rd_no E.out).1, (rd_no E.out).2]; rfl, BL.out⟩
      · have k' := isDig_of k
        have NX : Hid ((0 < 6 → isDig c0 = true) ∧ (1 < 6 → isDig c1 = true) ∧ (2 < 6 → isDig c2 = true) ∧ (3 < 6 → isDig c3 = true) ∧ (4 < 6 → decide ((c4.toNat : Int) = 45) = true) ∧ (5 < 6 → isDig c5 = true) ∧ (6 < 6 → isDig c6 = true) ∧ (7 < 6 → decide ((c7.toNat : Int) = 45) = true) ∧ (8 < 6 → isDig c8 = true) ∧ (9 < 6 → isDig c9 = true)) := (by
          obtain ⟨p0, p1, p2, p3, p4, p5, p6, p7, p8, p9⟩ := P.out
          exact ⟨fun _ => p0 (by omega), fun _ => p1 (by omega), fun _ => p2 (by omega), fun _ => p3 (by omega), fun _ => p4 (by omega), fun _ => k, fun h => by omega, fun h => by omega, fun h => by omega, fun h => by omega⟩)
        have R : R3 w wr w.heap.size (10 * (10 * (10 * (dig c0) + dig c1) + dig c2) + dig c3) (0) (0) := HR.out
        have ND : Hid ((c5.toNat : Int) - 48 = dig c5) := (rfl : (c5.toNat : Int) - 48 = dig c5)
        clear k HR
        obtain ⟨k0, k1⟩ := k'
        have r1 := R.c1
        have rf := R.fz 1
        have HR : Hid _ := R
        clear R
        generalize (c5.toNat : Int) = C at *
        go_upto_region 15 with fail
        go_region
        go_wp2
        go_roundg 4
        case measure => omega
        case rel =>
          have Q := (HR.out.set1 (C - 48)).drew
          rw [ND.out] at Q
          refine ⟨6, by omega, rfl, rfl, ?_, NX⟩
          rw [← ND.out] at Q
          first | exact Q | (rw [ND.out] at Q; exact Q) | (simp only [ND.out]; rw [ND.out] at Q; exact Q)
    · have xi : ((((⟨#[c0, c1, c2, c3, c4, c5, c6, c7, c8, c9]⟩ : ByteArray)[6]'(by show 6 < 10; omega)).toNat : Nat) : Int) = (c6.toNat : Int) := rfl
      cases k : isDig c6
      · have E : Hid (fitB c0 c1 c2 c3 c4 c5 c6 c7 c8 c9 = false) := (by rw [FB.out, k]; simp : fitB c0 c1 c2 c3 c4 c5 c6 c7 c8 c9 = false)
        have k' := isDig_no k
        have BL : Hid _ := HR.out.bl
        clear k
        generalize (c6.toNat : Int) = C at *
        rcases k' with k' | ⟨k', k''⟩
        · go_wp2
          go_ret2
          exact ⟨by rw [(rd_no E.out).1, (rd_no E.out).2]; rfl, BL.out⟩
        · go_wp2
          go_ret2
          exact ⟨by rw [(rd_no E.out).1, (rd_no E.out).2]; rfl, BL.out⟩
      · have k' := isDig_of k
        have NX : Hid ((0 < 7 → isDig c0 = true) ∧ (1 < 7 → isDig c1 = true) ∧ (2 < 7 → isDig c2 = true) ∧ (3 < 7 → isDig c3 = true) ∧ (4 < 7 → decide ((c4.toNat : Int) = 45) = true) ∧ (5 < 7 → isDig c5 = true) ∧ (6 < 7 → isDig c6 = true) ∧ (7 < 7 → decide ((c7.toNat : Int) = 45) = true) ∧ (8 < 7 → isDig c8 = true) ∧ (9 < 7 → isDig c9 = true)) := (by
          obtain ⟨p0, p1, p2, p3, p4, p5, p6, p7, p8, p9⟩ := P.out
          exact ⟨fun _ => p0 (by omega), fun _ => p1 (by omega), fun _ => p2 (by omega), fun _ => p3 (by omega), fun _ => p4 (by omega), fun _ => p5 (by omega), fun _ => k, fun h => by omega, fun h => by omega, fun h => by omega⟩)
        have R : R3 w wr w.heap.size (10 * (10 * (10 * (dig c0) + dig c1) + dig c2) + dig c3) (dig c5) (0) := HR.out
        have ND : Hid ((c6.toNat : Int) - 48 = dig c6) := (rfl : (c6.toNat : Int) - 48 = dig c6)
        clear k HR
        obtain ⟨k0, k1⟩ := k'
        have vb : -100000000 ≤ dig c5 ∧ dig c5 ≤ 100000000 := by have := dig_bd c5; omega
        obtain ⟨vb0, vb1⟩ := vb
        generalize hX : dig c5 = X at *
        have HX : Hid _ := hX
        clear hX
        have r1 := R.c1
        have rf := R.fz 1
        have HR : Hid _ := R
        clear R
        generalize (c6.toNat : Int) = C at *
        go_upto_region 15 with fail
        go_region
        go_wp2
        go_roundg 3
        case measure => omega
        case rel =>
          have Q := (HR.out.set1 (10 * X + (C - 48))).drew
          refine ⟨7, by omega, rfl, rfl, ?_, NX⟩
          rw [ND.out] at Q ⊢
          rw [← HX.out] at Q ⊢
          exact Q
    · have NX : Hid ((0 < 8 → isDig c0 = true) ∧ (1 < 8 → isDig c1 = true) ∧ (2 < 8 → isDig c2 = true) ∧ (3 < 8 → isDig c3 = true) ∧ (4 < 8 → decide ((c4.toNat : Int) = 45) = true) ∧ (5 < 8 → isDig c5 = true) ∧ (6 < 8 → isDig c6 = true) ∧ (7 < 8 → decide ((c7.toNat : Int) = 45) = true) ∧ (8 < 8 → isDig c8 = true) ∧ (9 < 8 → isDig c9 = true)) := (by
          obtain ⟨p0, p1, p2, p3, p4, p5, p6, p7, p8, p9⟩ := P.out
          exact ⟨fun _ => p0 (by omega), fun _ => p1 (by omega), fun _ => p2 (by omega), fun _ => p3 (by omega), fun _ => p4 (by omega), fun _ => p5 (by omega), fun _ => p6 (by omega), fun _ => decide_eq_true H7.out, fun h => by omega, fun h => by omega⟩)
      go_wp2
      go_roundg 2
      case measure => omega
      case rel => exact ⟨8, by omega, rfl, rfl, HR, NX⟩
    · have xi : ((((⟨#[c0, c1, c2, c3, c4, c5, c6, c7, c8, c9]⟩ : ByteArray)[8]'(by show 8 < 10; omega)).toNat : Nat) : Int) = (c8.toNat : Int) := rfl
      cases k : isDig c8
      · have E : Hid (fitB c0 c1 c2 c3 c4 c5 c6 c7 c8 c9 = false) := (by rw [FB.out, k]; simp : fitB c0 c1 c2 c3 c4 c5 c6 c7 c8 c9 = false)
        have k' := isDig_no k
        have BL : Hid _ := HR.out.bl
        clear k
        generalize (c8.toNat : Int) = C at *
        rcases k' with k' | ⟨k', k''⟩
        · go_wp2
          go_ret2
          exact ⟨by rw [(rd_no E.out).1, (rd_no E.out).2]; rfl, BL.out⟩
        · go_wp2
          go_ret2
          exact ⟨by rw [(rd_no E.out).1, (rd_no E.out).2]; rfl, BL.out⟩
      · have k' := isDig_of k
        have NX : Hid ((0 < 9 → isDig c0 = true) ∧ (1 < 9 → isDig c1 = true) ∧ (2 < 9 → isDig c2 = true) ∧ (3 < 9 → isDig c3 = true) ∧ (4 < 9 → decide ((c4.toNat : Int) = 45) = true) ∧ (5 < 9 → isDig c5 = true) ∧ (6 < 9 → isDig c6 = true) ∧ (7 < 9 → decide ((c7.toNat : Int) = 45) = true) ∧ (8 < 9 → isDig c8 = true) ∧ (9 < 9 → isDig c9 = true)) := (by
          obtain ⟨p0, p1, p2, p3, p4, p5, p6, p7, p8, p9⟩ := P.out
          exact ⟨fun _ => p0 (by omega), fun _ => p1 (by omega), fun _ => p2 (by omega), fun _ => p3 (by omega), fun _ => p4 (by omega), fun _ => p5 (by omega), fun _ => p6 (by omega), fun _ => p7 (by omega), fun _ => k, fun h => by omega⟩)
        have R : R3 w wr w.heap.size (10 * (10 * (10 * (dig c0) + dig c1) + dig c2) + dig c3) (10 * (dig c5) + dig c6) (0) := HR.out
        have ND : Hid ((c8.toNat : Int) - 48 = dig c8) := (rfl : (c8.toNat : Int) - 48 = dig c8)
        clear k HR
        obtain ⟨k0, k1⟩ := k'
        have r2 := R.c2
        have rf := R.fz 2
        have HR : Hid _ := R
        clear R
        generalize (c8.toNat : Int) = C at *
        go_upto_region 15 with fail
        go_region
        go_wp2
        go_roundg 1
        case measure => omega
        case rel =>
          have Q := (HR.out.set2 (C - 48)).drew
          rw [ND.out] at Q
          refine ⟨9, by omega, rfl, rfl, ?_, NX⟩
          rw [← ND.out] at Q
          first | exact Q | (rw [ND.out] at Q; exact Q) | (simp only [ND.out]; rw [ND.out] at Q; exact Q)
    · have xi : ((((⟨#[c0, c1, c2, c3, c4, c5, c6, c7, c8, c9]⟩ : ByteArray)[9]'(by show 9 < 10; omega)).toNat : Nat) : Int) = (c9.toNat : Int) := rfl
      cases k : isDig c9
      · have E : Hid (fitB c0 c1 c2 c3 c4 c5 c6 c7 c8 c9 = false) := (by rw [FB.out, k]; simp : fitB c0 c1 c2 c3 c4 c5 c6 c7 c8 c9 = false)
        have k' := isDig_no k
        have BL : Hid _ := HR.out.bl
        clear k
        generalize (c9.toNat : Int) = C at *
        rcases k' with k' | ⟨k', k''⟩
        · go_wp2
          go_ret2
          exact ⟨by rw [(rd_no E.out).1, (rd_no E.out).2]; rfl, BL.out⟩
        · go_wp2
          go_ret2
          exact ⟨by rw [(rd_no E.out).1, (rd_no E.out).2]; rfl, BL.out⟩
      · have k' := isDig_of k
        have NX : Hid ((0 < 10 → isDig c0 = true) ∧ (1 < 10 → isDig c1 = true) ∧ (2 < 10 → isDig c2 = true) ∧ (3 < 10 → isDig c3 = true) ∧ (4 < 10 → decide ((c4.toNat : Int) = 45) = true) ∧ (5 < 10 → isDig c5 = true) ∧ (6 < 10 → isDig c6 = true) ∧ (7 < 10 → decide ((c7.toNat : Int) = 45) = true) ∧ (8 < 10 → isDig c8 = true) ∧ (9 < 10 → isDig c9 = true)) := (by
          obtain ⟨p0, p1, p2, p3, p4, p5, p6, p7, p8, p9⟩ := P.out
          exact ⟨fun _ => p0 (by omega), fun _ => p1 (by omega), fun _ => p2 (by omega), fun _ => p3 (by omega), fun _ => p4 (by omega), fun _ => p5 (by omega), fun _ => p6 (by omega), fun _ => p7 (by omega), fun _ => p8 (by omega), fun _ => k⟩)
        have R : R3 w wr w.heap.size (10 * (10 * (10 * (dig c0) + dig c1) + dig c2) + dig c3) (10 * (dig c5) + dig c6) (dig c8) := HR.out
        have ND : Hid ((c9.toNat : Int) - 48 = dig c9) := (rfl : (c9.toNat : Int) - 48 = dig c9)
        clear k HR
        obtain ⟨k0, k1⟩ := k'
        have vb : -100000000 ≤ dig c8 ∧ dig c8 ≤ 100000000 := by have := dig_bd c8; omega
        obtain ⟨vb0, vb1⟩ := vb
        generalize hX : dig c8 = X at *
        have HX : Hid _ := hX
        clear hX
        have r2 := R.c2
        have rf := R.fz 2
        have HR : Hid _ := R
        clear R
        generalize (c9.toNat : Int) = C at *
        go_upto_region 15 with fail
        go_region
        go_wp2
        go_roundg 0
        case measure => omega
        case rel =>
          have Q := (HR.out.set2 (10 * X + (C - 48))).drew
          refine ⟨10, by omega, rfl, rfl, ?_, NX⟩
          rw [ND.out] at Q ⊢
          rw [← HX.out] at Q ⊢
          exact Q
    · have E : Hid (fitB c0 c1 c2 c3 c4 c5 c6 c7 c8 c9 = true) := (by
        obtain ⟨p0, p1, p2, p3, p4, p5, p6, p7, p8, p9⟩ := P.out
        rw [FB.out, p0 (by omega), p1 (by omega), p2 (by omega), p3 (by omega), p4 (by omega), p5 (by omega), p6 (by omega), p7 (by omega), p8 (by omega), p9 (by omega)]; rfl)
      have R := HR.out
      rw [fa_end, fb_end, fc_end] at R
      have bd := dg4_bd (a := c0) (b := c1) (c := c2) (d := c3)
      have ES : Hid _ := rd_yes E.out
      generalize dg4 c0 c1 c2 c3 = A at *
      generalize dg2 c5 c6 = B at *
      generalize dg2 c8 c9 = D at *
      have S0 : S3 w w.heap.size A B D wr := R.all
      have S1 : S3 w w.heap.size A B D wr.drew := R.drew.all
      have SB : Hid _ := R.bl
      clear HR R
      go_upto_region 16 with fail
      go_region_held3 (S3 w w.heap.size A B D) (first | with_reducible assumption) (first | (go_at_call 72; refine (rday_any _ _ _ _ bd).mono ?_; rintro e w8 ⟨rfl, rfl⟩))
      all_goals go_wp2
      all_goals go_ret2
      all_goals exact ⟨by rw [ES.out.1, ES.out.2]; rfl, S1.2.2.2⟩

theorem rread_all (c0 c1 c2 c3 c4 c5 c6 c7 c8 c9 : UInt8) (w : World) :
    Calls Tryd.prog 51 #[.string ⟨#[c0, c1, c2, c3, c4, c5, c6, c7, c8, c9]⟩] w fun e w' => e = .returned (.tuple #[.int .i64 (rdN c0 c1 c2 c3 c4 c5 c6 c7 c8 c9), .bool (rdB c0 c1 c2 c3 c4 c5 c6 c7 c8 c9)]) ∧ Below w.heap.size w w' := by
  by_cases k4 : (c4.toNat : Int) = 45
  · by_cases k7 : (c7.toNat : Int) = 45
    · exact rread_10 c0 c1 c2 c3 c4 c5 c6 c7 c8 c9 w k4 k7
    · exact rread_stroke c0 c1 c2 c3 c4 c5 c6 c7 c8 c9 w (.inr k7)
  · exact rread_stroke c0 c1 c2 c3 c4 c5 c6 c7 c8 c9 w (.inl k4)

end Go.Proofs.YtonmdlhlkacppaaDoor

