/- The calendar's numbers: leap years, months, the days ahead of a year and of a month; a day has one date. -/
import Derived.Test.YtobolipjgkabhaaDoorRows
namespace Go.Proofs.YtobolipjgkabhaaDoor
set_option linter.unusedVariables false
set_option linter.unusedSimpArgs false

def leapB (y : Int) : Bool := (y.tmod 4 == 0 && y.tmod 100 != 0) || y.tmod 400 == 0
def days (y m : Int) : Int := if m = 2 then (if leapB y then 29 else 28) else if m = 4 ∨ m = 6 ∨ m = 9 ∨ m = 11 then 30 else if 1 ≤ m ∧ m ≤ 12 then 31 else 0
def ahead (y : Int) : Int := (y - 1) / 4 - (y - 1) / 100 + (y - 1) / 400
def ny (y : Int) : Int := (y - 1900) * 365 + ahead y - 460
def bef (y : Int) : Nat → Int
  | 0 => 0
  | k + 1 => bef y k + days y (k + 1)
def yl (y : Int) : Int := if leapB y then 366 else 365

theorem leap_iff {y : Int} (h : 0 ≤ y) : leapB y = true ↔ (y % 4 = 0 ∧ ¬ y % 100 = 0) ∨ y % 400 = 0 := by
  unfold leapB
  rw [Int.tmod_eq_emod_of_nonneg h, Int.tmod_eq_emod_of_nonneg h, Int.tmod_eq_emod_of_nonneg h]
  simp

theorem days_ge (y m : Int) : 0 ≤ days y m := by
  unfold days; split <;> split <;> (try split) <;> omega
theorem days_le (y m : Int) : days y m ≤ 31 := by
  unfold days; split <;> split <;> (try split) <;> omega
theorem days_in {y m : Int} (h : 0 < days y m) : 1 ≤ m ∧ m ≤ 12 := by
  unfold days at h; split at h
  · omega
  · split at h
    · omega
    · split at h
      · omega
      · omega
theorem days_28 {y m : Int} (h : 1 ≤ m) (h' : m ≤ 12) : 28 ≤ days y m := by
  unfold days; split
  · split <;> omega
  · split
    · omega
    · rw [if_pos ⟨h, h'⟩]; omega
theorem bef_step (y : Int) (k : Nat) : bef y (k + 1) = bef y k + days y (k + 1) := rfl
theorem bef_mono (y : Int) {j k : Nat} (h : j ≤ k) : bef y j ≤ bef y k := by
  induction k with
  | zero => obtain rfl : j = 0 := by omega
            exact Int.le_refl _
  | succ k ih =>
    rcases Nat.lt_or_ge j (k + 1) with c | c
    · have := ih (by omega); have := days_ge y (k + 1); rw [bef_step]; omega
    · obtain rfl : j = k + 1 := by omega
      exact Int.le_refl _
theorem bef_12 (y : Int) : bef y 12 = yl y := by
  unfold yl
  cases h : leapB y <;> simp [bef, days, h]
theorem bef_0 (y : Int) : bef y 0 = 0 := rfl
theorem yl_bd (y : Int) : 365 ≤ yl y ∧ yl y ≤ 366 := by unfold yl; split <;> omega
theorem ny_succ {y : Int} (h : 1900 ≤ y) : ny (y + 1) = ny y + yl y := by
  have e : leapB y = true ↔ _ := leap_iff (by omega)
  unfold ny ahead yl
  by_cases c : leapB y = true
  · rw [if_pos c]
    have d := e.1 c
    omega
  · rw [if_neg c]
    have d : ¬ _ := fun z => c (e.2 z)
    omega
theorem ny_mono {a b : Int} (h : 1900 ≤ a) (k : a ≤ b) : ny a ≤ ny b := by
  unfold ny ahead; omega
theorem ny_0 : ny 1900 = 0 := by decide
theorem ny_end : ny 2200 = 109573 := by decide

/-- The day n has the date y, m, d. -/
structure IsDate (n y m d : Int) : Prop where
  y0 : 1900 ≤ y
  y1 : y ≤ 2199
  m0 : 1 ≤ m
  m1 : m ≤ 12
  d0 : 1 ≤ d
  d1 : d ≤ days y m
  eq : n = ny y + bef y (m - 1).toNat + d - 1

theorem bef_m {y m : Int} (h : 1 ≤ m) : bef y m.toNat = bef y (m - 1).toNat + days y m := by
  obtain ⟨k, rfl⟩ : ∃ k : Nat, m = (k : Int) + 1 := ⟨(m - 1).toNat, by omega⟩
  rw [show ((k : Int) + 1).toNat = k + 1 by omega, show ((k : Int) + 1 - 1).toNat = k by omega]
  rfl
theorem IsDate.in_year {n y m d : Int} (h : IsDate n y m d) : ny y ≤ n ∧ n < ny (y + 1) := by
  have a := bef_m (y := y) h.m0
  have b := bef_mono y (j := 0) (k := (m - 1).toNat) (by omega)
  have c := bef_mono y (j := m.toNat) (k := 12) (by have := h.m1; omega)
  rw [bef_12] at c
  rw [bef_0] at b
  have e := ny_succ h.y0
  have := h.d0
  have := h.d1
  have := h.eq
  omega
theorem IsDate.bd {n y m d : Int} (h : IsDate n y m d) : 0 ≤ n ∧ n ≤ 109572 := by
  have a := h.in_year
  have b := ny_mono (a := 1900) (b := y) (by omega) h.y0
  have c := ny_mono (a := y + 1) (b := 2200) (by have := h.y0; omega) (by have := h.y1; omega)
  rw [ny_0] at b
  rw [ny_end] at c
  omega
theorem IsDate.year {n y m d y' m' d' : Int} (h : IsDate n y m d) (h' : IsDate n y' m' d') : y = y' := by
  have a := h.in_year
  have a' := h'.in_year
  have z := h.y0
  have z' := h'.y0
  rcases Int.lt_trichotomy y y' with c | c | c
  · have := ny_mono (a := y + 1) (b := y') (by omega) (by omega); omega
  · exact c
  · have := ny_mono (a := y' + 1) (b := y) (by omega) (by omega); omega
theorem IsDate.uniq {n y m d y' m' d' : Int} (h : IsDate n y m d) (h' : IsDate n y' m' d') : y = y' ∧ m = m' ∧ d = d' := by
  obtain rfl := h.year h'
  have e := h.eq
  have e' := h'.eq
  have s := bef_m (y := y) h.m0
  have s' := bef_m (y := y) h'.m0
  have p := h.d0; have p' := h'.d0; have q := h.d1; have q' := h'.d1; have r := h.m0; have r' := h'.m0
  rcases Int.lt_trichotomy m m' with c | c | c
  · have := bef_mono y (j := m.toNat) (k := (m' - 1).toNat) (by omega); omega
  · subst c
    exact ⟨rfl, rfl, by omega⟩
  · have := bef_mono y (j := m'.toNat) (k := (m - 1).toNat) (by omega); omega
theorem IsDate.uniqN {n n' y m d : Int} (h : IsDate n y m d) (h' : IsDate n' y m d) : n = n' := by
  rw [h.eq, h'.eq]

/-- A date that there is. -/
def dateB (y m d : Int) : Bool := decide (1900 ≤ y) && decide (y ≤ 2199) && decide (1 ≤ d) && decide (d ≤ days y m)
def dayN (y m d : Int) : Int := if dateB y m d then ny y + bef y (m - 1).toNat + d - 1 else 0
theorem dateB_iff (y m d : Int) : dateB y m d = true ↔ (1900 ≤ y ∧ y ≤ 2199 ∧ 1 ≤ d ∧ d ≤ days y m) := by
  unfold dateB; simp only [Bool.and_eq_true, decide_eq_true_eq]; omega
theorem isDate_of {y m d : Int} (h : dateB y m d = true) : IsDate (dayN y m d) y m d := by
  have k := (dateB_iff y m d).1 h
  have i := days_in (y := y) (m := m) (by omega)
  unfold dayN
  rw [if_pos h]
  exact ⟨k.1, k.2.1, i.1, i.2, k.2.2.1, k.2.2.2, rfl⟩
theorem IsDate.dateB {n y m d : Int} (h : IsDate n y m d) : dateB y m d = true :=
  (dateB_iff y m d).2 ⟨h.y0, h.y1, h.d0, h.d1⟩
theorem IsDate.dayN {n y m d : Int} (h : IsDate n y m d) : dayN y m d = n := (isDate_of h.dateB).uniqN h

theorem start_year {n : Int} (h : 0 ≤ n) : ny (1900 + n / 366) ≤ n := by unfold ny ahead; omega

/-- Behind the years: the months. -/
theorem month_more {n y m d : Int} (h : n < ny (y + 1)) (y0 : 1900 ≤ y) (m0 : 1 ≤ m) (m1 : m ≤ 12) (e : n = ny y + bef y (m - 1).toNat + d - 1) (k : days y m < d) : m < 12 := by
  rcases Int.lt_or_eq_of_le m1 with c | c
  · exact c
  · subst c
    have a := bef_m (y := y) (m := 12) (by omega)
    rw [show (12 : Int).toNat = 12 from rfl, bef_12] at a
    have := ny_succ y0
    omega
end Go.Proofs.YtobolipjgkabhaaDoor
