/- The walks over package publicanref1: leap years, a date's day, a day's date, months on. -/
import Derived.Test.YtobolipjgkabhaaDoorM2
namespace Go.Proofs.YtobolipjgkabhaaDoor
open Go.RowKit
set_option linter.unusedVariables false
set_option linter.unusedSimpArgs false

theorem yl_yes {y : Int} (h : leapB y = true) : yl y = 366 := by unfold yl; rw [h]; rfl
theorem yl_no {y : Int} (h : leapB y = false) : yl y = 365 := by unfold yl; rw [h]; rfl

end Go.Proofs.YtobolipjgkabhaaDoor
