/- The walks over package publicanref1, on: months on, a day's text. -/
import Derived.Test.YtobolipjgkabhaaDoorR1
import Derived.Test.YtobolipjgkabhaaDoorW6
import Derived.Laws.Concat
namespace Go.Proofs.YtobolipjgkabhaaDoor
open Go.RowKit
set_option linter.unusedVariables false
set_option linter.unusedSimpArgs false

def twoS (n : Int) : ByteArray := strOfNums [48 + n / 10 % 10, 48 + n % 10]
theorem twoS_size (n : Int) : (twoS n).size = 2 := rfl

def stroke : ByteArray := ⟨#[45]⟩
theorem join_text (y m d : Int) : ((((twoS (y / 100) ++ twoS y) ++ stroke) ++ twoS m) ++ stroke) ++ twoS d = strOfNums (dtext y m d) := by
  have e1 : y / 100 / 10 % 10 = y / 10 / 10 / 10 % 10 := by omega
  have e2 : y / 100 % 10 = y / 10 / 10 % 10 := by omega
  unfold twoS
  rw [e1, e2]
  rfl

end Go.Proofs.YtobolipjgkabhaaDoor
