/- SynNests: min, 41 to 52. -/
import Derived.Test.YtobolipjgkabhaaDoorNa
namespace Go.Proofs.YtobolipjgkabhaaDoor
set_option linter.unusedVariables false
set_option linter.unusedSimpArgs false
set_option maxRecDepth 100000

theorem c3_41 : ckN 3 41 = true := by decide +kernel
theorem c3_42 : ckN 3 42 = true := by decide +kernel
theorem c3_43 : ckN 3 43 = true := by decide +kernel
theorem c3_44 : ckN 3 44 = true := by decide +kernel
theorem c3_45 : ckN 3 45 = true := by decide +kernel
theorem c3_46 : ckN 3 46 = true := by decide +kernel
theorem c3_47 : ckN 3 47 = true := by decide +kernel
theorem c3_48 : ckN 3 48 = true := by decide +kernel
theorem c3_49 : ckN 3 49 = true := by decide +kernel
theorem c3_50 : ckN 3 50 = true := by decide +kernel
theorem c3_51 : ckN 3 51 = true := by decide +kernel
theorem c3_52 : ckN 3 52 = true := by decide +kernel
end Go.Proofs.YtobolipjgkabhaaDoor
