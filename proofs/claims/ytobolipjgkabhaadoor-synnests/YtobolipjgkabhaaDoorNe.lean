/- SynNests: min, 53 to 60. -/
import Derived.Test.YtobolipjgkabhaaDoorNa
namespace Go.Proofs.YtobolipjgkabhaaDoor
set_option linter.unusedVariables false
set_option linter.unusedSimpArgs false
set_option maxRecDepth 100000

theorem c3_53 : ckN 3 53 = true := by decide +kernel
theorem c3_54 : ckN 3 54 = true := by decide +kernel
theorem c3_55 : ckN 3 55 = true := by decide +kernel
theorem c3_56 : ckN 3 56 = true := by decide +kernel
theorem c3_57 : ckN 3 57 = true := by decide +kernel
theorem c3_58 : ckN 3 58 = true := by decide +kernel
theorem c3_59 : ckN 3 59 = true := by decide +kernel
theorem c3_60 : ckN 3 60 = true := by decide +kernel
end Go.Proofs.YtobolipjgkabhaaDoor
