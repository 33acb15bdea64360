/- SynNests: min, up to 40. -/
import Derived.Test.YtobolipjgkabhaaDoorNa
namespace Go.Proofs.YtobolipjgkabhaaDoor
set_option linter.unusedVariables false
set_option linter.unusedSimpArgs false
set_option maxRecDepth 100000

theorem c3_0 : ckN 3 0 = true := by decide +kernel
theorem c3_1 : ckN 3 1 = true := by decide +kernel
theorem c3_2 : ckN 3 2 = true := by decide +kernel
theorem c3_3 : ckN 3 3 = true := by decide +kernel
theorem c3_4 : ckN 3 4 = true := by decide +kernel
theorem c3_5 : ckN 3 5 = true := by decide +kernel
theorem c3_6 : ckN 3 6 = true := by decide +kernel
theorem c3_7 : ckN 3 7 = true := by decide +kernel
theorem c3_8 : ckN 3 8 = true := by decide +kernel
theorem c3_9 : ckN 3 9 = true := by decide +kernel
theorem c3_10 : ckN 3 10 = true := by decide +kernel
theorem c3_11 : ckN 3 11 = true := by decide +kernel
theorem c3_12 : ckN 3 12 = true := by decide +kernel
theorem c3_13 : ckN 3 13 = true := by decide +kernel
theorem c3_14 : ckN 3 14 = true := by decide +kernel
theorem c3_15 : ckN 3 15 = true := by decide +kernel
theorem c3_16 : ckN 3 16 = true := by decide +kernel
theorem c3_17 : ckN 3 17 = true := by decide +kernel
theorem c3_18 : ckN 3 18 = true := by decide +kernel
theorem c3_19 : ckN 3 19 = true := by decide +kernel
theorem c3_20 : ckN 3 20 = true := by decide +kernel
theorem c3_21 : ckN 3 21 = true := by decide +kernel
theorem c3_22 : ckN 3 22 = true := by decide +kernel
theorem c3_23 : ckN 3 23 = true := by decide +kernel
theorem c3_24 : ckN 3 24 = true := by decide +kernel
theorem c3_25 : ckN 3 25 = true := by decide +kernel
theorem c3_26 : ckN 3 26 = true := by decide +kernel
theorem c3_27 : ckN 3 27 = true := by decide +kernel
theorem c3_28 : ckN 3 28 = true := by decide +kernel
theorem c3_29 : ckN 3 29 = true := by decide +kernel
theorem c3_30 : ckN 3 30 = true := by decide +kernel
theorem c3_31 : ckN 3 31 = true := by decide +kernel
theorem c3_32 : ckN 3 32 = true := by decide +kernel
theorem c3_33 : ckN 3 33 = true := by decide +kernel
theorem c3_34 : ckN 3 34 = true := by decide +kernel
theorem c3_35 : ckN 3 35 = true := by decide +kernel
theorem c3_36 : ckN 3 36 = true := by decide +kernel
theorem c3_37 : ckN 3 37 = true := by decide +kernel
theorem c3_38 : ckN 3 38 = true := by decide +kernel
theorem c3_39 : ckN 3 39 = true := by decide +kernel
theorem c3_40 : ckN 3 40 = true := by decide +kernel
end Go.Proofs.YtobolipjgkabhaaDoor
