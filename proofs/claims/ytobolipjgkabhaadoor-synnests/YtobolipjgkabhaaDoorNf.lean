/- SynNests: ifs. -/
import Derived.Test.YtobolipjgkabhaaDoorNa
namespace Go.Proofs.YtobolipjgkabhaaDoor
set_option linter.unusedVariables false
set_option linter.unusedSimpArgs false
set_option maxRecDepth 100000

theorem cW_0 : ckW 0 = true := by decide +kernel
theorem cW_1 : ckW 1 = true := by decide +kernel
theorem cW_2 : ckW 2 = true := by decide +kernel
theorem cW_3 : ckW 3 = true := by decide +kernel
theorem cW_4 : ckW 4 = true := by decide +kernel
theorem cW_5 : ckW 5 = true := by decide +kernel
theorem cW_6 : ckW 6 = true := by decide +kernel
theorem cW_7 : ckW 7 = true := by decide +kernel
theorem cW_8 : ckW 8 = true := by decide +kernel
theorem cW_9 : ckW 9 = true := by decide +kernel
theorem cW_10 : ckW 10 = true := by decide +kernel
theorem cW_11 : ckW 11 = true := by decide +kernel
theorem cW_12 : ckW 12 = true := by decide +kernel
theorem cW_13 : ckW 13 = true := by decide +kernel
theorem cW_14 : ckW 14 = true := by decide +kernel
theorem cW_15 : ckW 15 = true := by decide +kernel
theorem cW_16 : ckW 16 = true := by decide +kernel
theorem cW_17 : ckW 17 = true := by decide +kernel
theorem cW_18 : ckW 18 = true := by decide +kernel
theorem cW_19 : ckW 19 = true := by decide +kernel
theorem cW_20 : ckW 20 = true := by decide +kernel
theorem cW_21 : ckW 21 = true := by decide +kernel
theorem cW_22 : ckW 22 = true := by decide +kernel
theorem cW_23 : ckW 23 = true := by decide +kernel
theorem cW_24 : ckW 24 = true := by decide +kernel
theorem cW_25 : ckW 25 = true := by decide +kernel
theorem cW_26 : ckW 26 = true := by decide +kernel
theorem cW_27 : ckW 27 = true := by decide +kernel
theorem cW_28 : ckW 28 = true := by decide +kernel
theorem cW_29 : ckW 29 = true := by decide +kernel
theorem cW_30 : ckW 30 = true := by decide +kernel
theorem cW_31 : ckW 31 = true := by decide +kernel
theorem cW_32 : ckW 32 = true := by decide +kernel
theorem cW_33 : ckW 33 = true := by decide +kernel
theorem cW_34 : ckW 34 = true := by decide +kernel
theorem cW_35 : ckW 35 = true := by decide +kernel
theorem cW_36 : ckW 36 = true := by decide +kernel
theorem cW_37 : ckW 37 = true := by decide +kernel
theorem cW_38 : ckW 38 = true := by decide +kernel
theorem cW_39 : ckW 39 = true := by decide +kernel
theorem cW_40 : ckW 40 = true := by decide +kernel
theorem cW_41 : ckW 41 = true := by decide +kernel
theorem cW_42 : ckW 42 = true := by decide +kernel
theorem cW_43 : ckW 43 = true := by decide +kernel
theorem cW_44 : ckW 44 = true := by decide +kernel
theorem cW_45 : ckW 45 = true := by decide +kernel
theorem cW_46 : ckW 46 = true := by decide +kernel
theorem cW_47 : ckW 47 = true := by decide +kernel
theorem cW_48 : ckW 48 = true := by decide +kernel
theorem cW_49 : ckW 49 = true := by decide +kernel
theorem cW_50 : ckW 50 = true := by decide +kernel
theorem cW_51 : ckW 51 = true := by decide +kernel
theorem cW_52 : ckW 52 = true := by decide +kernel
theorem cW_53 : ckW 53 = true := by decide +kernel
theorem cW_54 : ckW 54 = true := by decide +kernel
theorem cW_55 : ckW 55 = true := by decide +kernel
theorem cW_56 : ckW 56 = true := by decide +kernel
theorem cW_57 : ckW 57 = true := by decide +kernel
theorem cW_58 : ckW 58 = true := by decide +kernel
theorem cW_59 : ckW 59 = true := by decide +kernel
theorem cW_60 : ckW 60 = true := by decide +kernel
end Go.Proofs.YtobolipjgkabhaaDoor
