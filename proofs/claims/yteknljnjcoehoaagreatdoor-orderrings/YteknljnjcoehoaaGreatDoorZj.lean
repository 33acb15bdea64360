/- Parts of the proof. -/
import Derived.Test.YteknljnjcoehoaaGreatDoorZa
namespace Go.Proofs.YteknljnjcoehoaaGreatDoor
open Go.RowKit
set_option linter.unusedVariables false
set_option linter.unusedSimpArgs false
set_option maxRecDepth 100000
theorem row20_10:ckW 20 10=true:=by decide +kernel
theorem row20_11:ckW 20 11=true:=by decide +kernel
theorem row20_12:ckW 20 12=true:=by decide +kernel
theorem row20_13:ckW 20 13=true:=by decide +kernel
theorem row20_14:ckW 20 14=true:=by decide +kernel
theorem row20_15:ckW 20 15=true:=by decide +kernel
theorem row20_16:ckW 20 16=true:=by decide +kernel
theorem row20_17:ckW 20 17=true:=by decide +kernel
theorem row20_18:ckW 20 18=true:=by decide +kernel
theorem row20_19:ckW 20 19=true:=by decide +kernel
end Go.Proofs.YteknljnjcoehoaaGreatDoor
