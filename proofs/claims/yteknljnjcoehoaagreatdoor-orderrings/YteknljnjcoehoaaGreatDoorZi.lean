/- Parts of the proof. -/
import Derived.Test.YteknljnjcoehoaaGreatDoorZa
namespace Go.Proofs.YteknljnjcoehoaaGreatDoor
open Go.RowKit
set_option linter.unusedVariables false
set_option linter.unusedSimpArgs false
set_option maxRecDepth 100000
theorem ring20:ckR 20=true:=by decide +kernel
theorem row20_0:ckW 20 0=true:=by decide +kernel
theorem row20_1:ckW 20 1=true:=by decide +kernel
theorem row20_2:ckW 20 2=true:=by decide +kernel
theorem row20_3:ckW 20 3=true:=by decide +kernel
theorem row20_4:ckW 20 4=true:=by decide +kernel
theorem row20_5:ckW 20 5=true:=by decide +kernel
theorem row20_6:ckW 20 6=true:=by decide +kernel
theorem row20_7:ckW 20 7=true:=by decide +kernel
theorem row20_8:ckW 20 8=true:=by decide +kernel
theorem row20_9:ckW 20 9=true:=by decide +kernel
end Go.Proofs.YteknljnjcoehoaaGreatDoor
