/- Parts of the proof. -/
import Derived.Test.YteknljnjcoehoaaGreatDoorZa
namespace Go.Proofs.YteknljnjcoehoaaGreatDoor
open Go.RowKit
set_option linter.unusedVariables false
set_option linter.unusedSimpArgs false
set_option maxRecDepth 100000
theorem ring17:ckR 17=true:=by decide +kernel
theorem row17_0:ckW 17 0=true:=by decide +kernel
theorem row17_1:ckW 17 1=true:=by decide +kernel
theorem row17_2:ckW 17 2=true:=by decide +kernel
theorem row17_3:ckW 17 3=true:=by decide +kernel
theorem row17_4:ckW 17 4=true:=by decide +kernel
theorem row17_5:ckW 17 5=true:=by decide +kernel
theorem row17_6:ckW 17 6=true:=by decide +kernel
theorem row17_7:ckW 17 7=true:=by decide +kernel
theorem row17_8:ckW 17 8=true:=by decide +kernel
theorem row17_9:ckW 17 9=true:=by decide +kernel
theorem row17_10:ckW 17 10=true:=by decide +kernel
theorem row17_11:ckW 17 11=true:=by decide +kernel
theorem row17_12:ckW 17 12=true:=by decide +kernel
theorem row17_13:ckW 17 13=true:=by decide +kernel
theorem row17_14:ckW 17 14=true:=by decide +kernel
theorem row17_15:ckW 17 15=true:=by decide +kernel
theorem row17_16:ckW 17 16=true:=by decide +kernel
theorem row17:∀ c,c<17→ckW 17 c=true
 | 0,_=>row17_0
 | 1,_=>row17_1
 | 2,_=>row17_2
 | 3,_=>row17_3
 | 4,_=>row17_4
 | 5,_=>row17_5
 | 6,_=>row17_6
 | 7,_=>row17_7
 | 8,_=>row17_8
 | 9,_=>row17_9
 | 10,_=>row17_10
 | 11,_=>row17_11
 | 12,_=>row17_12
 | 13,_=>row17_13
 | 14,_=>row17_14
 | 15,_=>row17_15
 | 16,_=>row17_16
 | c+17,h=>absurd h (by omega)
end Go.Proofs.YteknljnjcoehoaaGreatDoor
