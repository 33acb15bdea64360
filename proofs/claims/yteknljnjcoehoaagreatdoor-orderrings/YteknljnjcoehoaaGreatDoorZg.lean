/- Parts of the proof. -/
import Derived.Test.YteknljnjcoehoaaGreatDoorZa
namespace Go.Proofs.YteknljnjcoehoaaGreatDoor
open Go.RowKit
set_option linter.unusedVariables false
set_option linter.unusedSimpArgs false
set_option maxRecDepth 100000
theorem ring18:ckR 18=true:=by decide +kernel
theorem row18_0:ckW 18 0=true:=by decide +kernel
theorem row18_1:ckW 18 1=true:=by decide +kernel
theorem row18_2:ckW 18 2=true:=by decide +kernel
theorem row18_3:ckW 18 3=true:=by decide +kernel
theorem row18_4:ckW 18 4=true:=by decide +kernel
theorem row18_5:ckW 18 5=true:=by decide +kernel
theorem row18_6:ckW 18 6=true:=by decide +kernel
theorem row18_7:ckW 18 7=true:=by decide +kernel
theorem row18_8:ckW 18 8=true:=by decide +kernel
theorem row18_9:ckW 18 9=true:=by decide +kernel
theorem row18_10:ckW 18 10=true:=by decide +kernel
theorem row18_11:ckW 18 11=true:=by decide +kernel
theorem row18_12:ckW 18 12=true:=by decide +kernel
theorem row18_13:ckW 18 13=true:=by decide +kernel
theorem row18_14:ckW 18 14=true:=by decide +kernel
theorem row18_15:ckW 18 15=true:=by decide +kernel
theorem row18_16:ckW 18 16=true:=by decide +kernel
theorem row18_17:ckW 18 17=true:=by decide +kernel
theorem row18:∀ c,c<18→ckW 18 c=true
 | 0,_=>row18_0
 | 1,_=>row18_1
 | 2,_=>row18_2
 | 3,_=>row18_3
 | 4,_=>row18_4
 | 5,_=>row18_5
 | 6,_=>row18_6
 | 7,_=>row18_7
 | 8,_=>row18_8
 | 9,_=>row18_9
 | 10,_=>row18_10
 | 11,_=>row18_11
 | 12,_=>row18_12
 | 13,_=>row18_13
 | 14,_=>row18_14
 | 15,_=>row18_15
 | 16,_=>row18_16
 | 17,_=>row18_17
 | c+18,h=>absurd h (by omega)
end Go.Proofs.YteknljnjcoehoaaGreatDoor
