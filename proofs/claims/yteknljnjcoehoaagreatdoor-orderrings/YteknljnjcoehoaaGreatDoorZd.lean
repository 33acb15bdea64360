/- Parts of the proof. -/
import Derived.Test.YteknljnjcoehoaaGreatDoorZa
namespace Go.Proofs.YteknljnjcoehoaaGreatDoor
open Go.RowKit
set_option linter.unusedVariables false
set_option linter.unusedSimpArgs false
set_option maxRecDepth 100000
theorem ring13:ckR 13=true:=by decide +kernel
theorem row13_0:ckW 13 0=true:=by decide +kernel
theorem row13_1:ckW 13 1=true:=by decide +kernel
theorem row13_2:ckW 13 2=true:=by decide +kernel
theorem row13_3:ckW 13 3=true:=by decide +kernel
theorem row13_4:ckW 13 4=true:=by decide +kernel
theorem row13_5:ckW 13 5=true:=by decide +kernel
theorem row13_6:ckW 13 6=true:=by decide +kernel
theorem row13_7:ckW 13 7=true:=by decide +kernel
theorem row13_8:ckW 13 8=true:=by decide +kernel
theorem row13_9:ckW 13 9=true:=by decide +kernel
theorem row13_10:ckW 13 10=true:=by decide +kernel
theorem row13_11:ckW 13 11=true:=by decide +kernel
theorem row13_12:ckW 13 12=true:=by decide +kernel
theorem row13:∀ c,c<13→ckW 13 c=true
 | 0,_=>row13_0
 | 1,_=>row13_1
 | 2,_=>row13_2
 | 3,_=>row13_3
 | 4,_=>row13_4
 | 5,_=>row13_5
 | 6,_=>row13_6
 | 7,_=>row13_7
 | 8,_=>row13_8
 | 9,_=>row13_9
 | 10,_=>row13_10
 | 11,_=>row13_11
 | 12,_=>row13_12
 | c+13,h=>absurd h (by omega)
theorem ring14:ckR 14=true:=by decide +kernel
theorem row14_0:ckW 14 0=true:=by decide +kernel
theorem row14_1:ckW 14 1=true:=by decide +kernel
theorem row14_2:ckW 14 2=true:=by decide +kernel
theorem row14_3:ckW 14 3=true:=by decide +kernel
theorem row14_4:ckW 14 4=true:=by decide +kernel
theorem row14_5:ckW 14 5=true:=by decide +kernel
theorem row14_6:ckW 14 6=true:=by decide +kernel
theorem row14_7:ckW 14 7=true:=by decide +kernel
theorem row14_8:ckW 14 8=true:=by decide +kernel
theorem row14_9:ckW 14 9=true:=by decide +kernel
theorem row14_10:ckW 14 10=true:=by decide +kernel
theorem row14_11:ckW 14 11=true:=by decide +kernel
theorem row14_12:ckW 14 12=true:=by decide +kernel
theorem row14_13:ckW 14 13=true:=by decide +kernel
theorem row14:∀ c,c<14→ckW 14 c=true
 | 0,_=>row14_0
 | 1,_=>row14_1
 | 2,_=>row14_2
 | 3,_=>row14_3
 | 4,_=>row14_4
 | 5,_=>row14_5
 | 6,_=>row14_6
 | 7,_=>row14_7
 | 8,_=>row14_8
 | 9,_=>row14_9
 | 10,_=>row14_10
 | 11,_=>row14_11
 | 12,_=>row14_12
 | 13,_=>row14_13
 | c+14,h=>absurd h (by omega)
end Go.Proofs.YteknljnjcoehoaaGreatDoor
