/- Parts of the proof. -/
import Derived.Test.YteknljnjcoehoaaGreatDoorZa
namespace Go.Proofs.YteknljnjcoehoaaGreatDoor
open Go.RowKit
set_option linter.unusedVariables false
set_option linter.unusedSimpArgs false
set_option maxRecDepth 100000
theorem ring15:ckR 15=true:=by decide +kernel
theorem row15_0:ckW 15 0=true:=by decide +kernel
theorem row15_1:ckW 15 1=true:=by decide +kernel
theorem row15_2:ckW 15 2=true:=by decide +kernel
theorem row15_3:ckW 15 3=true:=by decide +kernel
theorem row15_4:ckW 15 4=true:=by decide +kernel
theorem row15_5:ckW 15 5=true:=by decide +kernel
theorem row15_6:ckW 15 6=true:=by decide +kernel
theorem row15_7:ckW 15 7=true:=by decide +kernel
theorem row15_8:ckW 15 8=true:=by decide +kernel
theorem row15_9:ckW 15 9=true:=by decide +kernel
theorem row15_10:ckW 15 10=true:=by decide +kernel
theorem row15_11:ckW 15 11=true:=by decide +kernel
theorem row15_12:ckW 15 12=true:=by decide +kernel
theorem row15_13:ckW 15 13=true:=by decide +kernel
theorem row15_14:ckW 15 14=true:=by decide +kernel
theorem row15:∀ c,c<15→ckW 15 c=true
 | 0,_=>row15_0
 | 1,_=>row15_1
 | 2,_=>row15_2
 | 3,_=>row15_3
 | 4,_=>row15_4
 | 5,_=>row15_5
 | 6,_=>row15_6
 | 7,_=>row15_7
 | 8,_=>row15_8
 | 9,_=>row15_9
 | 10,_=>row15_10
 | 11,_=>row15_11
 | 12,_=>row15_12
 | 13,_=>row15_13
 | 14,_=>row15_14
 | c+15,h=>absurd h (by omega)
theorem ring16:ckR 16=true:=by decide +kernel
theorem row16_0:ckW 16 0=true:=by decide +kernel
theorem row16_1:ckW 16 1=true:=by decide +kernel
theorem row16_2:ckW 16 2=true:=by decide +kernel
theorem row16_3:ckW 16 3=true:=by decide +kernel
theorem row16_4:ckW 16 4=true:=by decide +kernel
theorem row16_5:ckW 16 5=true:=by decide +kernel
theorem row16_6:ckW 16 6=true:=by decide +kernel
theorem row16_7:ckW 16 7=true:=by decide +kernel
theorem row16_8:ckW 16 8=true:=by decide +kernel
theorem row16_9:ckW 16 9=true:=by decide +kernel
theorem row16_10:ckW 16 10=true:=by decide +kernel
theorem row16_11:ckW 16 11=true:=by decide +kernel
theorem row16_12:ckW 16 12=true:=by decide +kernel
theorem row16_13:ckW 16 13=true:=by decide +kernel
theorem row16_14:ckW 16 14=true:=by decide +kernel
theorem row16_15:ckW 16 15=true:=by decide +kernel
theorem row16:∀ c,c<16→ckW 16 c=true
 | 0,_=>row16_0
 | 1,_=>row16_1
 | 2,_=>row16_2
 | 3,_=>row16_3
 | 4,_=>row16_4
 | 5,_=>row16_5
 | 6,_=>row16_6
 | 7,_=>row16_7
 | 8,_=>row16_8
 | 9,_=>row16_9
 | 10,_=>row16_10
 | 11,_=>row16_11
 | 12,_=>row16_12
 | 13,_=>row16_13
 | 14,_=>row16_14
 | 15,_=>row16_15
 | c+16,h=>absurd h (by omega)
end Go.Proofs.YteknljnjcoehoaaGreatDoor
