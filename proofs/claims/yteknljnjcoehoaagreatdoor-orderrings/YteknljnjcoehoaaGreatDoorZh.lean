/- Parts of the proof. -/
import Derived.Test.YteknljnjcoehoaaGreatDoorZa
namespace Go.Proofs.YteknljnjcoehoaaGreatDoor
open Go.RowKit
set_option linter.unusedVariables false
set_option linter.unusedSimpArgs false
set_option maxRecDepth 100000
theorem ring19:ckR 19=true:=by decide +kernel
theorem row19_0:ckW 19 0=true:=by decide +kernel
theorem row19_1:ckW 19 1=true:=by decide +kernel
theorem row19_2:ckW 19 2=true:=by decide +kernel
theorem row19_3:ckW 19 3=true:=by decide +kernel
theorem row19_4:ckW 19 4=true:=by decide +kernel
theorem row19_5:ckW 19 5=true:=by decide +kernel
theorem row19_6:ckW 19 6=true:=by decide +kernel
theorem row19_7:ckW 19 7=true:=by decide +kernel
theorem row19_8:ckW 19 8=true:=by decide +kernel
theorem row19_9:ckW 19 9=true:=by decide +kernel
theorem row19_10:ckW 19 10=true:=by decide +kernel
theorem row19_11:ckW 19 11=true:=by decide +kernel
theorem row19_12:ckW 19 12=true:=by decide +kernel
theorem row19_13:ckW 19 13=true:=by decide +kernel
theorem row19_14:ckW 19 14=true:=by decide +kernel
theorem row19_15:ckW 19 15=true:=by decide +kernel
theorem row19_16:ckW 19 16=true:=by decide +kernel
theorem row19_17:ckW 19 17=true:=by decide +kernel
theorem row19_18:ckW 19 18=true:=by decide +kernel
theorem row19:∀ c,c<19→ckW 19 c=true
 | 0,_=>row19_0
 | 1,_=>row19_1
 | 2,_=>row19_2
 | 3,_=>row19_3
 | 4,_=>row19_4
 | 5,_=>row19_5
 | 6,_=>row19_6
 | 7,_=>row19_7
 | 8,_=>row19_8
 | 9,_=>row19_9
 | 10,_=>row19_10
 | 11,_=>row19_11
 | 12,_=>row19_12
 | 13,_=>row19_13
 | 14,_=>row19_14
 | 15,_=>row19_15
 | 16,_=>row19_16
 | 17,_=>row19_17
 | 18,_=>row19_18
 | c+19,h=>absurd h (by omega)
end Go.Proofs.YteknljnjcoehoaaGreatDoor
