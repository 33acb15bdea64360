/- Parts of the proof. -/
import Derived.Test.YteknljnjcoehoaaGreatDoorZa
namespace Go.Proofs.YteknljnjcoehoaaGreatDoor
open Go.RowKit
set_option linter.unusedVariables false
set_option linter.unusedSimpArgs false
set_option maxRecDepth 100000
theorem ring1:ckR 1=true:=by decide +kernel
theorem row1_0:ckW 1 0=true:=by decide +kernel
theorem row1:∀ c,c<1→ckW 1 c=true
 | 0,_=>row1_0
 | c+1,h=>absurd h (by omega)
theorem ring2:ckR 2=true:=by decide +kernel
theorem row2_0:ckW 2 0=true:=by decide +kernel
theorem row2_1:ckW 2 1=true:=by decide +kernel
theorem row2:∀ c,c<2→ckW 2 c=true
 | 0,_=>row2_0
 | 1,_=>row2_1
 | c+2,h=>absurd h (by omega)
theorem ring3:ckR 3=true:=by decide +kernel
theorem row3_0:ckW 3 0=true:=by decide +kernel
theorem row3_1:ckW 3 1=true:=by decide +kernel
theorem row3_2:ckW 3 2=true:=by decide +kernel
theorem row3:∀ c,c<3→ckW 3 c=true
 | 0,_=>row3_0
 | 1,_=>row3_1
 | 2,_=>row3_2
 | c+3,h=>absurd h (by omega)
theorem ring4:ckR 4=true:=by decide +kernel
theorem row4_0:ckW 4 0=true:=by decide +kernel
theorem row4_1:ckW 4 1=true:=by decide +kernel
theorem row4_2:ckW 4 2=true:=by decide +kernel
theorem row4_3:ckW 4 3=true:=by decide +kernel
theorem row4:∀ c,c<4→ckW 4 c=true
 | 0,_=>row4_0
 | 1,_=>row4_1
 | 2,_=>row4_2
 | 3,_=>row4_3
 | c+4,h=>absurd h (by omega)
theorem ring5:ckR 5=true:=by decide +kernel
theorem row5_0:ckW 5 0=true:=by decide +kernel
theorem row5_1:ckW 5 1=true:=by decide +kernel
theorem row5_2:ckW 5 2=true:=by decide +kernel
theorem row5_3:ckW 5 3=true:=by decide +kernel
theorem row5_4:ckW 5 4=true:=by decide +kernel
theorem row5:∀ c,c<5→ckW 5 c=true
 | 0,_=>row5_0
 | 1,_=>row5_1
 | 2,_=>row5_2
 | 3,_=>row5_3
 | 4,_=>row5_4
 | c+5,h=>absurd h (by omega)
theorem ring6:ckR 6=true:=by decide +kernel
theorem row6_0:ckW 6 0=true:=by decide +kernel
theorem row6_1:ckW 6 1=true:=by decide +kernel
theorem row6_2:ckW 6 2=true:=by decide +kernel
theorem row6_3:ckW 6 3=true:=by decide +kernel
theorem row6_4:ckW 6 4=true:=by decide +kernel
theorem row6_5:ckW 6 5=true:=by decide +kernel
theorem row6:∀ c,c<6→ckW 6 c=true
 | 0,_=>row6_0
 | 1,_=>row6_1
 | 2,_=>row6_2
 | 3,_=>row6_3
 | 4,_=>row6_4
 | 5,_=>row6_5
 | c+6,h=>absurd h (by omega)
theorem ring7:ckR 7=true:=by decide +kernel
theorem row7_0:ckW 7 0=true:=by decide +kernel
theorem row7_1:ckW 7 1=true:=by decide +kernel
theorem row7_2:ckW 7 2=true:=by decide +kernel
theorem row7_3:ckW 7 3=true:=by decide +kernel
theorem row7_4:ckW 7 4=true:=by decide +kernel
theorem row7_5:ckW 7 5=true:=by decide +kernel
theorem row7_6:ckW 7 6=true:=by decide +kernel
theorem row7:∀ c,c<7→ckW 7 c=true
 | 0,_=>row7_0
 | 1,_=>row7_1
 | 2,_=>row7_2
 | 3,_=>row7_3
 | 4,_=>row7_4
 | 5,_=>row7_5
 | 6,_=>row7_6
 | c+7,h=>absurd h (by omega)
theorem ring8:ckR 8=true:=by decide +kernel
theorem row8_0:ckW 8 0=true:=by decide +kernel
theorem row8_1:ckW 8 1=true:=by decide +kernel
theorem row8_2:ckW 8 2=true:=by decide +kernel
theorem row8_3:ckW 8 3=true:=by decide +kernel
theorem row8_4:ckW 8 4=true:=by decide +kernel
theorem row8_5:ckW 8 5=true:=by decide +kernel
theorem row8_6:ckW 8 6=true:=by decide +kernel
theorem row8_7:ckW 8 7=true:=by decide +kernel
theorem row8:∀ c,c<8→ckW 8 c=true
 | 0,_=>row8_0
 | 1,_=>row8_1
 | 2,_=>row8_2
 | 3,_=>row8_3
 | 4,_=>row8_4
 | 5,_=>row8_5
 | 6,_=>row8_6
 | 7,_=>row8_7
 | c+8,h=>absurd h (by omega)
theorem ring9:ckR 9=true:=by decide +kernel
theorem row9_0:ckW 9 0=true:=by decide +kernel
theorem row9_1:ckW 9 1=true:=by decide +kernel
theorem row9_2:ckW 9 2=true:=by decide +kernel
theorem row9_3:ckW 9 3=true:=by decide +kernel
theorem row9_4:ckW 9 4=true:=by decide +kernel
theorem row9_5:ckW 9 5=true:=by decide +kernel
theorem row9_6:ckW 9 6=true:=by decide +kernel
theorem row9_7:ckW 9 7=true:=by decide +kernel
theorem row9_8:ckW 9 8=true:=by decide +kernel
theorem row9:∀ c,c<9→ckW 9 c=true
 | 0,_=>row9_0
 | 1,_=>row9_1
 | 2,_=>row9_2
 | 3,_=>row9_3
 | 4,_=>row9_4
 | 5,_=>row9_5
 | 6,_=>row9_6
 | 7,_=>row9_7
 | 8,_=>row9_8
 | c+9,h=>absurd h (by omega)
theorem ring10:ckR 10=true:=by decide +kernel
theorem row10_0:ckW 10 0=true:=by decide +kernel
theorem row10_1:ckW 10 1=true:=by decide +kernel
theorem row10_2:ckW 10 2=true:=by decide +kernel
theorem row10_3:ckW 10 3=true:=by decide +kernel
theorem row10_4:ckW 10 4=true:=by decide +kernel
theorem row10_5:ckW 10 5=true:=by decide +kernel
theorem row10_6:ckW 10 6=true:=by decide +kernel
theorem row10_7:ckW 10 7=true:=by decide +kernel
theorem row10_8:ckW 10 8=true:=by decide +kernel
theorem row10_9:ckW 10 9=true:=by decide +kernel
theorem row10:∀ c,c<10→ckW 10 c=true
 | 0,_=>row10_0
 | 1,_=>row10_1
 | 2,_=>row10_2
 | 3,_=>row10_3
 | 4,_=>row10_4
 | 5,_=>row10_5
 | 6,_=>row10_6
 | 7,_=>row10_7
 | 8,_=>row10_8
 | 9,_=>row10_9
 | c+10,h=>absurd h (by omega)
theorem ring11:ckR 11=true:=by decide +kernel
theorem row11_0:ckW 11 0=true:=by decide +kernel
theorem row11_1:ckW 11 1=true:=by decide +kernel
theorem row11_2:ckW 11 2=true:=by decide +kernel
theorem row11_3:ckW 11 3=true:=by decide +kernel
theorem row11_4:ckW 11 4=true:=by decide +kernel
theorem row11_5:ckW 11 5=true:=by decide +kernel
theorem row11_6:ckW 11 6=true:=by decide +kernel
theorem row11_7:ckW 11 7=true:=by decide +kernel
theorem row11_8:ckW 11 8=true:=by decide +kernel
theorem row11_9:ckW 11 9=true:=by decide +kernel
theorem row11_10:ckW 11 10=true:=by decide +kernel
theorem row11:∀ c,c<11→ckW 11 c=true
 | 0,_=>row11_0
 | 1,_=>row11_1
 | 2,_=>row11_2
 | 3,_=>row11_3
 | 4,_=>row11_4
 | 5,_=>row11_5
 | 6,_=>row11_6
 | 7,_=>row11_7
 | 8,_=>row11_8
 | 9,_=>row11_9
 | 10,_=>row11_10
 | c+11,h=>absurd h (by omega)
theorem ring12:ckR 12=true:=by decide +kernel
theorem row12_0:ckW 12 0=true:=by decide +kernel
theorem row12_1:ckW 12 1=true:=by decide +kernel
theorem row12_2:ckW 12 2=true:=by decide +kernel
theorem row12_3:ckW 12 3=true:=by decide +kernel
theorem row12_4:ckW 12 4=true:=by decide +kernel
theorem row12_5:ckW 12 5=true:=by decide +kernel
theorem row12_6:ckW 12 6=true:=by decide +kernel
theorem row12_7:ckW 12 7=true:=by decide +kernel
theorem row12_8:ckW 12 8=true:=by decide +kernel
theorem row12_9:ckW 12 9=true:=by decide +kernel
theorem row12_10:ckW 12 10=true:=by decide +kernel
theorem row12_11:ckW 12 11=true:=by decide +kernel
theorem row12:∀ c,c<12→ckW 12 c=true
 | 0,_=>row12_0
 | 1,_=>row12_1
 | 2,_=>row12_2
 | 3,_=>row12_3
 | 4,_=>row12_4
 | 5,_=>row12_5
 | 6,_=>row12_6
 | 7,_=>row12_7
 | 8,_=>row12_8
 | 9,_=>row12_9
 | 10,_=>row12_10
 | 11,_=>row12_11
 | c+12,h=>absurd h (by omega)
end Go.Proofs.YteknljnjcoehoaaGreatDoor
