/- The walks over package publicanlaw1, on: is an answer the document's? -/
import Derived.Test.YtlgdolchnlagcaaB12
namespace Go.Proofs.Ytlgdolchnlagcaa
open Go.RowKit Go.Deep
set_option linter.unusedVariables false

set_option maxHeartbeats 1000000 in
theorem wide_same {na : Bool} {a : Option Addr} {n ca : Nat} {da : List Int} {x : Int} {w : World} (ha : Bg w na a n ca da x) (sx : Sm2 x) :
    Calls Try.prog 26 #[.agg #[.int .i64 (whi x), .int .u64 (wlo x)], .bool (wfit x), .agg #[.bool na, .slice a n ca]] w fun e w' => e = .returned (.bool true) ∧ Below w.heap.size w w' := by
  have HA : Hid _ := ha
  clear ha
  go_enter Try.func26, Try.ntmps26
  go_wp2_with fail
  have al1 : Below w.heap.size w (w.alloc (.cells #[.int .i64 (whi x), .int .u64 (wlo x)] 28)) := (Below.refl _ _).alloc (Nat.le_refl _) _
  have al2 := al1.alloc al1.size (.cells #[.bool na, .slice a n ca] 35)
  refine (limbs_any _ _ _ _ _ _ _ (HA.out.below al2) sx).mono ?_
  rintro e w1 ⟨rfl, hb1⟩
  have L := ((Lies.new w (whi x) (wlo x)).alloc (.cells #[.bool na, .slice a n ca] 35)).below hb1
  have BF : Hid _ := al2.trans (hb1.mono al2.size)
  have q0 := L.hi
  have q1 := L.lo
  clear al1 al2 hb1 L
  go_wp2
  go_ret
  exact ⟨rfl, BF.out⟩

end Go.Proofs.Ytlgdolchnlagcaa
