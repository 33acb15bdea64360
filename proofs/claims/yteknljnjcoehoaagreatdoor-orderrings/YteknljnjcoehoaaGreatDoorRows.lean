/-
  NARROWER THAN 'FOR EVERY INPUT', by the rows' own cells (each row's printed sentence says how): OrderKnown: laid · OrderSays: laid · OrderLeans: laid · OrderRings: laid · MeanKnown: laid · MeanRuns: laid · MeanOps: laid · MeanTables: laid · MeanSums: laid · MeanDays: laid · MeanBranches: laid · MeanMoney: laid.
  DERIVED. THE GIVEN ROWS OF THIS SEAT. 12 by the template 'for every input the law returns true; each argument reads behind the call as it read before'; 0 by the template 'total and deterministic' (their statements: YteknljnjcoehoaaGreatDoorTotals.lean).
  GIVEN WITH THE SEED: the statements are not yours to turn. If you find one false, say at which input.
  Laid BY PROGRAM, IN A SANDBOX (cutbox-rows.mjs): the forced cells as the released guide's own fill.sh prints them over the translation 70edecee160c2eb4… (all of the seat's roots in one cut). By AI agents, Wed Nov 11 2026. No macro, syntax, notation, axiom, sorry.
-/
import Derived.Test.YteknljnjcoehoaaGreatDoorChecked
import GoSem.Claim
import GoSem.ClaimJoined
import GoSem.ClaimMapViews
import Derived.JoinedTies
import Derived.KernelRfl
namespace Go.Proofs.YteknljnjcoehoaaGreatDoor
/- THE CELL 'sum', in the pinned program and in every row, IS THE sha256 OF THE DUMP (.gsa) THAT YteknljnjcoehoaaGreatDoorProg.lean LOADS. Nothing in Lean hashes anything: it is a label: what it is worth is what the hold of that sum in a sandbox is worth. -/
noncomputable def Tryz.pinned : Pinned := { name := "yteknljnjcoehoaagreatdoor", sum := "70edecee160c2eb42ca393815d11db9ba9e369108062d397dba61b6715e43e74", checked := Tryz.checked }
namespace Rows
def none {H : Type} : Left H := { results := [], args := [] }

/- WHAT THE LISTED PACKAGE-LEVEL VARIABLES READ AS WHEN THE CALL BEGINS. Each datum BY PROGRAM (the guide's laid-datum.mjs) off the statement by which the dump's own 'gosem.cut.vars' lays the variable. In a bare row this is a premise. The card (YteknljnjcoehoaaGreatDoorCards.lean) ties it to the program's text. -/
def laid_publican_typ_mixed {H : Type} : DataW H := .agg [.agg [.lit (.string [43]), .lit (.int .i64 5), .lit (.int .i64 2), .lit (.int .i64 5)], .agg [.lit (.string [45]), .lit (.int .i64 5), .lit (.int .i64 5), .lit (.int .i64 2)], .agg [.lit (.string [45]), .lit (.int .i64 5), .lit (.int .i64 2), .lit (.int .i64 5)], .agg [.lit (.string [42]), .lit (.int .i64 2), .lit (.int .i64 2), .lit (.int .i64 2)], .agg [.lit (.string [42]), .lit (.int .i64 3), .lit (.int .i64 2), .lit (.int .i64 3)], .agg [.lit (.string [42]), .lit (.int .i64 4), .lit (.int .i64 2), .lit (.int .i64 4)], .agg [.lit (.string [42]), .lit (.int .i64 4), .lit (.int .i64 3), .lit (.int .i64 3)], .agg [.lit (.string [47]), .lit (.int .i64 2), .lit (.int .i64 2), .lit (.int .i64 2)], .agg [.lit (.string [47]), .lit (.int .i64 3), .lit (.int .i64 2), .lit (.int .i64 3)], .agg [.lit (.string [47]), .lit (.int .i64 3), .lit (.int .i64 3), .lit (.int .i64 4)]]
def laid_publican_mean_units {H : Type} : DataW H := .agg [.agg [.lit (.string [43]), .lit (.int .i64 2), .lit (.int .i64 2), .lit (.int .i64 2)], .agg [.lit (.string [43]), .lit (.int .i64 3), .lit (.int .i64 3), .lit (.int .i64 3)], .agg [.lit (.string [43]), .lit (.int .i64 4), .lit (.int .i64 4), .lit (.int .i64 4)], .agg [.lit (.string [43]), .lit (.int .i64 5), .lit (.int .i64 2), .lit (.int .i64 5)], .agg [.lit (.string [45]), .lit (.int .i64 2), .lit (.int .i64 2), .lit (.int .i64 2)], .agg [.lit (.string [45]), .lit (.int .i64 3), .lit (.int .i64 3), .lit (.int .i64 3)], .agg [.lit (.string [45]), .lit (.int .i64 4), .lit (.int .i64 4), .lit (.int .i64 4)], .agg [.lit (.string [45]), .lit (.int .i64 5), .lit (.int .i64 2), .lit (.int .i64 5)], .agg [.lit (.string [45]), .lit (.int .i64 5), .lit (.int .i64 5), .lit (.int .i64 2)], .agg [.lit (.string [42]), .lit (.int .i64 2), .lit (.int .i64 2), .lit (.int .i64 2)], .agg [.lit (.string [42]), .lit (.int .i64 3), .lit (.int .i64 2), .lit (.int .i64 3)], .agg [.lit (.string [42]), .lit (.int .i64 4), .lit (.int .i64 2), .lit (.int .i64 4)], .agg [.lit (.string [42]), .lit (.int .i64 4), .lit (.int .i64 3), .lit (.int .i64 3)], .agg [.lit (.string [47]), .lit (.int .i64 2), .lit (.int .i64 2), .lit (.int .i64 2)], .agg [.lit (.string [47]), .lit (.int .i64 3), .lit (.int .i64 2), .lit (.int .i64 3)], .agg [.lit (.string [47]), .lit (.int .i64 3), .lit (.int .i64 3), .lit (.int .i64 4)]]

/-- 'publicanlaw12.OrderKnown': WHATEVER THE INPUT: true; the input reads as it did. -/
def orderKnownSpec : ChangeSpec := { name := "orderKnown", fn := fun _ => fun
  | [] => { results := [.lit (.bool true)], args := [] }
  | _ => none }
def orderKnownRow : OpenClaim := { program := "yteknljnjcoehoaagreatdoor", sum := "70edecee160c2eb42ca393815d11db9ba9e369108062d397dba61b6715e43e74", func := "publican/publicanlaw12.OrderKnown", spec := "orderKnown", unfollowed := true, recurses := true, named := ["publican/typ.mixed"], apart := false, laid := [("publican/typ.mixed", laid_publican_typ_mixed)] }
def OrderKnownSaid : Prop := orderKnownRow.holds Tryz.pinned (OpenSpec.ofChange orderKnownSpec)

/-- ITS FALSE NEIGHBOUR: 'it returns false'. Refute it at one input. -/
def orderKnownWrong : ChangeSpec := { name := "orderKnown", fn := fun _ => fun
  | [] => { results := [.lit (.bool false)], args := [] }
  | _ => none }
def OrderKnownWrongFalsely : Prop := orderKnownRow.holds Tryz.pinned (OpenSpec.ofChange orderKnownWrong)

/-- 'publicanlaw12.OrderSays': WHATEVER THE INPUT: true; the input reads as it did. -/
def orderSaysSpec : ChangeSpec := { name := "orderSays", fn := fun _ => fun
  | [d] => { results := [.lit (.bool true)], args := [d] }
  | _ => none }
def orderSaysRow : OpenClaim := { program := "yteknljnjcoehoaagreatdoor", sum := "70edecee160c2eb42ca393815d11db9ba9e369108062d397dba61b6715e43e74", func := "publican/publicanlaw12.OrderSays", spec := "orderSays", unfollowed := true, recurses := true, named := ["publican/typ.mixed"], apart := false, laid := [("publican/typ.mixed", laid_publican_typ_mixed)] }
def OrderSaysSaid : Prop := orderSaysRow.holds Tryz.pinned (OpenSpec.ofChange orderSaysSpec)

/-- ITS FALSE NEIGHBOUR: 'it returns false'. Refute it at one input. -/
def orderSaysWrong : ChangeSpec := { name := "orderSays", fn := fun _ => fun
  | [d] => { results := [.lit (.bool false)], args := [d] }
  | _ => none }
def OrderSaysWrongFalsely : Prop := orderSaysRow.holds Tryz.pinned (OpenSpec.ofChange orderSaysWrong)

/-- 'publicanlaw12.OrderLeans': WHATEVER THE INPUT: true; the input reads as it did. -/
def orderLeansSpec : ChangeSpec := { name := "orderLeans", fn := fun _ => fun
  | [d] => { results := [.lit (.bool true)], args := [d] }
  | _ => none }
def orderLeansRow : OpenClaim := { program := "yteknljnjcoehoaagreatdoor", sum := "70edecee160c2eb42ca393815d11db9ba9e369108062d397dba61b6715e43e74", func := "publican/publicanlaw12.OrderLeans", spec := "orderLeans", unfollowed := true, recurses := true, named := ["publican/typ.mixed"], apart := false, laid := [("publican/typ.mixed", laid_publican_typ_mixed)] }
def OrderLeansSaid : Prop := orderLeansRow.holds Tryz.pinned (OpenSpec.ofChange orderLeansSpec)

/-- ITS FALSE NEIGHBOUR: 'it returns false'. Refute it at one input. -/
def orderLeansWrong : ChangeSpec := { name := "orderLeans", fn := fun _ => fun
  | [d] => { results := [.lit (.bool false)], args := [d] }
  | _ => none }
def OrderLeansWrongFalsely : Prop := orderLeansRow.holds Tryz.pinned (OpenSpec.ofChange orderLeansWrong)

/-- 'publicanlaw12.OrderRings': WHATEVER THE INPUT: true; the input reads as it did. -/
def orderRingsSpec : ChangeSpec := { name := "orderRings", fn := fun _ => fun
  | [d1, d2] => { results := [.lit (.bool true)], args := [d1, d2] }
  | _ => none }
def orderRingsRow : OpenClaim := { program := "yteknljnjcoehoaagreatdoor", sum := "70edecee160c2eb42ca393815d11db9ba9e369108062d397dba61b6715e43e74", func := "publican/publicanlaw12.OrderRings", spec := "orderRings", unfollowed := true, recurses := true, named := ["publican/typ.mixed"], apart := false, laid := [("publican/typ.mixed", laid_publican_typ_mixed)] }
def OrderRingsSaid : Prop := orderRingsRow.holds Tryz.pinned (OpenSpec.ofChange orderRingsSpec)

/-- ITS FALSE NEIGHBOUR: 'it returns false'. Refute it at one input. -/
def orderRingsWrong : ChangeSpec := { name := "orderRings", fn := fun _ => fun
  | [d1, d2] => { results := [.lit (.bool false)], args := [d1, d2] }
  | _ => none }
def OrderRingsWrongFalsely : Prop := orderRingsRow.holds Tryz.pinned (OpenSpec.ofChange orderRingsWrong)

/-- 'publicanlaw13.MeanKnown': WHATEVER THE INPUT: true; the input reads as it did. -/
def meanKnownSpec : ChangeSpec := { name := "meanKnown", fn := fun _ => fun
  | [] => { results := [.lit (.bool true)], args := [] }
  | _ => none }
def meanKnownRow : OpenClaim := { program := "yteknljnjcoehoaagreatdoor", sum := "70edecee160c2eb42ca393815d11db9ba9e369108062d397dba61b6715e43e74", func := "publican/publicanlaw13.MeanKnown", spec := "meanKnown", unfollowed := true, recurses := true, named := ["publican/typ.mixed", "publican/mean.units", "math/bits.divideError", "math/bits.overflowError"], apart := false, laid := [("publican/typ.mixed", laid_publican_typ_mixed), ("publican/mean.units", laid_publican_mean_units)] }
def MeanKnownSaid : Prop := meanKnownRow.holds Tryz.pinned (OpenSpec.ofChange meanKnownSpec)

/-- ITS FALSE NEIGHBOUR: 'it returns false'. Refute it at one input. -/
def meanKnownWrong : ChangeSpec := { name := "meanKnown", fn := fun _ => fun
  | [] => { results := [.lit (.bool false)], args := [] }
  | _ => none }
def MeanKnownWrongFalsely : Prop := meanKnownRow.holds Tryz.pinned (OpenSpec.ofChange meanKnownWrong)

/-- 'publicanlaw13.MeanRuns': WHATEVER THE INPUT: true; the input reads as it did. -/
def meanRunsSpec : ChangeSpec := { name := "meanRuns", fn := fun _ => fun
  | [d1, d2] => { results := [.lit (.bool true)], args := [d1, d2] }
  | _ => none }
def meanRunsRow : OpenClaim := { program := "yteknljnjcoehoaagreatdoor", sum := "70edecee160c2eb42ca393815d11db9ba9e369108062d397dba61b6715e43e74", func := "publican/publicanlaw13.MeanRuns", spec := "meanRuns", unfollowed := true, recurses := true, named := ["publican/typ.mixed", "publican/mean.units", "math/bits.divideError", "math/bits.overflowError"], apart := false, laid := [("publican/typ.mixed", laid_publican_typ_mixed), ("publican/mean.units", laid_publican_mean_units)] }
def MeanRunsSaid : Prop := meanRunsRow.holds Tryz.pinned (OpenSpec.ofChange meanRunsSpec)

/-- ITS FALSE NEIGHBOUR: 'it returns false'. Refute it at one input. -/
def meanRunsWrong : ChangeSpec := { name := "meanRuns", fn := fun _ => fun
  | [d1, d2] => { results := [.lit (.bool false)], args := [d1, d2] }
  | _ => none }
def MeanRunsWrongFalsely : Prop := meanRunsRow.holds Tryz.pinned (OpenSpec.ofChange meanRunsWrong)

/-- 'publicanlaw13.MeanOps': WHATEVER THE INPUT: true; the input reads as it did. -/
def meanOpsSpec : ChangeSpec := { name := "meanOps", fn := fun _ => fun
  | [d1, d2, d3] => { results := [.lit (.bool true)], args := [d1, d2, d3] }
  | _ => none }
def meanOpsRow : OpenClaim := { program := "yteknljnjcoehoaagreatdoor", sum := "70edecee160c2eb42ca393815d11db9ba9e369108062d397dba61b6715e43e74", func := "publican/publicanlaw13.MeanOps", spec := "meanOps", unfollowed := true, recurses := true, named := ["publican/typ.mixed", "publican/mean.units", "math/bits.divideError", "math/bits.overflowError"], apart := false, laid := [("publican/typ.mixed", laid_publican_typ_mixed), ("publican/mean.units", laid_publican_mean_units)] }
def MeanOpsSaid : Prop := meanOpsRow.holds Tryz.pinned (OpenSpec.ofChange meanOpsSpec)

/-- ITS FALSE NEIGHBOUR: 'it returns false'. Refute it at one input. -/
def meanOpsWrong : ChangeSpec := { name := "meanOps", fn := fun _ => fun
  | [d1, d2, d3] => { results := [.lit (.bool false)], args := [d1, d2, d3] }
  | _ => none }
def MeanOpsWrongFalsely : Prop := meanOpsRow.holds Tryz.pinned (OpenSpec.ofChange meanOpsWrong)

/-- 'publicanlaw13.MeanTables': WHATEVER THE INPUT: true; the input reads as it did. -/
def meanTablesSpec : ChangeSpec := { name := "meanTables", fn := fun _ => fun
  | [d1, d2] => { results := [.lit (.bool true)], args := [d1, d2] }
  | _ => none }
def meanTablesRow : OpenClaim := { program := "yteknljnjcoehoaagreatdoor", sum := "70edecee160c2eb42ca393815d11db9ba9e369108062d397dba61b6715e43e74", func := "publican/publicanlaw13.MeanTables", spec := "meanTables", unfollowed := true, recurses := true, named := ["publican/typ.mixed", "publican/mean.units", "math/bits.divideError", "math/bits.overflowError"], apart := false, laid := [("publican/typ.mixed", laid_publican_typ_mixed), ("publican/mean.units", laid_publican_mean_units)] }
def MeanTablesSaid : Prop := meanTablesRow.holds Tryz.pinned (OpenSpec.ofChange meanTablesSpec)

/-- ITS FALSE NEIGHBOUR: 'it returns false'. Refute it at one input. -/
def meanTablesWrong : ChangeSpec := { name := "meanTables", fn := fun _ => fun
  | [d1, d2] => { results := [.lit (.bool false)], args := [d1, d2] }
  | _ => none }
def MeanTablesWrongFalsely : Prop := meanTablesRow.holds Tryz.pinned (OpenSpec.ofChange meanTablesWrong)

/-- 'publicanlaw13.MeanSums': WHATEVER THE INPUT: true; the input reads as it did. -/
def meanSumsSpec : ChangeSpec := { name := "meanSums", fn := fun _ => fun
  | [d1, d2] => { results := [.lit (.bool true)], args := [d1, d2] }
  | _ => none }
def meanSumsRow : OpenClaim := { program := "yteknljnjcoehoaagreatdoor", sum := "70edecee160c2eb42ca393815d11db9ba9e369108062d397dba61b6715e43e74", func := "publican/publicanlaw13.MeanSums", spec := "meanSums", unfollowed := true, recurses := true, named := ["publican/typ.mixed", "publican/mean.units", "math/bits.divideError", "math/bits.overflowError"], apart := false, laid := [("publican/typ.mixed", laid_publican_typ_mixed), ("publican/mean.units", laid_publican_mean_units)] }
def MeanSumsSaid : Prop := meanSumsRow.holds Tryz.pinned (OpenSpec.ofChange meanSumsSpec)

/-- ITS FALSE NEIGHBOUR: 'it returns false'. Refute it at one input. -/
def meanSumsWrong : ChangeSpec := { name := "meanSums", fn := fun _ => fun
  | [d1, d2] => { results := [.lit (.bool false)], args := [d1, d2] }
  | _ => none }
def MeanSumsWrongFalsely : Prop := meanSumsRow.holds Tryz.pinned (OpenSpec.ofChange meanSumsWrong)

/-- 'publicanlaw13.MeanDays': WHATEVER THE INPUT: true; the input reads as it did. -/
def meanDaysSpec : ChangeSpec := { name := "meanDays", fn := fun _ => fun
  | [d1, d2] => { results := [.lit (.bool true)], args := [d1, d2] }
  | _ => none }
def meanDaysRow : OpenClaim := { program := "yteknljnjcoehoaagreatdoor", sum := "70edecee160c2eb42ca393815d11db9ba9e369108062d397dba61b6715e43e74", func := "publican/publicanlaw13.MeanDays", spec := "meanDays", unfollowed := true, recurses := true, named := ["publican/typ.mixed", "publican/mean.units", "math/bits.divideError", "math/bits.overflowError"], apart := false, laid := [("publican/typ.mixed", laid_publican_typ_mixed), ("publican/mean.units", laid_publican_mean_units)] }
def MeanDaysSaid : Prop := meanDaysRow.holds Tryz.pinned (OpenSpec.ofChange meanDaysSpec)

/-- ITS FALSE NEIGHBOUR: 'it returns false'. Refute it at one input. -/
def meanDaysWrong : ChangeSpec := { name := "meanDays", fn := fun _ => fun
  | [d1, d2] => { results := [.lit (.bool false)], args := [d1, d2] }
  | _ => none }
def MeanDaysWrongFalsely : Prop := meanDaysRow.holds Tryz.pinned (OpenSpec.ofChange meanDaysWrong)

/-- 'publicanlaw13.MeanBranches': WHATEVER THE INPUT: true; the input reads as it did. -/
def meanBranchesSpec : ChangeSpec := { name := "meanBranches", fn := fun _ => fun
  | [d1, d2] => { results := [.lit (.bool true)], args := [d1, d2] }
  | _ => none }
def meanBranchesRow : OpenClaim := { program := "yteknljnjcoehoaagreatdoor", sum := "70edecee160c2eb42ca393815d11db9ba9e369108062d397dba61b6715e43e74", func := "publican/publicanlaw13.MeanBranches", spec := "meanBranches", unfollowed := true, recurses := true, named := ["publican/typ.mixed", "publican/mean.units", "math/bits.divideError", "math/bits.overflowError"], apart := false, laid := [("publican/typ.mixed", laid_publican_typ_mixed), ("publican/mean.units", laid_publican_mean_units)] }
def MeanBranchesSaid : Prop := meanBranchesRow.holds Tryz.pinned (OpenSpec.ofChange meanBranchesSpec)

/-- ITS FALSE NEIGHBOUR: 'it returns false'. Refute it at one input. -/
def meanBranchesWrong : ChangeSpec := { name := "meanBranches", fn := fun _ => fun
  | [d1, d2] => { results := [.lit (.bool false)], args := [d1, d2] }
  | _ => none }
def MeanBranchesWrongFalsely : Prop := meanBranchesRow.holds Tryz.pinned (OpenSpec.ofChange meanBranchesWrong)

/-- 'publicanlaw13.MeanMoney': WHATEVER THE INPUT: true; the input reads as it did. -/
def meanMoneySpec : ChangeSpec := { name := "meanMoney", fn := fun _ => fun
  | [d1, d2, d3] => { results := [.lit (.bool true)], args := [d1, d2, d3] }
  | _ => none }
def meanMoneyRow : OpenClaim := { program := "yteknljnjcoehoaagreatdoor", sum := "70edecee160c2eb42ca393815d11db9ba9e369108062d397dba61b6715e43e74", func := "publican/publicanlaw13.MeanMoney", spec := "meanMoney", unfollowed := true, recurses := true, named := ["publican/typ.mixed", "publican/mean.units", "math/bits.divideError", "math/bits.overflowError"], apart := false, laid := [("publican/typ.mixed", laid_publican_typ_mixed), ("publican/mean.units", laid_publican_mean_units)] }
def MeanMoneySaid : Prop := meanMoneyRow.holds Tryz.pinned (OpenSpec.ofChange meanMoneySpec)

/-- ITS FALSE NEIGHBOUR: 'it returns false'. Refute it at one input. -/
def meanMoneyWrong : ChangeSpec := { name := "meanMoney", fn := fun _ => fun
  | [d1, d2, d3] => { results := [.lit (.bool false)], args := [d1, d2, d3] }
  | _ => none }
def MeanMoneyWrongFalsely : Prop := meanMoneyRow.holds Tryz.pinned (OpenSpec.ofChange meanMoneyWrong)

/- THE SECOND FORM. 'bulk': how many values and letters a reading holds, each counted each time it is reached (what is shared counts as often as it is met; a slice's spare places count too). A statement '..UptoSaid' is the law's where the arguments, and the package variables that the reading takes, are together of bulk at most 1048576: NARROWER than '..Said'. Prove '..Said' where nothing that the law and all that it calls make is longer than what came in: it says more and counts as full. Else prove '..UptoSaid'. A law counts once. -/
mutual
def uptoBulk {H : Type} : DataW H → Nat
  | .lit (.string bytes) => bytes.length + 1
  | .lit _ => 1
  | .nil => 1
  | .ptr d => uptoBulk d + 1
  | .slice elems spare => uptoBulkAll elems + uptoBulkAll spare + 1
  | .agg parts => uptoBulkAll parts + 1
  | .iface _ d => uptoBulk d + 1
  | .map entries => uptoBulkEntries entries + 1
  | .held _ => 1
def uptoBulkAll {H : Type} : List (DataW H) → Nat
  | [] => 0
  | d :: r => uptoBulk d + uptoBulkAll r
def uptoBulkEntries {H : Type} : List (Lit × DataW H) → Nat
  | [] => 0
  | x :: r => uptoBulkEntry x + uptoBulkEntries r
def uptoBulkEntry {H : Type} : Lit × DataW H → Nat
  | (.string bytes, d) => bytes.length + uptoBulk d + 1
  | (_, d) => uptoBulk d + 1
 end
def uptoSmall : (H : Type) → List (DataW H) → Bool := fun _ ds => decide (uptoBulkAll ds ≤ 1048576)
def OpenSpec.upto (s : _root_.Go.ChangeSpec) : _root_.Go.OpenSpec := { _root_.Go.OpenSpec.ofChange s with cond := some uptoSmall }

/-- 'publicanlaw12.OrderKnown', WHERE WHAT IT READS IS OF BULK AT MOST 1048576: true; the input reads as it did. -/
def orderKnownUptoRow : OpenClaim := { program := "yteknljnjcoehoaagreatdoor", sum := "70edecee160c2eb42ca393815d11db9ba9e369108062d397dba61b6715e43e74", func := "publican/publicanlaw12.OrderKnown", spec := "orderKnown", unfollowed := true, recurses := true, named := ["publican/typ.mixed"], apart := false, laid := [("publican/typ.mixed", laid_publican_typ_mixed)], narrowed := true }
def OrderKnownUptoSaid : Prop := orderKnownUptoRow.holds Tryz.pinned (OpenSpec.upto orderKnownSpec)

/-- 'publicanlaw12.OrderSays', WHERE WHAT IT READS IS OF BULK AT MOST 1048576: true; the input reads as it did. -/
def orderSaysUptoRow : OpenClaim := { program := "yteknljnjcoehoaagreatdoor", sum := "70edecee160c2eb42ca393815d11db9ba9e369108062d397dba61b6715e43e74", func := "publican/publicanlaw12.OrderSays", spec := "orderSays", unfollowed := true, recurses := true, named := ["publican/typ.mixed"], apart := false, laid := [("publican/typ.mixed", laid_publican_typ_mixed)], narrowed := true }
def OrderSaysUptoSaid : Prop := orderSaysUptoRow.holds Tryz.pinned (OpenSpec.upto orderSaysSpec)

/-- 'publicanlaw12.OrderLeans', WHERE WHAT IT READS IS OF BULK AT MOST 1048576: true; the input reads as it did. -/
def orderLeansUptoRow : OpenClaim := { program := "yteknljnjcoehoaagreatdoor", sum := "70edecee160c2eb42ca393815d11db9ba9e369108062d397dba61b6715e43e74", func := "publican/publicanlaw12.OrderLeans", spec := "orderLeans", unfollowed := true, recurses := true, named := ["publican/typ.mixed"], apart := false, laid := [("publican/typ.mixed", laid_publican_typ_mixed)], narrowed := true }
def OrderLeansUptoSaid : Prop := orderLeansUptoRow.holds Tryz.pinned (OpenSpec.upto orderLeansSpec)

/-- 'publicanlaw12.OrderRings', WHERE WHAT IT READS IS OF BULK AT MOST 1048576: true; the input reads as it did. -/
def orderRingsUptoRow : OpenClaim := { program := "yteknljnjcoehoaagreatdoor", sum := "70edecee160c2eb42ca393815d11db9ba9e369108062d397dba61b6715e43e74", func := "publican/publicanlaw12.OrderRings", spec := "orderRings", unfollowed := true, recurses := true, named := ["publican/typ.mixed"], apart := false, laid := [("publican/typ.mixed", laid_publican_typ_mixed)], narrowed := true }
def OrderRingsUptoSaid : Prop := orderRingsUptoRow.holds Tryz.pinned (OpenSpec.upto orderRingsSpec)

/-- 'publicanlaw13.MeanKnown', WHERE WHAT IT READS IS OF BULK AT MOST 1048576: true; the input reads as it did. -/
def meanKnownUptoRow : OpenClaim := { program := "yteknljnjcoehoaagreatdoor", sum := "70edecee160c2eb42ca393815d11db9ba9e369108062d397dba61b6715e43e74", func := "publican/publicanlaw13.MeanKnown", spec := "meanKnown", unfollowed := true, recurses := true, named := ["publican/typ.mixed", "publican/mean.units", "math/bits.divideError", "math/bits.overflowError"], apart := false, laid := [("publican/typ.mixed", laid_publican_typ_mixed), ("publican/mean.units", laid_publican_mean_units)], narrowed := true }
def MeanKnownUptoSaid : Prop := meanKnownUptoRow.holds Tryz.pinned (OpenSpec.upto meanKnownSpec)

/-- 'publicanlaw13.MeanRuns', WHERE WHAT IT READS IS OF BULK AT MOST 1048576: true; the input reads as it did. -/
def meanRunsUptoRow : OpenClaim := { program := "yteknljnjcoehoaagreatdoor", sum := "70edecee160c2eb42ca393815d11db9ba9e369108062d397dba61b6715e43e74", func := "publican/publicanlaw13.MeanRuns", spec := "meanRuns", unfollowed := true, recurses := true, named := ["publican/typ.mixed", "publican/mean.units", "math/bits.divideError", "math/bits.overflowError"], apart := false, laid := [("publican/typ.mixed", laid_publican_typ_mixed), ("publican/mean.units", laid_publican_mean_units)], narrowed := true }
def MeanRunsUptoSaid : Prop := meanRunsUptoRow.holds Tryz.pinned (OpenSpec.upto meanRunsSpec)

/-- 'publicanlaw13.MeanOps', WHERE WHAT IT READS IS OF BULK AT MOST 1048576: true; the input reads as it did. -/
def meanOpsUptoRow : OpenClaim := { program := "yteknljnjcoehoaagreatdoor", sum := "70edecee160c2eb42ca393815d11db9ba9e369108062d397dba61b6715e43e74", func := "publican/publicanlaw13.MeanOps", spec := "meanOps", unfollowed := true, recurses := true, named := ["publican/typ.mixed", "publican/mean.units", "math/bits.divideError", "math/bits.overflowError"], apart := false, laid := [("publican/typ.mixed", laid_publican_typ_mixed), ("publican/mean.units", laid_publican_mean_units)], narrowed := true }
def MeanOpsUptoSaid : Prop := meanOpsUptoRow.holds Tryz.pinned (OpenSpec.upto meanOpsSpec)

/-- 'publicanlaw13.MeanTables', WHERE WHAT IT READS IS OF BULK AT MOST 1048576: true; the input reads as it did. -/
def meanTablesUptoRow : OpenClaim := { program := "yteknljnjcoehoaagreatdoor", sum := "70edecee160c2eb42ca393815d11db9ba9e369108062d397dba61b6715e43e74", func := "publican/publicanlaw13.MeanTables", spec := "meanTables", unfollowed := true, recurses := true, named := ["publican/typ.mixed", "publican/mean.units", "math/bits.divideError", "math/bits.overflowError"], apart := false, laid := [("publican/typ.mixed", laid_publican_typ_mixed), ("publican/mean.units", laid_publican_mean_units)], narrowed := true }
def MeanTablesUptoSaid : Prop := meanTablesUptoRow.holds Tryz.pinned (OpenSpec.upto meanTablesSpec)

/-- 'publicanlaw13.MeanSums', WHERE WHAT IT READS IS OF BULK AT MOST 1048576: true; the input reads as it did. -/
def meanSumsUptoRow : OpenClaim := { program := "yteknljnjcoehoaagreatdoor", sum := "70edecee160c2eb42ca393815d11db9ba9e369108062d397dba61b6715e43e74", func := "publican/publicanlaw13.MeanSums", spec := "meanSums", unfollowed := true, recurses := true, named := ["publican/typ.mixed", "publican/mean.units", "math/bits.divideError", "math/bits.overflowError"], apart := false, laid := [("publican/typ.mixed", laid_publican_typ_mixed), ("publican/mean.units", laid_publican_mean_units)], narrowed := true }
def MeanSumsUptoSaid : Prop := meanSumsUptoRow.holds Tryz.pinned (OpenSpec.upto meanSumsSpec)

/-- 'publicanlaw13.MeanDays', WHERE WHAT IT READS IS OF BULK AT MOST 1048576: true; the input reads as it did. -/
def meanDaysUptoRow : OpenClaim := { program := "yteknljnjcoehoaagreatdoor", sum := "70edecee160c2eb42ca393815d11db9ba9e369108062d397dba61b6715e43e74", func := "publican/publicanlaw13.MeanDays", spec := "meanDays", unfollowed := true, recurses := true, named := ["publican/typ.mixed", "publican/mean.units", "math/bits.divideError", "math/bits.overflowError"], apart := false, laid := [("publican/typ.mixed", laid_publican_typ_mixed), ("publican/mean.units", laid_publican_mean_units)], narrowed := true }
def MeanDaysUptoSaid : Prop := meanDaysUptoRow.holds Tryz.pinned (OpenSpec.upto meanDaysSpec)

/-- 'publicanlaw13.MeanBranches', WHERE WHAT IT READS IS OF BULK AT MOST 1048576: true; the input reads as it did. -/
def meanBranchesUptoRow : OpenClaim := { program := "yteknljnjcoehoaagreatdoor", sum := "70edecee160c2eb42ca393815d11db9ba9e369108062d397dba61b6715e43e74", func := "publican/publicanlaw13.MeanBranches", spec := "meanBranches", unfollowed := true, recurses := true, named := ["publican/typ.mixed", "publican/mean.units", "math/bits.divideError", "math/bits.overflowError"], apart := false, laid := [("publican/typ.mixed", laid_publican_typ_mixed), ("publican/mean.units", laid_publican_mean_units)], narrowed := true }
def MeanBranchesUptoSaid : Prop := meanBranchesUptoRow.holds Tryz.pinned (OpenSpec.upto meanBranchesSpec)

/-- 'publicanlaw13.MeanMoney', WHERE WHAT IT READS IS OF BULK AT MOST 1048576: true; the input reads as it did. -/
def meanMoneyUptoRow : OpenClaim := { program := "yteknljnjcoehoaagreatdoor", sum := "70edecee160c2eb42ca393815d11db9ba9e369108062d397dba61b6715e43e74", func := "publican/publicanlaw13.MeanMoney", spec := "meanMoney", unfollowed := true, recurses := true, named := ["publican/typ.mixed", "publican/mean.units", "math/bits.divideError", "math/bits.overflowError"], apart := false, laid := [("publican/typ.mixed", laid_publican_typ_mixed), ("publican/mean.units", laid_publican_mean_units)], narrowed := true }
def MeanMoneyUptoSaid : Prop := meanMoneyUptoRow.holds Tryz.pinned (OpenSpec.upto meanMoneySpec)

end Rows
end Go.Proofs.YteknljnjcoehoaaGreatDoor
