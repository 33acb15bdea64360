/-
  No cell of these rows narrows 'for every input' (looked for: loops, veiled, ifaces, maps, wideKeys, modest, calm, conditions, laid).
  DERIVED. THE GIVEN ROWS OF THIS SEAT. 6 by the template 'for every input the law returns true; each argument reads behind the call as it read before'; 0 by the template 'total and deterministic' (their statements: YtadifdkengfgeaaTotals.lean).
  GIVEN WITH THE SEED: the statements are not yours to turn. If you find one false, say at which input.
  Laid BY PROGRAM, IN A SANDBOX (cutbox-rows.mjs): the forced cells as the released guide's own fill.sh prints them over the translation 5a18a8f41eddc480… (all of the seat's roots in one cut). By AI agents, Wed Nov 11 2026. No macro, syntax, notation, axiom, sorry.
-/
import Derived.Test.YtadifdkengfgeaaChecked
import GoSem.Claim
import GoSem.ClaimJoined
import GoSem.ClaimMapViews
import Derived.JoinedTies
import Derived.KernelRfl
namespace Go.Proofs.Ytadifdkengfgeaa
/- THE CELL 'sum', in the pinned program and in every row, IS THE sha256 OF THE DUMP (.gsa) THAT YtadifdkengfgeaaProg.lean LOADS. Nothing in Lean hashes anything: it is a label: what it is worth is what the hold of that sum in a sandbox is worth. -/
noncomputable def Try.pinned : Pinned := { name := "ytadifdkengfgeaa", sum := "5a18a8f41eddc480a46640fc2015acabe27a37fee789436af3ff214a03c6e2d5", checked := Try.checked }
namespace Rows
def none {H : Type} : Left H := { results := [], args := [] }

/-- 'publicanlaw2.CalKnown': WHATEVER THE INPUT: true; the input reads as it did. -/
def calKnownSpec : ChangeSpec := { name := "calKnown", fn := fun _ => fun
  | [] => { results := [.lit (.bool true)], args := [] }
  | _ => none }
def calKnownRow : OpenClaim := { program := "ytadifdkengfgeaa", sum := "5a18a8f41eddc480a46640fc2015acabe27a37fee789436af3ff214a03c6e2d5", func := "publican/publicanlaw2.CalKnown", spec := "calKnown", apart := false }
def CalKnownSaid : Prop := calKnownRow.holds Try.pinned (OpenSpec.ofChange calKnownSpec)

/-- ITS FALSE NEIGHBOUR: 'it returns false'. Refute it at one input. -/
def calKnownWrong : ChangeSpec := { name := "calKnown", fn := fun _ => fun
  | [] => { results := [.lit (.bool false)], args := [] }
  | _ => none }
def CalKnownWrongFalsely : Prop := calKnownRow.holds Try.pinned (OpenSpec.ofChange calKnownWrong)

/-- 'publicanlaw2.CalDays': WHATEVER THE INPUT: true; the input reads as it did. -/
def calDaysSpec : ChangeSpec := { name := "calDays", fn := fun _ => fun
  | [d1, d2, d3, d4, d5] => { results := [.lit (.bool true)], args := [d1, d2, d3, d4, d5] }
  | _ => none }
def calDaysRow : OpenClaim := { program := "ytadifdkengfgeaa", sum := "5a18a8f41eddc480a46640fc2015acabe27a37fee789436af3ff214a03c6e2d5", func := "publican/publicanlaw2.CalDays", spec := "calDays", apart := false }
def CalDaysSaid : Prop := calDaysRow.holds Try.pinned (OpenSpec.ofChange calDaysSpec)

/-- ITS FALSE NEIGHBOUR: 'it returns false'. Refute it at one input. -/
def calDaysWrong : ChangeSpec := { name := "calDays", fn := fun _ => fun
  | [d1, d2, d3, d4, d5] => { results := [.lit (.bool false)], args := [d1, d2, d3, d4, d5] }
  | _ => none }
def CalDaysWrongFalsely : Prop := calDaysRow.holds Try.pinned (OpenSpec.ofChange calDaysWrong)

/-- 'publicanlaw2.CalReads': WHATEVER THE INPUT: true; the input reads as it did. -/
def calReadsSpec : ChangeSpec := { name := "calReads", fn := fun _ => fun
  | [d] => { results := [.lit (.bool true)], args := [d] }
  | _ => none }
def calReadsRow : OpenClaim := { program := "ytadifdkengfgeaa", sum := "5a18a8f41eddc480a46640fc2015acabe27a37fee789436af3ff214a03c6e2d5", func := "publican/publicanlaw2.CalReads", spec := "calReads", apart := false }
def CalReadsSaid : Prop := calReadsRow.holds Try.pinned (OpenSpec.ofChange calReadsSpec)

/-- ITS FALSE NEIGHBOUR: 'it returns false'. Refute it at one input. -/
def calReadsWrong : ChangeSpec := { name := "calReads", fn := fun _ => fun
  | [d] => { results := [.lit (.bool false)], args := [d] }
  | _ => none }
def CalReadsWrongFalsely : Prop := calReadsRow.holds Try.pinned (OpenSpec.ofChange calReadsWrong)

/-- 'publicanlaw2.CalSteps': WHATEVER THE INPUT: true; the input reads as it did. -/
def calStepsSpec : ChangeSpec := { name := "calSteps", fn := fun _ => fun
  | [d] => { results := [.lit (.bool true)], args := [d] }
  | _ => none }
def calStepsRow : OpenClaim := { program := "ytadifdkengfgeaa", sum := "5a18a8f41eddc480a46640fc2015acabe27a37fee789436af3ff214a03c6e2d5", func := "publican/publicanlaw2.CalSteps", spec := "calSteps", apart := false }
def CalStepsSaid : Prop := calStepsRow.holds Try.pinned (OpenSpec.ofChange calStepsSpec)

/-- ITS FALSE NEIGHBOUR: 'it returns false'. Refute it at one input. -/
def calStepsWrong : ChangeSpec := { name := "calSteps", fn := fun _ => fun
  | [d] => { results := [.lit (.bool false)], args := [d] }
  | _ => none }
def CalStepsWrongFalsely : Prop := calStepsRow.holds Try.pinned (OpenSpec.ofChange calStepsWrong)

/-- 'publicanlaw2.CalMonths': WHATEVER THE INPUT: true; the input reads as it did. -/
def calMonthsSpec : ChangeSpec := { name := "calMonths", fn := fun _ => fun
  | [d1, d2] => { results := [.lit (.bool true)], args := [d1, d2] }
  | _ => none }
def calMonthsRow : OpenClaim := { program := "ytadifdkengfgeaa", sum := "5a18a8f41eddc480a46640fc2015acabe27a37fee789436af3ff214a03c6e2d5", func := "publican/publicanlaw2.CalMonths", spec := "calMonths", apart := false }
def CalMonthsSaid : Prop := calMonthsRow.holds Try.pinned (OpenSpec.ofChange calMonthsSpec)

/-- ITS FALSE NEIGHBOUR: 'it returns false'. Refute it at one input. -/
def calMonthsWrong : ChangeSpec := { name := "calMonths", fn := fun _ => fun
  | [d1, d2] => { results := [.lit (.bool false)], args := [d1, d2] }
  | _ => none }
def CalMonthsWrongFalsely : Prop := calMonthsRow.holds Try.pinned (OpenSpec.ofChange calMonthsWrong)

/-- 'publicanlaw2.CalWeeks': WHATEVER THE INPUT: true; the input reads as it did. -/
def calWeeksSpec : ChangeSpec := { name := "calWeeks", fn := fun _ => fun
  | [d] => { results := [.lit (.bool true)], args := [d] }
  | _ => none }
def calWeeksRow : OpenClaim := { program := "ytadifdkengfgeaa", sum := "5a18a8f41eddc480a46640fc2015acabe27a37fee789436af3ff214a03c6e2d5", func := "publican/publicanlaw2.CalWeeks", spec := "calWeeks", apart := false }
def CalWeeksSaid : Prop := calWeeksRow.holds Try.pinned (OpenSpec.ofChange calWeeksSpec)

/-- ITS FALSE NEIGHBOUR: 'it returns false'. Refute it at one input. -/
def calWeeksWrong : ChangeSpec := { name := "calWeeks", fn := fun _ => fun
  | [d] => { results := [.lit (.bool false)], args := [d] }
  | _ => none }
def CalWeeksWrongFalsely : Prop := calWeeksRow.holds Try.pinned (OpenSpec.ofChange calWeeksWrong)

/- THE SECOND FORM. 'bulk': how many values and letters a reading holds, each counted each time it is reached (what is shared counts as often as it is met; a slice's spare places count too). A statement '..UptoSaid' is the law's where the arguments, and the package variables that the reading takes, are together of bulk at most 1048576: NARROWER than '..Said'. Prove '..Said' where nothing that the law and all that it calls make is longer than what came in: it says more and counts as full. Else prove '..UptoSaid'. A law counts once. -/
mutual
def uptoBulk {H : Type} : DataW H → Nat
  | .lit (.string bytes) => bytes.length + 1
  | .lit _ => 1
  | .nil => 1
  | .ptr d => uptoBulk d + 1
  | .slice elems spare => uptoBulkAll elems + uptoBulkAll spare + 1
  | .agg parts => uptoBulkAll parts + 1
  | .iface _ d => uptoBulk d + 1
  | .map entries => uptoBulkEntries entries + 1
  | .held _ => 1
def uptoBulkAll {H : Type} : List (DataW H) → Nat
  | [] => 0
  | d :: r => uptoBulk d + uptoBulkAll r
def uptoBulkEntries {H : Type} : List (Lit × DataW H) → Nat
  | [] => 0
  | x :: r => uptoBulkEntry x + uptoBulkEntries r
def uptoBulkEntry {H : Type} : Lit × DataW H → Nat
  | (.string bytes, d) => bytes.length + uptoBulk d + 1
  | (_, d) => uptoBulk d + 1
 end
def uptoSmall : (H : Type) → List (DataW H) → Bool := fun _ ds => decide (uptoBulkAll ds ≤ 1048576)
def OpenSpec.upto (s : _root_.Go.ChangeSpec) : _root_.Go.OpenSpec := { _root_.Go.OpenSpec.ofChange s with cond := some uptoSmall }

/-- 'publicanlaw2.CalKnown', WHERE WHAT IT READS IS OF BULK AT MOST 1048576: true; the input reads as it did. -/
def calKnownUptoRow : OpenClaim := { program := "ytadifdkengfgeaa", sum := "5a18a8f41eddc480a46640fc2015acabe27a37fee789436af3ff214a03c6e2d5", func := "publican/publicanlaw2.CalKnown", spec := "calKnown", apart := false, narrowed := true }
def CalKnownUptoSaid : Prop := calKnownUptoRow.holds Try.pinned (OpenSpec.upto calKnownSpec)

/-- 'publicanlaw2.CalDays', WHERE WHAT IT READS IS OF BULK AT MOST 1048576: true; the input reads as it did. -/
def calDaysUptoRow : OpenClaim := { program := "ytadifdkengfgeaa", sum := "5a18a8f41eddc480a46640fc2015acabe27a37fee789436af3ff214a03c6e2d5", func := "publican/publicanlaw2.CalDays", spec := "calDays", apart := false, narrowed := true }
def CalDaysUptoSaid : Prop := calDaysUptoRow.holds Try.pinned (OpenSpec.upto calDaysSpec)

/-- 'publicanlaw2.CalReads', WHERE WHAT IT READS IS OF BULK AT MOST 1048576: true; the input reads as it did. -/
def calReadsUptoRow : OpenClaim := { program := "ytadifdkengfgeaa", sum := "5a18a8f41eddc480a46640fc2015acabe27a37fee789436af3ff214a03c6e2d5", func := "publican/publicanlaw2.CalReads", spec := "calReads", apart := false, narrowed := true }
def CalReadsUptoSaid : Prop := calReadsUptoRow.holds Try.pinned (OpenSpec.upto calReadsSpec)

/-- 'publicanlaw2.CalSteps', WHERE WHAT IT READS IS OF BULK AT MOST 1048576: true; the input reads as it did. -/
def calStepsUptoRow : OpenClaim := { program := "ytadifdkengfgeaa", sum := "5a18a8f41eddc480a46640fc2015acabe27a37fee789436af3ff214a03c6e2d5", func := "publican/publicanlaw2.CalSteps", spec := "calSteps", apart := false, narrowed := true }
def CalStepsUptoSaid : Prop := calStepsUptoRow.holds Try.pinned (OpenSpec.upto calStepsSpec)

/-- 'publicanlaw2.CalMonths', WHERE WHAT IT READS IS OF BULK AT MOST 1048576: true; the input reads as it did. -/
def calMonthsUptoRow : OpenClaim := { program := "ytadifdkengfgeaa", sum := "5a18a8f41eddc480a46640fc2015acabe27a37fee789436af3ff214a03c6e2d5", func := "publican/publicanlaw2.CalMonths", spec := "calMonths", apart := false, narrowed := true }
def CalMonthsUptoSaid : Prop := calMonthsUptoRow.holds Try.pinned (OpenSpec.upto calMonthsSpec)

/-- 'publicanlaw2.CalWeeks', WHERE WHAT IT READS IS OF BULK AT MOST 1048576: true; the input reads as it did. -/
def calWeeksUptoRow : OpenClaim := { program := "ytadifdkengfgeaa", sum := "5a18a8f41eddc480a46640fc2015acabe27a37fee789436af3ff214a03c6e2d5", func := "publican/publicanlaw2.CalWeeks", spec := "calWeeks", apart := false, narrowed := true }
def CalWeeksUptoSaid : Prop := calWeeksUptoRow.holds Try.pinned (OpenSpec.upto calWeeksSpec)

end Rows
end Go.Proofs.Ytadifdkengfgeaa
