/-
  NARROWER THAN 'FOR EVERY INPUT', by the rows' own cells (each row's printed sentence says how): VerifyKnown: laid · VerifyNests: laid.
  DERIVED. THE GIVEN ROWS OF THIS SEAT. 2 by the template 'for every input the law returns true; each argument reads behind the call as it read before'; 0 by the template 'total and deterministic' (their statements: YtjkbiglnpoeddaaDoorTotals.lean).
  GIVEN WITH THE SEED: the statements are not yours to turn. If you find one false, say at which input.
  Laid BY PROGRAM, IN A SANDBOX (cutbox-rows.mjs): the forced cells as the released guide's own fill.sh prints them over the translation 2191b7d1fecec2a1… (all of the seat's roots in one cut). By AI agents, Wed Nov 11 2026. No macro, syntax, notation, axiom, sorry.
-/
import Derived.Test.YtjkbiglnpoeddaaDoorChecked
import GoSem.Claim
import GoSem.ClaimJoined
import GoSem.ClaimMapViews
import Derived.JoinedTies
import Derived.KernelRfl
namespace Go.Proofs.YtjkbiglnpoeddaaDoor
/- THE CELL 'sum', in the pinned program and in every row, IS THE sha256 OF THE DUMP (.gsa) THAT YtjkbiglnpoeddaaDoorProg.lean LOADS. Nothing in Lean hashes anything: it is a label: what it is worth is what the hold of that sum in a sandbox is worth. -/
noncomputable def Tryd.pinned : Pinned := { name := "ytjkbiglnpoeddaadoor", sum := "2191b7d1fecec2a1b71bdbcf497f4aacd9392757739f19ac316c850cbfd123e1", checked := Tryd.checked }
namespace Rows
def none {H : Type} : Left H := { results := [], args := [] }

/- WHAT THE LISTED PACKAGE-LEVEL VARIABLES READ AS WHEN THE CALL BEGINS. Each datum BY PROGRAM (the guide's laid-datum.mjs) off the statement by which the dump's own 'gosem.cut.vars' lays the variable. In a bare row this is a premise. The card (YtjkbiglnpoeddaaDoorCards.lean) ties it to the program's text. -/
def laid_publican_code_rows {H : Type} : DataW H := .agg [.agg [.lit (.string [99, 111, 110, 115, 116]), .lit (.int .i64 1)], .agg [.lit (.string [105, 110]), .lit (.int .i64 1)], .agg [.lit (.string [108, 111, 97, 100]), .lit (.int .i64 1)], .agg [.lit (.string [115, 116, 111, 114, 101]), .lit (.int .i64 1)], .agg [.lit (.string [97, 100, 100]), .lit (.int .i64 1)], .agg [.lit (.string [115, 117, 98]), .lit (.int .i64 1)], .agg [.lit (.string [109, 117, 108]), .lit (.int .i64 1)], .agg [.lit (.string [100, 105, 118]), .lit (.int .i64 1)], .agg [.lit (.string [110, 101, 103]), .lit (.int .i64 1)], .agg [.lit (.string [110, 111, 116]), .lit (.int .i64 0)], .agg [.lit (.string [108, 116]), .lit (.int .i64 1)], .agg [.lit (.string [108, 101]), .lit (.int .i64 1)], .agg [.lit (.string [101, 113]), .lit (.int .i64 1)], .agg [.lit (.string [109, 105, 110]), .lit (.int .i64 1)], .agg [.lit (.string [109, 97, 120]), .lit (.int .i64 1)], .agg [.lit (.string [108, 101, 110]), .lit (.int .i64 1)], .agg [.lit (.string [97, 116]), .lit (.int .i64 1)], .agg [.lit (.string [106, 117, 109, 112]), .lit (.int .i64 1)], .agg [.lit (.string [117, 110, 108, 101, 115, 115]), .lit (.int .i64 1)], .agg [.lit (.string [102, 105, 114, 115, 116]), .lit (.int .i64 3)], .agg [.lit (.string [110, 101, 120, 116]), .lit (.int .i64 3)], .agg [.lit (.string [109, 97, 114, 107]), .lit (.int .i64 1)], .agg [.lit (.string [111, 117, 116]), .lit (.int .i64 1)], .agg [.lit (.string [104, 97, 108, 116]), .lit (.int .i64 0)]]
def laid_publican_verify_units {H : Type} : DataW H := .agg [.agg [.lit (.string [97, 100, 100]), .lit (.int .i64 2), .lit (.int .i64 2), .lit (.int .i64 2)], .agg [.lit (.string [97, 100, 100]), .lit (.int .i64 3), .lit (.int .i64 3), .lit (.int .i64 3)], .agg [.lit (.string [97, 100, 100]), .lit (.int .i64 4), .lit (.int .i64 4), .lit (.int .i64 4)], .agg [.lit (.string [97, 100, 100]), .lit (.int .i64 5), .lit (.int .i64 5), .lit (.int .i64 2)], .agg [.lit (.string [115, 117, 98]), .lit (.int .i64 2), .lit (.int .i64 2), .lit (.int .i64 2)], .agg [.lit (.string [115, 117, 98]), .lit (.int .i64 2), .lit (.int .i64 5), .lit (.int .i64 5)], .agg [.lit (.string [115, 117, 98]), .lit (.int .i64 3), .lit (.int .i64 3), .lit (.int .i64 3)], .agg [.lit (.string [115, 117, 98]), .lit (.int .i64 4), .lit (.int .i64 4), .lit (.int .i64 4)], .agg [.lit (.string [115, 117, 98]), .lit (.int .i64 5), .lit (.int .i64 5), .lit (.int .i64 2)], .agg [.lit (.string [109, 117, 108]), .lit (.int .i64 2), .lit (.int .i64 2), .lit (.int .i64 2)], .agg [.lit (.string [109, 117, 108]), .lit (.int .i64 3), .lit (.int .i64 3), .lit (.int .i64 2)], .agg [.lit (.string [109, 117, 108]), .lit (.int .i64 3), .lit (.int .i64 2), .lit (.int .i64 3)], .agg [.lit (.string [109, 117, 108]), .lit (.int .i64 3), .lit (.int .i64 3), .lit (.int .i64 4)], .agg [.lit (.string [109, 117, 108]), .lit (.int .i64 3), .lit (.int .i64 4), .lit (.int .i64 3)], .agg [.lit (.string [109, 117, 108]), .lit (.int .i64 4), .lit (.int .i64 4), .lit (.int .i64 2)], .agg [.lit (.string [109, 117, 108]), .lit (.int .i64 4), .lit (.int .i64 2), .lit (.int .i64 4)], .agg [.lit (.string [100, 105, 118]), .lit (.int .i64 2), .lit (.int .i64 2), .lit (.int .i64 2)], .agg [.lit (.string [100, 105, 118]), .lit (.int .i64 3), .lit (.int .i64 3), .lit (.int .i64 2)], .agg [.lit (.string [100, 105, 118]), .lit (.int .i64 4), .lit (.int .i64 3), .lit (.int .i64 3)]]

/-- 'publicanlaw17.VerifyKnown': WHATEVER THE INPUT: true; the input reads as it did. -/
def verifyKnownSpec : ChangeSpec := { name := "verifyKnown", fn := fun _ => fun
  | [] => { results := [.lit (.bool true)], args := [] }
  | _ => none }
def verifyKnownRow : OpenClaim := { program := "ytjkbiglnpoeddaadoor", sum := "2191b7d1fecec2a1b71bdbcf497f4aacd9392757739f19ac316c850cbfd123e1", func := "publican/publicanlaw17.VerifyKnown", spec := "verifyKnown", unfollowed := true, recurses := true, named := ["publican/code.rows", "publican/verify.units"], apart := false, laid := [("publican/code.rows", laid_publican_code_rows), ("publican/verify.units", laid_publican_verify_units)] }
def VerifyKnownSaid : Prop := verifyKnownRow.holds Tryd.pinned (OpenSpec.ofChange verifyKnownSpec)

/-- ITS FALSE NEIGHBOUR: 'it returns false'. Refute it at one input. -/
def verifyKnownWrong : ChangeSpec := { name := "verifyKnown", fn := fun _ => fun
  | [] => { results := [.lit (.bool false)], args := [] }
  | _ => none }
def VerifyKnownWrongFalsely : Prop := verifyKnownRow.holds Tryd.pinned (OpenSpec.ofChange verifyKnownWrong)

/-- 'publicanlaw17.VerifyNests': WHATEVER THE INPUT: true; the input reads as it did. -/
def verifyNestsSpec : ChangeSpec := { name := "verifyNests", fn := fun _ => fun
  | [d] => { results := [.lit (.bool true)], args := [d] }
  | _ => none }
def verifyNestsRow : OpenClaim := { program := "ytjkbiglnpoeddaadoor", sum := "2191b7d1fecec2a1b71bdbcf497f4aacd9392757739f19ac316c850cbfd123e1", func := "publican/publicanlaw17.VerifyNests", spec := "verifyNests", unfollowed := true, recurses := true, named := ["publican/code.rows", "publican/verify.units"], apart := false, laid := [("publican/code.rows", laid_publican_code_rows), ("publican/verify.units", laid_publican_verify_units)] }
def VerifyNestsSaid : Prop := verifyNestsRow.holds Tryd.pinned (OpenSpec.ofChange verifyNestsSpec)

/-- ITS FALSE NEIGHBOUR: 'it returns false'. Refute it at one input. -/
def verifyNestsWrong : ChangeSpec := { name := "verifyNests", fn := fun _ => fun
  | [d] => { results := [.lit (.bool false)], args := [d] }
  | _ => none }
def VerifyNestsWrongFalsely : Prop := verifyNestsRow.holds Tryd.pinned (OpenSpec.ofChange verifyNestsWrong)

/- THE SECOND FORM. 'bulk': how many values and letters a reading holds, each counted each time it is reached (what is shared counts as often as it is met; a slice's spare places count too). A statement '..UptoSaid' is the law's where the arguments, and the package variables that the reading takes, are together of bulk at most 1048576: NARROWER than '..Said'. Prove '..Said' where nothing that the law and all that it calls make is longer than what came in: it says more and counts as full. Else prove '..UptoSaid'. A law counts once. -/
mutual
def uptoBulk {H : Type} : DataW H → Nat
  | .lit (.string bytes) => bytes.length + 1
  | .lit _ => 1
  | .nil => 1
  | .ptr d => uptoBulk d + 1
  | .slice elems spare => uptoBulkAll elems + uptoBulkAll spare + 1
  | .agg parts => uptoBulkAll parts + 1
  | .iface _ d => uptoBulk d + 1
  | .map entries => uptoBulkEntries entries + 1
  | .held _ => 1
def uptoBulkAll {H : Type} : List (DataW H) → Nat
  | [] => 0
  | d :: r => uptoBulk d + uptoBulkAll r
def uptoBulkEntries {H : Type} : List (Lit × DataW H) → Nat
  | [] => 0
  | x :: r => uptoBulkEntry x + uptoBulkEntries r
def uptoBulkEntry {H : Type} : Lit × DataW H → Nat
  | (.string bytes, d) => bytes.length + uptoBulk d + 1
  | (_, d) => uptoBulk d + 1
 end
def uptoSmall : (H : Type) → List (DataW H) → Bool := fun _ ds => decide (uptoBulkAll ds ≤ 1048576)
def OpenSpec.upto (s : _root_.Go.ChangeSpec) : _root_.Go.OpenSpec := { _root_.Go.OpenSpec.ofChange s with cond := some uptoSmall }

/-- 'publicanlaw17.VerifyKnown', WHERE WHAT IT READS IS OF BULK AT MOST 1048576: true; the input reads as it did. -/
def verifyKnownUptoRow : OpenClaim := { program := "ytjkbiglnpoeddaadoor", sum := "2191b7d1fecec2a1b71bdbcf497f4aacd9392757739f19ac316c850cbfd123e1", func := "publican/publicanlaw17.VerifyKnown", spec := "verifyKnown", unfollowed := true, recurses := true, named := ["publican/code.rows", "publican/verify.units"], apart := false, laid := [("publican/code.rows", laid_publican_code_rows), ("publican/verify.units", laid_publican_verify_units)], narrowed := true }
def VerifyKnownUptoSaid : Prop := verifyKnownUptoRow.holds Tryd.pinned (OpenSpec.upto verifyKnownSpec)

/-- 'publicanlaw17.VerifyNests', WHERE WHAT IT READS IS OF BULK AT MOST 1048576: true; the input reads as it did. -/
def verifyNestsUptoRow : OpenClaim := { program := "ytjkbiglnpoeddaadoor", sum := "2191b7d1fecec2a1b71bdbcf497f4aacd9392757739f19ac316c850cbfd123e1", func := "publican/publicanlaw17.VerifyNests", spec := "verifyNests", unfollowed := true, recurses := true, named := ["publican/code.rows", "publican/verify.units"], apart := false, laid := [("publican/code.rows", laid_publican_code_rows), ("publican/verify.units", laid_publican_verify_units)], narrowed := true }
def VerifyNestsUptoSaid : Prop := verifyNestsUptoRow.holds Tryd.pinned (OpenSpec.upto verifyNestsSpec)

end Rows
end Go.Proofs.YtjkbiglnpoeddaaDoor
