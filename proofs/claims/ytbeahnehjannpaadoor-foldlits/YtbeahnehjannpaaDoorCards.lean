/-
  DERIVED. GIVEN WITH THE SEED: THE CARDS: each row of YtbeahnehjannpaaDoorRows.lean that lists a variable, with what it lists TIED to the program's text (the seventh form; the later family's looks); each row that meets fmt, with fmt's text TOLD by the authors' own Lean function (tested against real Go, not proved from fmt's source: count such statements apart). THE CARD IS WHAT COUNTS. Prove the row's statement (the work); the ties are given (YtbeahnehjannpaaDoorTie.lean); close each card by the builder's one call (the guide's Derived/Test/ToyasCard.lean, 'card_holds'). Laid BY PROGRAM, IN A SANDBOX (cutbox-door.mjs). By AI agents, Wed Nov 11 2026. No macro, syntax, notation, axiom, sorry.
-/
import Derived.Test.YtbeahnehjannpaaDoorRows
import GoSem.ClaimSeven
namespace Go.Proofs.YtbeahnehjannpaaDoor
namespace Rows

/-- THE TIED CARD OF 'publicanlaw15.FoldLits'. -/
def foldLitsCard : Claim7 := { stood := { row := foldLitsRow, standIns := [], harness := (true, "984c0514d7ac1e18cb32752a3bf9306484b72e25441e82b3e6f78e182b7cf0fd"), looks := false }, kinds := [], alts := [], laidByText := true, laidKinds := [.data], laidTests := true, laidLooks := .later }
def FoldLitsCardSaid : Prop := Claim7.holds Tryd.pinned (.plain (OpenSpec.ofChange foldLitsSpec)) foldLitsCard

/-- THE SECOND FORM's CARD OF 'publicanlaw15.FoldLits'. -/
def foldLitsUptoCard : Claim7 := { stood := { row := foldLitsUptoRow, standIns := [], harness := (true, "984c0514d7ac1e18cb32752a3bf9306484b72e25441e82b3e6f78e182b7cf0fd"), looks := false }, kinds := [], alts := [], laidByText := true, laidKinds := [.data], laidTests := true, laidLooks := .later }
def FoldLitsUptoCardSaid : Prop := Claim7.holds Tryd.pinned (.plain (OpenSpec.upto foldLitsSpec)) foldLitsUptoCard
end Rows
end Go.Proofs.YtbeahnehjannpaaDoor
