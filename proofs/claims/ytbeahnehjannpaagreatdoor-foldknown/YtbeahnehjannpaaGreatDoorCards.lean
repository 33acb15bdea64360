/-
  DERIVED. GIVEN WITH THE SEED: THE CARDS: each row of YtbeahnehjannpaaGreatDoorRows.lean that lists a variable, with what it lists TIED to the program's text (the seventh form; the later family's looks); each row that meets fmt, with fmt's text TOLD by the authors' own Lean function (tested against real Go, not proved from fmt's source: count such statements apart). THE CARD IS WHAT COUNTS. Prove the row's statement (the work); the ties are given (YtbeahnehjannpaaGreatDoorTie.lean); close each card by the builder's one call (the guide's Derived/Test/ToyasCard.lean, 'card_holds'). Laid BY PROGRAM, IN A SANDBOX (cutbox-door.mjs). By AI agents, Wed Nov 11 2026. No macro, syntax, notation, axiom, sorry.
-/
import Derived.Test.YtbeahnehjannpaaGreatDoorRows
import GoSem.ClaimSeven
namespace Go.Proofs.YtbeahnehjannpaaGreatDoor
namespace Rows

/-- THE TIED CARD OF 'publicanlaw15.FoldKnown'. -/
def foldKnownCard : Claim7 := { stood := { row := foldKnownRow, standIns := [], harness := (true, "d7186a723da6c9f88a704cb64caec7ff298861237bbf9561e803e63ed1088c6e"), looks := false }, kinds := [], alts := [], laidByText := true, laidKinds := [.data, .data, .data, .data, .data], laidTests := true, laidLooks := .later }
def FoldKnownCardSaid : Prop := Claim7.holds Tryz.pinned (.plain (OpenSpec.ofChange foldKnownSpec)) foldKnownCard

/-- THE TIED CARD OF 'publicanlaw15.FoldSays'. -/
def foldSaysCard : Claim7 := { stood := { row := foldSaysRow, standIns := [], harness := (true, "d7186a723da6c9f88a704cb64caec7ff298861237bbf9561e803e63ed1088c6e"), looks := false }, kinds := [], alts := [], laidByText := true, laidKinds := [.data], laidTests := true, laidLooks := .later }
def FoldSaysCardSaid : Prop := Claim7.holds Tryz.pinned (.plain (OpenSpec.ofChange foldSaysSpec)) foldSaysCard

/-- THE TIED CARD OF 'publicanlaw15.FoldMeans'. -/
def foldMeansCard : Claim7 := { stood := { row := foldMeansRow, standIns := [], harness := (true, "d7186a723da6c9f88a704cb64caec7ff298861237bbf9561e803e63ed1088c6e"), looks := false }, kinds := [], alts := [], laidByText := true, laidKinds := [.data, .data], laidTests := true, laidLooks := .later }
def FoldMeansCardSaid : Prop := Claim7.holds Tryz.pinned (.plain (OpenSpec.ofChange foldMeansSpec)) foldMeansCard

/-- THE SECOND FORM's CARD OF 'publicanlaw15.FoldKnown'. -/
def foldKnownUptoCard : Claim7 := { stood := { row := foldKnownUptoRow, standIns := [], harness := (true, "d7186a723da6c9f88a704cb64caec7ff298861237bbf9561e803e63ed1088c6e"), looks := false }, kinds := [], alts := [], laidByText := true, laidKinds := [.data, .data, .data, .data, .data], laidTests := true, laidLooks := .later }
def FoldKnownUptoCardSaid : Prop := Claim7.holds Tryz.pinned (.plain (OpenSpec.upto foldKnownSpec)) foldKnownUptoCard

/-- THE SECOND FORM's CARD OF 'publicanlaw15.FoldSays'. -/
def foldSaysUptoCard : Claim7 := { stood := { row := foldSaysUptoRow, standIns := [], harness := (true, "d7186a723da6c9f88a704cb64caec7ff298861237bbf9561e803e63ed1088c6e"), looks := false }, kinds := [], alts := [], laidByText := true, laidKinds := [.data], laidTests := true, laidLooks := .later }
def FoldSaysUptoCardSaid : Prop := Claim7.holds Tryz.pinned (.plain (OpenSpec.upto foldSaysSpec)) foldSaysUptoCard

/-- THE SECOND FORM's CARD OF 'publicanlaw15.FoldMeans'. -/
def foldMeansUptoCard : Claim7 := { stood := { row := foldMeansUptoRow, standIns := [], harness := (true, "d7186a723da6c9f88a704cb64caec7ff298861237bbf9561e803e63ed1088c6e"), looks := false }, kinds := [], alts := [], laidByText := true, laidKinds := [.data, .data], laidTests := true, laidLooks := .later }
def FoldMeansUptoCardSaid : Prop := Claim7.holds Tryz.pinned (.plain (OpenSpec.upto foldMeansSpec)) foldMeansUptoCard
end Rows
end Go.Proofs.YtbeahnehjannpaaGreatDoor
