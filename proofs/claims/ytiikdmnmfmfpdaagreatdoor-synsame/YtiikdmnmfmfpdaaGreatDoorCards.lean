/-
  DERIVED. GIVEN WITH THE SEED: THE CARDS: each row of YtiikdmnmfmfpdaaGreatDoorRows.lean that lists a variable, with what it lists TIED to the program's text (the seventh form; the later family's looks); each row that meets fmt, with fmt's text TOLD by the authors' own Lean function (tested against real Go, not proved from fmt's source: count such statements apart). THE CARD IS WHAT COUNTS. Prove the row's statement (the work); the ties are given (YtiikdmnmfmfpdaaGreatDoorTie.lean); close each card by the builder's one call (the guide's Derived/Test/ToyasCard.lean, 'card_holds'). Laid BY PROGRAM, IN A SANDBOX (cutbox-door.mjs). By AI agents, Wed Nov 11 2026. No macro, syntax, notation, axiom, sorry.
-/
import Derived.Test.YtiikdmnmfmfpdaaGreatDoorRows
import GoSem.ClaimSeven
namespace Go.Proofs.YtiikdmnmfmfpdaaGreatDoor
namespace Rows

/-- THE TIED CARD OF 'publicanlaw10.SynReads'. -/
def synReadsCard : Claim7 := { stood := { row := synReadsRow, standIns := [], harness := (true, "f0837dcb3e5a7c1e23a5ede18647a4004ac18e6a79d3d9c4fb6409a1d556afe2"), looks := false }, kinds := [], alts := [], laidByText := true, laidKinds := [.data, .data, .data, .data, .data], laidTests := true, laidLooks := .later }
def SynReadsCardSaid : Prop := Claim7.holds Tryz.pinned (.plain (OpenSpec.ofChange synReadsSpec)) synReadsCard

/-- THE TIED CARD OF 'publicanlaw10.SynBack'. -/
def synBackCard : Claim7 := { stood := { row := synBackRow, standIns := [], harness := (true, "f0837dcb3e5a7c1e23a5ede18647a4004ac18e6a79d3d9c4fb6409a1d556afe2"), looks := false }, kinds := [], alts := [], laidByText := true, laidKinds := [.data, .data, .data, .data, .data], laidTests := true, laidLooks := .later }
def SynBackCardSaid : Prop := Claim7.holds Tryz.pinned (.plain (OpenSpec.ofChange synBackSpec)) synBackCard

/-- THE TIED CARD OF 'publicanlaw10.SynSame'. -/
def synSameCard : Claim7 := { stood := { row := synSameRow, standIns := [], harness := (true, "f0837dcb3e5a7c1e23a5ede18647a4004ac18e6a79d3d9c4fb6409a1d556afe2"), looks := false }, kinds := [], alts := [], laidByText := true, laidKinds := [.data, .data, .data, .data, .data], laidTests := true, laidLooks := .later }
def SynSameCardSaid : Prop := Claim7.holds Tryz.pinned (.plain (OpenSpec.ofChange synSameSpec)) synSameCard

/-- THE SECOND FORM's CARD OF 'publicanlaw10.SynReads'. -/
def synReadsUptoCard : Claim7 := { stood := { row := synReadsUptoRow, standIns := [], harness := (true, "f0837dcb3e5a7c1e23a5ede18647a4004ac18e6a79d3d9c4fb6409a1d556afe2"), looks := false }, kinds := [], alts := [], laidByText := true, laidKinds := [.data, .data, .data, .data, .data], laidTests := true, laidLooks := .later }
def SynReadsUptoCardSaid : Prop := Claim7.holds Tryz.pinned (.plain (OpenSpec.upto synReadsSpec)) synReadsUptoCard

/-- THE SECOND FORM's CARD OF 'publicanlaw10.SynBack'. -/
def synBackUptoCard : Claim7 := { stood := { row := synBackUptoRow, standIns := [], harness := (true, "f0837dcb3e5a7c1e23a5ede18647a4004ac18e6a79d3d9c4fb6409a1d556afe2"), looks := false }, kinds := [], alts := [], laidByText := true, laidKinds := [.data, .data, .data, .data, .data], laidTests := true, laidLooks := .later }
def SynBackUptoCardSaid : Prop := Claim7.holds Tryz.pinned (.plain (OpenSpec.upto synBackSpec)) synBackUptoCard

/-- THE SECOND FORM's CARD OF 'publicanlaw10.SynSame'. -/
def synSameUptoCard : Claim7 := { stood := { row := synSameUptoRow, standIns := [], harness := (true, "f0837dcb3e5a7c1e23a5ede18647a4004ac18e6a79d3d9c4fb6409a1d556afe2"), looks := false }, kinds := [], alts := [], laidByText := true, laidKinds := [.data, .data, .data, .data, .data], laidTests := true, laidLooks := .later }
def SynSameUptoCardSaid : Prop := Claim7.holds Tryz.pinned (.plain (OpenSpec.upto synSameSpec)) synSameUptoCard
end Rows
end Go.Proofs.YtiikdmnmfmfpdaaGreatDoor
