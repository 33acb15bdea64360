/-
  DERIVED. GIVEN WITH THE SEED: THE CARDS: each row of YtobolipjgkabhaaDoorRows.lean that lists a variable, with what it lists TIED to the program's text (the seventh form; the later family's looks); each row that meets fmt, with fmt's text TOLD by the authors' own Lean function (tested against real Go, not proved from fmt's source: count such statements apart). THE CARD IS WHAT COUNTS. Prove the row's statement (the work); the ties are given (YtobolipjgkabhaaDoorTie.lean); close each card by the builder's one call (the guide's Derived/Test/ToyasCard.lean, 'card_holds'). Laid BY PROGRAM, IN A SANDBOX (cutbox-door.mjs). By AI agents, Wed Nov 11 2026. No macro, syntax, notation, axiom, sorry.
-/
import Derived.Test.YtobolipjgkabhaaDoorRows
import GoSem.ClaimSeven
namespace Go.Proofs.YtobolipjgkabhaaDoor
namespace Rows

/-- THE TIED CARD OF 'publicanlaw10.SynNests'. -/
def synNestsCard : Claim7 := { stood := { row := synNestsRow, standIns := [], harness := (true, "735af73df74dc5e534f82a9cd78174926444bcedbb9e4e3f7c3621d2e2e3322c"), looks := false }, kinds := [], alts := [], laidByText := true, laidKinds := [.data, .data, .data, .data, .data], laidTests := true, laidLooks := .later }
def SynNestsCardSaid : Prop := Claim7.holds Tryd.pinned (.plain (OpenSpec.ofChange synNestsSpec)) synNestsCard

/-- THE SECOND FORM's CARD OF 'publicanlaw10.SynNests'. -/
def synNestsUptoCard : Claim7 := { stood := { row := synNestsUptoRow, standIns := [], harness := (true, "735af73df74dc5e534f82a9cd78174926444bcedbb9e4e3f7c3621d2e2e3322c"), looks := false }, kinds := [], alts := [], laidByText := true, laidKinds := [.data, .data, .data, .data, .data], laidTests := true, laidLooks := .later }
def SynNestsUptoCardSaid : Prop := Claim7.holds Tryd.pinned (.plain (OpenSpec.upto synNestsSpec)) synNestsUptoCard
end Rows
end Go.Proofs.YtobolipjgkabhaaDoor
