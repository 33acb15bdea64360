/-
  DERIVED. GIVEN WITH THE SEED: THE CARDS: each row of YtonmdlhlkacppaaDoorRows.lean that lists a variable, with what it lists TIED to the program's text (the seventh form; the later family's looks); each row that meets fmt, with fmt's text TOLD by the authors' own Lean function (tested against real Go, not proved from fmt's source: count such statements apart). THE CARD IS WHAT COUNTS. Prove the row's statement (the work); the ties are given (YtonmdlhlkacppaaDoorTie.lean); close each card by the builder's one call (the guide's Derived/Test/ToyasCard.lean, 'card_holds'). Laid BY PROGRAM, IN A SANDBOX (cutbox-door.mjs). By AI agents, Wed Nov 11 2026. No macro, syntax, notation, axiom, sorry.
-/
import Derived.Test.YtonmdlhlkacppaaDoorRows
import GoSem.ClaimSeven
namespace Go.Proofs.YtonmdlhlkacppaaDoor
namespace Rows

/-- THE TIED CARD OF 'publicanlaw11.TypKnown'. -/
def typKnownCard : Claim7 := { stood := { row := typKnownRow, standIns := [], harness := (true, "18b7659960fceee76664e5e8229ec60a54f1483feb0ff9e163774367ae8304e1"), looks := false }, kinds := [], alts := [], laidByText := true, laidKinds := [.data], laidTests := true, laidLooks := .later }
def TypKnownCardSaid : Prop := Claim7.holds Tryd.pinned (.plain (OpenSpec.ofChange typKnownSpec)) typKnownCard

/-- THE TIED CARD OF 'publicanlaw11.TypSays'. -/
def typSaysCard : Claim7 := { stood := { row := typSaysRow, standIns := [], harness := (true, "18b7659960fceee76664e5e8229ec60a54f1483feb0ff9e163774367ae8304e1"), looks := false }, kinds := [], alts := [], laidByText := true, laidKinds := [.data], laidTests := true, laidLooks := .later }
def TypSaysCardSaid : Prop := Claim7.holds Tryd.pinned (.plain (OpenSpec.ofChange typSaysSpec)) typSaysCard

/-- THE TIED CARD OF 'publicanlaw11.TypOps'. -/
def typOpsCard : Claim7 := { stood := { row := typOpsRow, standIns := [], harness := (true, "18b7659960fceee76664e5e8229ec60a54f1483feb0ff9e163774367ae8304e1"), looks := false }, kinds := [], alts := [], laidByText := true, laidKinds := [.data], laidTests := true, laidLooks := .later }
def TypOpsCardSaid : Prop := Claim7.holds Tryd.pinned (.plain (OpenSpec.ofChange typOpsSpec)) typOpsCard

/-- THE TIED CARD OF 'publicanlaw11.TypNames'. -/
def typNamesCard : Claim7 := { stood := { row := typNamesRow, standIns := [], harness := (true, "18b7659960fceee76664e5e8229ec60a54f1483feb0ff9e163774367ae8304e1"), looks := false }, kinds := [], alts := [], laidByText := true, laidKinds := [.data], laidTests := true, laidLooks := .later }
def TypNamesCardSaid : Prop := Claim7.holds Tryd.pinned (.plain (OpenSpec.ofChange typNamesSpec)) typNamesCard

/-- THE TIED CARD OF 'publicanlaw11.TypMany'. -/
def typManyCard : Claim7 := { stood := { row := typManyRow, standIns := [], harness := (true, "18b7659960fceee76664e5e8229ec60a54f1483feb0ff9e163774367ae8304e1"), looks := false }, kinds := [], alts := [], laidByText := true, laidKinds := [.data], laidTests := true, laidLooks := .later }
def TypManyCardSaid : Prop := Claim7.holds Tryd.pinned (.plain (OpenSpec.ofChange typManySpec)) typManyCard

/-- THE SECOND FORM's CARD OF 'publicanlaw11.TypKnown'. -/
def typKnownUptoCard : Claim7 := { stood := { row := typKnownUptoRow, standIns := [], harness := (true, "18b7659960fceee76664e5e8229ec60a54f1483feb0ff9e163774367ae8304e1"), looks := false }, kinds := [], alts := [], laidByText := true, laidKinds := [.data], laidTests := true, laidLooks := .later }
def TypKnownUptoCardSaid : Prop := Claim7.holds Tryd.pinned (.plain (OpenSpec.upto typKnownSpec)) typKnownUptoCard

/-- THE SECOND FORM's CARD OF 'publicanlaw11.TypSays'. -/
def typSaysUptoCard : Claim7 := { stood := { row := typSaysUptoRow, standIns := [], harness := (true, "18b7659960fceee76664e5e8229ec60a54f1483feb0ff9e163774367ae8304e1"), looks := false }, kinds := [], alts := [], laidByText := true, laidKinds := [.data], laidTests := true, laidLooks := .later }
def TypSaysUptoCardSaid : Prop := Claim7.holds Tryd.pinned (.plain (OpenSpec.upto typSaysSpec)) typSaysUptoCard

/-- THE SECOND FORM's CARD OF 'publicanlaw11.TypOps'. -/
def typOpsUptoCard : Claim7 := { stood := { row := typOpsUptoRow, standIns := [], harness := (true, "18b7659960fceee76664e5e8229ec60a54f1483feb0ff9e163774367ae8304e1"), looks := false }, kinds := [], alts := [], laidByText := true, laidKinds := [.data], laidTests := true, laidLooks := .later }
def TypOpsUptoCardSaid : Prop := Claim7.holds Tryd.pinned (.plain (OpenSpec.upto typOpsSpec)) typOpsUptoCard

/-- THE SECOND FORM's CARD OF 'publicanlaw11.TypNames'. -/
def typNamesUptoCard : Claim7 := { stood := { row := typNamesUptoRow, standIns := [], harness := (true, "18b7659960fceee76664e5e8229ec60a54f1483feb0ff9e163774367ae8304e1"), looks := false }, kinds := [], alts := [], laidByText := true, laidKinds := [.data], laidTests := true, laidLooks := .later }
def TypNamesUptoCardSaid : Prop := Claim7.holds Tryd.pinned (.plain (OpenSpec.upto typNamesSpec)) typNamesUptoCard

/-- THE SECOND FORM's CARD OF 'publicanlaw11.TypMany'. -/
def typManyUptoCard : Claim7 := { stood := { row := typManyUptoRow, standIns := [], harness := (true, "18b7659960fceee76664e5e8229ec60a54f1483feb0ff9e163774367ae8304e1"), looks := false }, kinds := [], alts := [], laidByText := true, laidKinds := [.data], laidTests := true, laidLooks := .later }
def TypManyUptoCardSaid : Prop := Claim7.holds Tryd.pinned (.plain (OpenSpec.upto typManySpec)) typManyUptoCard
end Rows
end Go.Proofs.YtonmdlhlkacppaaDoor
