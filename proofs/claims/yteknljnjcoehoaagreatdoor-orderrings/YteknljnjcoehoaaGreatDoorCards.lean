/-
  DERIVED. GIVEN WITH THE SEED: THE CARDS: each row of YteknljnjcoehoaaGreatDoorRows.lean that lists a variable, with what it lists TIED to the program's text (the seventh form; the later family's looks); each row that meets fmt, with fmt's text TOLD by the authors' own Lean function (tested against real Go, not proved from fmt's source: count such statements apart). THE CARD IS WHAT COUNTS. Prove the row's statement (the work); the ties are given (YteknljnjcoehoaaGreatDoorTie.lean); close each card by the builder's one call (the guide's Derived/Test/ToyasCard.lean, 'card_holds'). Laid BY PROGRAM, IN A SANDBOX (cutbox-door.mjs). By AI agents, Wed Nov 11 2026. No macro, syntax, notation, axiom, sorry.
-/
import Derived.Test.YteknljnjcoehoaaGreatDoorRows
import GoSem.ClaimSeven
namespace Go.Proofs.YteknljnjcoehoaaGreatDoor
namespace Rows

/-- THE TIED CARD OF 'publicanlaw12.OrderKnown'. -/
def orderKnownCard : Claim7 := { stood := { row := orderKnownRow, standIns := [], harness := (true, "eee2c80038f3706849276335dffd935dee15ddcd8e037948b9d82b37f2e40c95"), looks := false }, kinds := [], alts := [], laidByText := true, laidKinds := [.data], laidTests := true, laidLooks := .later }
def OrderKnownCardSaid : Prop := Claim7.holds Tryz.pinned (.plain (OpenSpec.ofChange orderKnownSpec)) orderKnownCard

/-- THE TIED CARD OF 'publicanlaw12.OrderSays'. -/
def orderSaysCard : Claim7 := { stood := { row := orderSaysRow, standIns := [], harness := (true, "eee2c80038f3706849276335dffd935dee15ddcd8e037948b9d82b37f2e40c95"), looks := false }, kinds := [], alts := [], laidByText := true, laidKinds := [.data], laidTests := true, laidLooks := .later }
def OrderSaysCardSaid : Prop := Claim7.holds Tryz.pinned (.plain (OpenSpec.ofChange orderSaysSpec)) orderSaysCard

/-- THE TIED CARD OF 'publicanlaw12.OrderLeans'. -/
def orderLeansCard : Claim7 := { stood := { row := orderLeansRow, standIns := [], harness := (true, "eee2c80038f3706849276335dffd935dee15ddcd8e037948b9d82b37f2e40c95"), looks := false }, kinds := [], alts := [], laidByText := true, laidKinds := [.data], laidTests := true, laidLooks := .later }
def OrderLeansCardSaid : Prop := Claim7.holds Tryz.pinned (.plain (OpenSpec.ofChange orderLeansSpec)) orderLeansCard

/-- THE TIED CARD OF 'publicanlaw12.OrderRings'. -/
def orderRingsCard : Claim7 := { stood := { row := orderRingsRow, standIns := [], harness := (true, "eee2c80038f3706849276335dffd935dee15ddcd8e037948b9d82b37f2e40c95"), looks := false }, kinds := [], alts := [], laidByText := true, laidKinds := [.data], laidTests := true, laidLooks := .later }
def OrderRingsCardSaid : Prop := Claim7.holds Tryz.pinned (.plain (OpenSpec.ofChange orderRingsSpec)) orderRingsCard

/-- THE TIED CARD OF 'publicanlaw13.MeanKnown'. -/
def meanKnownCard : Claim7 := { stood := { row := meanKnownRow, standIns := [], harness := (true, "eee2c80038f3706849276335dffd935dee15ddcd8e037948b9d82b37f2e40c95"), looks := false }, kinds := [], alts := [], laidByText := true, laidKinds := [.data, .data], laidTests := true, laidLooks := .later }
def MeanKnownCardSaid : Prop := Claim7.holds Tryz.pinned (.plain (OpenSpec.ofChange meanKnownSpec)) meanKnownCard

/-- THE TIED CARD OF 'publicanlaw13.MeanRuns'. -/
def meanRunsCard : Claim7 := { stood := { row := meanRunsRow, standIns := [], harness := (true, "eee2c80038f3706849276335dffd935dee15ddcd8e037948b9d82b37f2e40c95"), looks := false }, kinds := [], alts := [], laidByText := true, laidKinds := [.data, .data], laidTests := true, laidLooks := .later }
def MeanRunsCardSaid : Prop := Claim7.holds Tryz.pinned (.plain (OpenSpec.ofChange meanRunsSpec)) meanRunsCard

/-- THE TIED CARD OF 'publicanlaw13.MeanOps'. -/
def meanOpsCard : Claim7 := { stood := { row := meanOpsRow, standIns := [], harness := (true, "eee2c80038f3706849276335dffd935dee15ddcd8e037948b9d82b37f2e40c95"), looks := false }, kinds := [], alts := [], laidByText := true, laidKinds := [.data, .data], laidTests := true, laidLooks := .later }
def MeanOpsCardSaid : Prop := Claim7.holds Tryz.pinned (.plain (OpenSpec.ofChange meanOpsSpec)) meanOpsCard

/-- THE TIED CARD OF 'publicanlaw13.MeanTables'. -/
def meanTablesCard : Claim7 := { stood := { row := meanTablesRow, standIns := [], harness := (true, "eee2c80038f3706849276335dffd935dee15ddcd8e037948b9d82b37f2e40c95"), looks := false }, kinds := [], alts := [], laidByText := true, laidKinds := [.data, .data], laidTests := true, laidLooks := .later }
def MeanTablesCardSaid : Prop := Claim7.holds Tryz.pinned (.plain (OpenSpec.ofChange meanTablesSpec)) meanTablesCard

/-- THE TIED CARD OF 'publicanlaw13.MeanSums'. -/
def meanSumsCard : Claim7 := { stood := { row := meanSumsRow, standIns := [], harness := (true, "eee2c80038f3706849276335dffd935dee15ddcd8e037948b9d82b37f2e40c95"), looks := false }, kinds := [], alts := [], laidByText := true, laidKinds := [.data, .data], laidTests := true, laidLooks := .later }
def MeanSumsCardSaid : Prop := Claim7.holds Tryz.pinned (.plain (OpenSpec.ofChange meanSumsSpec)) meanSumsCard

/-- THE TIED CARD OF 'publicanlaw13.MeanDays'. -/
def meanDaysCard : Claim7 := { stood := { row := meanDaysRow, standIns := [], harness := (true, "eee2c80038f3706849276335dffd935dee15ddcd8e037948b9d82b37f2e40c95"), looks := false }, kinds := [], alts := [], laidByText := true, laidKinds := [.data, .data], laidTests := true, laidLooks := .later }
def MeanDaysCardSaid : Prop := Claim7.holds Tryz.pinned (.plain (OpenSpec.ofChange meanDaysSpec)) meanDaysCard

/-- THE TIED CARD OF 'publicanlaw13.MeanBranches'. -/
def meanBranchesCard : Claim7 := { stood := { row := meanBranchesRow, standIns := [], harness := (true, "eee2c80038f3706849276335dffd935dee15ddcd8e037948b9d82b37f2e40c95"), looks := false }, kinds := [], alts := [], laidByText := true, laidKinds := [.data, .data], laidTests := true, laidLooks := .later }
def MeanBranchesCardSaid : Prop := Claim7.holds Tryz.pinned (.plain (OpenSpec.ofChange meanBranchesSpec)) meanBranchesCard

/-- THE TIED CARD OF 'publicanlaw13.MeanMoney'. -/
def meanMoneyCard : Claim7 := { stood := { row := meanMoneyRow, standIns := [], harness := (true, "eee2c80038f3706849276335dffd935dee15ddcd8e037948b9d82b37f2e40c95"), looks := false }, kinds := [], alts := [], laidByText := true, laidKinds := [.data, .data], laidTests := true, laidLooks := .later }
def MeanMoneyCardSaid : Prop := Claim7.holds Tryz.pinned (.plain (OpenSpec.ofChange meanMoneySpec)) meanMoneyCard

/-- THE SECOND FORM's CARD OF 'publicanlaw12.OrderKnown'. -/
def orderKnownUptoCard : Claim7 := { stood := { row := orderKnownUptoRow, standIns := [], harness := (true, "eee2c80038f3706849276335dffd935dee15ddcd8e037948b9d82b37f2e40c95"), looks := false }, kinds := [], alts := [], laidByText := true, laidKinds := [.data], laidTests := true, laidLooks := .later }
def OrderKnownUptoCardSaid : Prop := Claim7.holds Tryz.pinned (.plain (OpenSpec.upto orderKnownSpec)) orderKnownUptoCard

/-- THE SECOND FORM's CARD OF 'publicanlaw12.OrderSays'. -/
def orderSaysUptoCard : Claim7 := { stood := { row := orderSaysUptoRow, standIns := [], harness := (true, "eee2c80038f3706849276335dffd935dee15ddcd8e037948b9d82b37f2e40c95"), looks := false }, kinds := [], alts := [], laidByText := true, laidKinds := [.data], laidTests := true, laidLooks := .later }
def OrderSaysUptoCardSaid : Prop := Claim7.holds Tryz.pinned (.plain (OpenSpec.upto orderSaysSpec)) orderSaysUptoCard

/-- THE SECOND FORM's CARD OF 'publicanlaw12.OrderLeans'. -/
def orderLeansUptoCard : Claim7 := { stood := { row := orderLeansUptoRow, standIns := [], harness := (true, "eee2c80038f3706849276335dffd935dee15ddcd8e037948b9d82b37f2e40c95"), looks := false }, kinds := [], alts := [], laidByText := true, laidKinds := [.data], laidTests := true, laidLooks := .later }
def OrderLeansUptoCardSaid : Prop := Claim7.holds Tryz.pinned (.plain (OpenSpec.upto orderLeansSpec)) orderLeansUptoCard

/-- THE SECOND FORM's CARD OF 'publicanlaw12.OrderRings'. -/
def orderRingsUptoCard : Claim7 := { stood := { row := orderRingsUptoRow, standIns := [], harness := (true, "eee2c80038f3706849276335dffd935dee15ddcd8e037948b9d82b37f2e40c95"), looks := false }, kinds := [], alts := [], laidByText := true, laidKinds := [.data], laidTests := true, laidLooks := .later }
def OrderRingsUptoCardSaid : Prop := Claim7.holds Tryz.pinned (.plain (OpenSpec.upto orderRingsSpec)) orderRingsUptoCard

/-- THE SECOND FORM's CARD OF 'publicanlaw13.MeanKnown'. -/
def meanKnownUptoCard : Claim7 := { stood := { row := meanKnownUptoRow, standIns := [], harness := (true, "eee2c80038f3706849276335dffd935dee15ddcd8e037948b9d82b37f2e40c95"), looks := false }, kinds := [], alts := [], laidByText := true, laidKinds := [.data, .data], laidTests := true, laidLooks := .later }
def MeanKnownUptoCardSaid : Prop := Claim7.holds Tryz.pinned (.plain (OpenSpec.upto meanKnownSpec)) meanKnownUptoCard

/-- THE SECOND FORM's CARD OF 'publicanlaw13.MeanRuns'. -/
def meanRunsUptoCard : Claim7 := { stood := { row := meanRunsUptoRow, standIns := [], harness := (true, "eee2c80038f3706849276335dffd935dee15ddcd8e037948b9d82b37f2e40c95"), looks := false }, kinds := [], alts := [], laidByText := true, laidKinds := [.data, .data], laidTests := true, laidLooks := .later }
def MeanRunsUptoCardSaid : Prop := Claim7.holds Tryz.pinned (.plain (OpenSpec.upto meanRunsSpec)) meanRunsUptoCard

/-- THE SECOND FORM's CARD OF 'publicanlaw13.MeanOps'. -/
def meanOpsUptoCard : Claim7 := { stood := { row := meanOpsUptoRow, standIns := [], harness := (true, "eee2c80038f3706849276335dffd935dee15ddcd8e037948b9d82b37f2e40c95"), looks := false }, kinds := [], alts := [], laidByText := true, laidKinds := [.data, .data], laidTests := true, laidLooks := .later }
def MeanOpsUptoCardSaid : Prop := Claim7.holds Tryz.pinned (.plain (OpenSpec.upto meanOpsSpec)) meanOpsUptoCard

/-- THE SECOND FORM's CARD OF 'publicanlaw13.MeanTables'. -/
def meanTablesUptoCard : Claim7 := { stood := { row := meanTablesUptoRow, standIns := [], harness := (true, "eee2c80038f3706849276335dffd935dee15ddcd8e037948b9d82b37f2e40c95"), looks := false }, kinds := [], alts := [], laidByText := true, laidKinds := [.data, .data], laidTests := true, laidLooks := .later }
def MeanTablesUptoCardSaid : Prop := Claim7.holds Tryz.pinned (.plain (OpenSpec.upto meanTablesSpec)) meanTablesUptoCard

/-- THE SECOND FORM's CARD OF 'publicanlaw13.MeanSums'. -/
def meanSumsUptoCard : Claim7 := { stood := { row := meanSumsUptoRow, standIns := [], harness := (true, "eee2c80038f3706849276335dffd935dee15ddcd8e037948b9d82b37f2e40c95"), looks := false }, kinds := [], alts := [], laidByText := true, laidKinds := [.data, .data], laidTests := true, laidLooks := .later }
def MeanSumsUptoCardSaid : Prop := Claim7.holds Tryz.pinned (.plain (OpenSpec.upto meanSumsSpec)) meanSumsUptoCard

/-- THE SECOND FORM's CARD OF 'publicanlaw13.MeanDays'. -/
def meanDaysUptoCard : Claim7 := { stood := { row := meanDaysUptoRow, standIns := [], harness := (true, "eee2c80038f3706849276335dffd935dee15ddcd8e037948b9d82b37f2e40c95"), looks := false }, kinds := [], alts := [], laidByText := true, laidKinds := [.data, .data], laidTests := true, laidLooks := .later }
def MeanDaysUptoCardSaid : Prop := Claim7.holds Tryz.pinned (.plain (OpenSpec.upto meanDaysSpec)) meanDaysUptoCard

/-- THE SECOND FORM's CARD OF 'publicanlaw13.MeanBranches'. -/
def meanBranchesUptoCard : Claim7 := { stood := { row := meanBranchesUptoRow, standIns := [], harness := (true, "eee2c80038f3706849276335dffd935dee15ddcd8e037948b9d82b37f2e40c95"), looks := false }, kinds := [], alts := [], laidByText := true, laidKinds := [.data, .data], laidTests := true, laidLooks := .later }
def MeanBranchesUptoCardSaid : Prop := Claim7.holds Tryz.pinned (.plain (OpenSpec.upto meanBranchesSpec)) meanBranchesUptoCard

/-- THE SECOND FORM's CARD OF 'publicanlaw13.MeanMoney'. -/
def meanMoneyUptoCard : Claim7 := { stood := { row := meanMoneyUptoRow, standIns := [], harness := (true, "eee2c80038f3706849276335dffd935dee15ddcd8e037948b9d82b37f2e40c95"), looks := false }, kinds := [], alts := [], laidByText := true, laidKinds := [.data, .data], laidTests := true, laidLooks := .later }
def MeanMoneyUptoCardSaid : Prop := Claim7.holds Tryz.pinned (.plain (OpenSpec.upto meanMoneySpec)) meanMoneyUptoCard
end Rows
end Go.Proofs.YteknljnjcoehoaaGreatDoor
