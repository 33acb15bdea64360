/-
  DERIVED. GIVEN WITH THE SEED: THE CARDS: each row of YtjkbiglnpoeddaaDoorRows.lean that lists a variable, with what it lists TIED to the program's text (the seventh form; the later family's looks); each row that meets fmt, with fmt's text TOLD by the authors' own Lean function (tested against real Go, not proved from fmt's source: count such statements apart). THE CARD IS WHAT COUNTS. Prove the row's statement (the work); the ties are given (YtjkbiglnpoeddaaDoorTie.lean); close each card by the builder's one call (the guide's Derived/Test/ToyasCard.lean, 'card_holds'). Laid BY PROGRAM, IN A SANDBOX (cutbox-door.mjs). By AI agents, Wed Nov 11 2026. No macro, syntax, notation, axiom, sorry.
-/
import Derived.Test.YtjkbiglnpoeddaaDoorRows
import GoSem.ClaimSeven
namespace Go.Proofs.YtjkbiglnpoeddaaDoor
namespace Rows

/-- THE TIED CARD OF 'publicanlaw17.VerifyKnown'. -/
def verifyKnownCard : Claim7 := { stood := { row := verifyKnownRow, standIns := [], harness := (true, "3d19631d758bc97e7d270cae31b82964a20eb97d8a74dc3222a932d0ba0b3f59"), looks := false }, kinds := [], alts := [], laidByText := true, laidKinds := [.data, .data], laidTests := true, laidLooks := .later }
def VerifyKnownCardSaid : Prop := Claim7.holds Tryd.pinned (.plain (OpenSpec.ofChange verifyKnownSpec)) verifyKnownCard

/-- THE TIED CARD OF 'publicanlaw17.VerifyNests'. -/
def verifyNestsCard : Claim7 := { stood := { row := verifyNestsRow, standIns := [], harness := (true, "3d19631d758bc97e7d270cae31b82964a20eb97d8a74dc3222a932d0ba0b3f59"), looks := false }, kinds := [], alts := [], laidByText := true, laidKinds := [.data, .data], laidTests := true, laidLooks := .later }
def VerifyNestsCardSaid : Prop := Claim7.holds Tryd.pinned (.plain (OpenSpec.ofChange verifyNestsSpec)) verifyNestsCard

/-- THE SECOND FORM's CARD OF 'publicanlaw17.VerifyKnown'. -/
def verifyKnownUptoCard : Claim7 := { stood := { row := verifyKnownUptoRow, standIns := [], harness := (true, "3d19631d758bc97e7d270cae31b82964a20eb97d8a74dc3222a932d0ba0b3f59"), looks := false }, kinds := [], alts := [], laidByText := true, laidKinds := [.data, .data], laidTests := true, laidLooks := .later }
def VerifyKnownUptoCardSaid : Prop := Claim7.holds Tryd.pinned (.plain (OpenSpec.upto verifyKnownSpec)) verifyKnownUptoCard

/-- THE SECOND FORM's CARD OF 'publicanlaw17.VerifyNests'. -/
def verifyNestsUptoCard : Claim7 := { stood := { row := verifyNestsUptoRow, standIns := [], harness := (true, "3d19631d758bc97e7d270cae31b82964a20eb97d8a74dc3222a932d0ba0b3f59"), looks := false }, kinds := [], alts := [], laidByText := true, laidKinds := [.data, .data], laidTests := true, laidLooks := .later }
def VerifyNestsUptoCardSaid : Prop := Claim7.holds Tryd.pinned (.plain (OpenSpec.upto verifyNestsSpec)) verifyNestsUptoCard
end Rows
end Go.Proofs.YtjkbiglnpoeddaaDoor
