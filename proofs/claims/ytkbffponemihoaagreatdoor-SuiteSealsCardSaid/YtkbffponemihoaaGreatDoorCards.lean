/-
  DERIVED. GIVEN WITH THE SEED: THE CARDS: each row of YtkbffponemihoaaGreatDoorRows.lean that lists a variable, with what it lists TIED to the program's text (the seventh form; the later family's looks); each row that meets fmt, with fmt's text TOLD by the authors' own Lean function (tested against real Go, not proved from fmt's source: count such statements apart). THE CARD IS WHAT COUNTS. Prove the row's statement (the work); the ties are given (YtkbffponemihoaaGreatDoorTie.lean); close each card by the builder's one call (the guide's Derived/Test/ToyasCard.lean, 'card_holds'). Laid BY PROGRAM, IN A SANDBOX (cutbox-door.mjs). By AI agents, Wed Nov 11 2026. No macro, syntax, notation, axiom, sorry.
-/
import Derived.Test.YtkbffponemihoaaGreatDoorRows
import GoSem.ClaimSeven
namespace Go.Proofs.YtkbffponemihoaaGreatDoor
namespace Rows

/-- THE TIED CARD OF 'missivelaw13.SuiteSeals'. -/
def suiteSealsCard : Claim7 := { stood := { row := suiteSealsRow, standIns := [], harness := (true, "dc0893224ddda62bff50604ce8f5ca8591471fa900d735cca6f24869290392c8"), looks := false }, kinds := [], alts := [], laidByText := true, laidKinds := [.data, .data], laidTests := true, laidLooks := .later }
def SuiteSealsCardSaid : Prop := Claim7.holds Tryz.pinned (.plain (OpenSpec.ofChange suiteSealsSpec)) suiteSealsCard

/-- THE SECOND FORM's CARD OF 'missivelaw13.SuiteSeals'. -/
def suiteSealsUptoCard : Claim7 := { stood := { row := suiteSealsUptoRow, standIns := [], harness := (true, "dc0893224ddda62bff50604ce8f5ca8591471fa900d735cca6f24869290392c8"), looks := false }, kinds := [], alts := [], laidByText := true, laidKinds := [.data, .data], laidTests := true, laidLooks := .later }
def SuiteSealsUptoCardSaid : Prop := Claim7.holds Tryz.pinned (.plain (OpenSpec.upto suiteSealsSpec)) suiteSealsUptoCard
end Rows
end Go.Proofs.YtkbffponemihoaaGreatDoor
