/-
  DERIVED. GIVEN WITH THE SEED: THE CARDS: each row of YtkbffponemihoaaDoorRows.lean that lists a variable, with what it lists TIED to the program's text (the seventh form; the later family's looks); each row that meets fmt, with fmt's text TOLD by the authors' own Lean function (tested against real Go, not proved from fmt's source: count such statements apart). THE CARD IS WHAT COUNTS. Prove the row's statement (the work); the ties are given (YtkbffponemihoaaDoorTie.lean); close each card by the builder's one call (the guide's Derived/Test/ToyasCard.lean, 'card_holds'). Laid BY PROGRAM, IN A SANDBOX (cutbox-door.mjs). By AI agents, Wed Nov 11 2026. No macro, syntax, notation, axiom, sorry.
-/
import Derived.Test.YtkbffponemihoaaDoorRows
import GoSem.ClaimSeven
namespace Go.Proofs.YtkbffponemihoaaDoor
namespace Rows

/-- THE TIED CARD OF 'missivelaw13.SuiteMixes'. -/
def suiteMixesCard : Claim7 := { stood := { row := suiteMixesRow, standIns := [], harness := (true, "50c65e3ca8bb5b75cb9fc880e9d962b9471fac0a22574b34576027c046335f10"), looks := false }, kinds := [], alts := [], laidByText := true, laidKinds := [.data, .data], laidTests := true, laidLooks := .later }
def SuiteMixesCardSaid : Prop := Claim7.holds Tryd.pinned (.plain (OpenSpec.ofChange suiteMixesSpec)) suiteMixesCard

/-- THE TIED CARD OF 'missivelaw13.SuiteOpens'. -/
def suiteOpensCard : Claim7 := { stood := { row := suiteOpensRow, standIns := [], harness := (true, "50c65e3ca8bb5b75cb9fc880e9d962b9471fac0a22574b34576027c046335f10"), looks := false }, kinds := [], alts := [], laidByText := true, laidKinds := [.data, .data], laidTests := true, laidLooks := .later }
def SuiteOpensCardSaid : Prop := Claim7.holds Tryd.pinned (.plain (OpenSpec.ofChange suiteOpensSpec)) suiteOpensCard

/-- THE TIED CARD OF 'missivelaw13.SuiteSizes'. -/
def suiteSizesCard : Claim7 := { stood := { row := suiteSizesRow, standIns := [], harness := (true, "50c65e3ca8bb5b75cb9fc880e9d962b9471fac0a22574b34576027c046335f10"), looks := false }, kinds := [], alts := [], laidByText := true, laidKinds := [.data, .data], laidTests := true, laidLooks := .later }
def SuiteSizesCardSaid : Prop := Claim7.holds Tryd.pinned (.plain (OpenSpec.ofChange suiteSizesSpec)) suiteSizesCard

/-- THE SECOND FORM's CARD OF 'missivelaw13.SuiteMixes'. -/
def suiteMixesUptoCard : Claim7 := { stood := { row := suiteMixesUptoRow, standIns := [], harness := (true, "50c65e3ca8bb5b75cb9fc880e9d962b9471fac0a22574b34576027c046335f10"), looks := false }, kinds := [], alts := [], laidByText := true, laidKinds := [.data, .data], laidTests := true, laidLooks := .later }
def SuiteMixesUptoCardSaid : Prop := Claim7.holds Tryd.pinned (.plain (OpenSpec.upto suiteMixesSpec)) suiteMixesUptoCard

/-- THE SECOND FORM's CARD OF 'missivelaw13.SuiteOpens'. -/
def suiteOpensUptoCard : Claim7 := { stood := { row := suiteOpensUptoRow, standIns := [], harness := (true, "50c65e3ca8bb5b75cb9fc880e9d962b9471fac0a22574b34576027c046335f10"), looks := false }, kinds := [], alts := [], laidByText := true, laidKinds := [.data, .data], laidTests := true, laidLooks := .later }
def SuiteOpensUptoCardSaid : Prop := Claim7.holds Tryd.pinned (.plain (OpenSpec.upto suiteOpensSpec)) suiteOpensUptoCard

/-- THE SECOND FORM's CARD OF 'missivelaw13.SuiteSizes'. -/
def suiteSizesUptoCard : Claim7 := { stood := { row := suiteSizesUptoRow, standIns := [], harness := (true, "50c65e3ca8bb5b75cb9fc880e9d962b9471fac0a22574b34576027c046335f10"), looks := false }, kinds := [], alts := [], laidByText := true, laidKinds := [.data, .data], laidTests := true, laidLooks := .later }
def SuiteSizesUptoCardSaid : Prop := Claim7.holds Tryd.pinned (.plain (OpenSpec.upto suiteSizesSpec)) suiteSizesUptoCard
end Rows
end Go.Proofs.YtkbffponemihoaaDoor
