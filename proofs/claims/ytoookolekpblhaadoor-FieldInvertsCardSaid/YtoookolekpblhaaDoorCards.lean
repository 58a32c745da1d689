/-
  DERIVED. GIVEN WITH THE SEED: THE CARDS: each row of YtoookolekpblhaaDoorRows.lean that lists a variable, with what it lists TIED to the program's text (the seventh form; the later family's looks); each row that meets fmt, with fmt's text TOLD by the authors' own Lean function (tested against real Go, not proved from fmt's source: count such statements apart). THE CARD IS WHAT COUNTS. Prove the row's statement (the work); the ties are given (YtoookolekpblhaaDoorTie.lean); close each card by the builder's one call (the guide's Derived/Test/ToyasCard.lean, 'card_holds'). Laid BY PROGRAM, IN A SANDBOX (cutbox-door.mjs). By AI agents, Wed Nov 11 2026. No macro, syntax, notation, axiom, sorry.
-/
import Derived.Test.YtoookolekpblhaaDoorRows
import GoSem.ClaimSeven
namespace Go.Proofs.YtoookolekpblhaaDoor
namespace Rows

/-- THE TIED CARD OF 'missivelaw07.FieldBytes'. -/
def fieldBytesCard : Claim7 := { stood := { row := fieldBytesRow, standIns := [], harness := (true, "5142312519e7a3e6569ae0b7efc731ab5177776c13469c851f823a0bee74b097"), looks := false }, kinds := [], alts := [], laidByText := true, laidKinds := [.data, .data], laidTests := true, laidLooks := .later }
def FieldBytesCardSaid : Prop := Claim7.holds Tryd.pinned (.plain (OpenSpec.ofChange fieldBytesSpec)) fieldBytesCard

/-- THE TIED CARD OF 'missivelaw07.FieldInverts'. -/
def fieldInvertsCard : Claim7 := { stood := { row := fieldInvertsRow, standIns := [], harness := (true, "5142312519e7a3e6569ae0b7efc731ab5177776c13469c851f823a0bee74b097"), looks := false }, kinds := [], alts := [], laidByText := true, laidKinds := [.data, .data], laidTests := true, laidLooks := .later }
def FieldInvertsCardSaid : Prop := Claim7.holds Tryd.pinned (.plain (OpenSpec.ofChange fieldInvertsSpec)) fieldInvertsCard

/-- THE TIED CARD OF 'missivelaw07.FieldRoots'. -/
def fieldRootsCard : Claim7 := { stood := { row := fieldRootsRow, standIns := [], harness := (true, "5142312519e7a3e6569ae0b7efc731ab5177776c13469c851f823a0bee74b097"), looks := false }, kinds := [], alts := [], laidByText := true, laidKinds := [.data, .data], laidTests := true, laidLooks := .later }
def FieldRootsCardSaid : Prop := Claim7.holds Tryd.pinned (.plain (OpenSpec.ofChange fieldRootsSpec)) fieldRootsCard

/-- THE TIED CARD OF 'missivelaw07.FieldSquares'. -/
def fieldSquaresCard : Claim7 := { stood := { row := fieldSquaresRow, standIns := [], harness := (true, "5142312519e7a3e6569ae0b7efc731ab5177776c13469c851f823a0bee74b097"), looks := false }, kinds := [], alts := [], laidByText := true, laidKinds := [.data, .data], laidTests := true, laidLooks := .later }
def FieldSquaresCardSaid : Prop := Claim7.holds Tryd.pinned (.plain (OpenSpec.ofChange fieldSquaresSpec)) fieldSquaresCard

/-- THE SECOND FORM's CARD OF 'missivelaw07.FieldBytes'. -/
def fieldBytesUptoCard : Claim7 := { stood := { row := fieldBytesUptoRow, standIns := [], harness := (true, "5142312519e7a3e6569ae0b7efc731ab5177776c13469c851f823a0bee74b097"), looks := false }, kinds := [], alts := [], laidByText := true, laidKinds := [.data, .data], laidTests := true, laidLooks := .later }
def FieldBytesUptoCardSaid : Prop := Claim7.holds Tryd.pinned (.plain (OpenSpec.upto fieldBytesSpec)) fieldBytesUptoCard

/-- THE SECOND FORM's CARD OF 'missivelaw07.FieldInverts'. -/
def fieldInvertsUptoCard : Claim7 := { stood := { row := fieldInvertsUptoRow, standIns := [], harness := (true, "5142312519e7a3e6569ae0b7efc731ab5177776c13469c851f823a0bee74b097"), looks := false }, kinds := [], alts := [], laidByText := true, laidKinds := [.data, .data], laidTests := true, laidLooks := .later }
def FieldInvertsUptoCardSaid : Prop := Claim7.holds Tryd.pinned (.plain (OpenSpec.upto fieldInvertsSpec)) fieldInvertsUptoCard

/-- THE SECOND FORM's CARD OF 'missivelaw07.FieldRoots'. -/
def fieldRootsUptoCard : Claim7 := { stood := { row := fieldRootsUptoRow, standIns := [], harness := (true, "5142312519e7a3e6569ae0b7efc731ab5177776c13469c851f823a0bee74b097"), looks := false }, kinds := [], alts := [], laidByText := true, laidKinds := [.data, .data], laidTests := true, laidLooks := .later }
def FieldRootsUptoCardSaid : Prop := Claim7.holds Tryd.pinned (.plain (OpenSpec.upto fieldRootsSpec)) fieldRootsUptoCard

/-- THE SECOND FORM's CARD OF 'missivelaw07.FieldSquares'. -/
def fieldSquaresUptoCard : Claim7 := { stood := { row := fieldSquaresUptoRow, standIns := [], harness := (true, "5142312519e7a3e6569ae0b7efc731ab5177776c13469c851f823a0bee74b097"), looks := false }, kinds := [], alts := [], laidByText := true, laidKinds := [.data, .data], laidTests := true, laidLooks := .later }
def FieldSquaresUptoCardSaid : Prop := Claim7.holds Tryd.pinned (.plain (OpenSpec.upto fieldSquaresSpec)) fieldSquaresUptoCard
end Rows
end Go.Proofs.YtoookolekpblhaaDoor
