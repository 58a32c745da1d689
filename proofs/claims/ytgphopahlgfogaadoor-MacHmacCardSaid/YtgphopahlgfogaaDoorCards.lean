/-
  DERIVED. GIVEN WITH THE SEED: THE CARDS: each row of YtgphopahlgfogaaDoorRows.lean that lists a variable, with what it lists TIED to the program's text (the seventh form; the later family's looks); each row that meets fmt, with fmt's text TOLD by the authors' own Lean function (tested against real Go, not proved from fmt's source: count such statements apart). THE CARD IS WHAT COUNTS. Prove the row's statement (the work); the ties are given (YtgphopahlgfogaaDoorTie.lean); close each card by the builder's one call (the guide's Derived/Test/ToyasCard.lean, 'card_holds'). Laid BY PROGRAM, IN A SANDBOX (cutbox-door.mjs). By AI agents, Wed Nov 11 2026. No macro, syntax, notation, axiom, sorry.
-/
import Derived.Test.YtgphopahlgfogaaDoorRows
import GoSem.ClaimSeven
namespace Go.Proofs.YtgphopahlgfogaaDoor
namespace Rows

/-- THE TIED CARD OF 'missivelaw04.MacHmac'. -/
def macHmacCard : Claim7 := { stood := { row := macHmacRow, standIns := [], harness := (true, "6804543c43d07a47c7f4d856165f2e1db9ca47d2c36460fdd1f06eef064ba28a"), looks := false }, kinds := [], alts := [], laidByText := true, laidKinds := [.data, .data], laidTests := true, laidLooks := .later }
def MacHmacCardSaid : Prop := Claim7.holds Tryd.pinned (.plain (OpenSpec.ofChange macHmacSpec)) macHmacCard

/-- THE TIED CARD OF 'missivelaw04.MacHkdf'. -/
def macHkdfCard : Claim7 := { stood := { row := macHkdfRow, standIns := [], harness := (true, "6804543c43d07a47c7f4d856165f2e1db9ca47d2c36460fdd1f06eef064ba28a"), looks := false }, kinds := [], alts := [], laidByText := true, laidKinds := [.data, .data], laidTests := true, laidLooks := .later }
def MacHkdfCardSaid : Prop := Claim7.holds Tryd.pinned (.plain (OpenSpec.ofChange macHkdfSpec)) macHkdfCard

/-- THE TIED CARD OF 'missivelaw04.MacSame'. -/
def macSameCard : Claim7 := { stood := { row := macSameRow, standIns := [], harness := (true, "6804543c43d07a47c7f4d856165f2e1db9ca47d2c36460fdd1f06eef064ba28a"), looks := false }, kinds := [], alts := [], laidByText := true, laidKinds := [.data, .data], laidTests := true, laidLooks := .later }
def MacSameCardSaid : Prop := Claim7.holds Tryd.pinned (.plain (OpenSpec.ofChange macSameSpec)) macSameCard

/-- THE TIED CARD OF 'missivelaw04.MacKeys'. -/
def macKeysCard : Claim7 := { stood := { row := macKeysRow, standIns := [], harness := (true, "6804543c43d07a47c7f4d856165f2e1db9ca47d2c36460fdd1f06eef064ba28a"), looks := false }, kinds := [], alts := [], laidByText := true, laidKinds := [.data, .data], laidTests := true, laidLooks := .later }
def MacKeysCardSaid : Prop := Claim7.holds Tryd.pinned (.plain (OpenSpec.ofChange macKeysSpec)) macKeysCard

/-- THE SECOND FORM's CARD OF 'missivelaw04.MacHmac'. -/
def macHmacUptoCard : Claim7 := { stood := { row := macHmacUptoRow, standIns := [], harness := (true, "6804543c43d07a47c7f4d856165f2e1db9ca47d2c36460fdd1f06eef064ba28a"), looks := false }, kinds := [], alts := [], laidByText := true, laidKinds := [.data, .data], laidTests := true, laidLooks := .later }
def MacHmacUptoCardSaid : Prop := Claim7.holds Tryd.pinned (.plain (OpenSpec.upto macHmacSpec)) macHmacUptoCard

/-- THE SECOND FORM's CARD OF 'missivelaw04.MacHkdf'. -/
def macHkdfUptoCard : Claim7 := { stood := { row := macHkdfUptoRow, standIns := [], harness := (true, "6804543c43d07a47c7f4d856165f2e1db9ca47d2c36460fdd1f06eef064ba28a"), looks := false }, kinds := [], alts := [], laidByText := true, laidKinds := [.data, .data], laidTests := true, laidLooks := .later }
def MacHkdfUptoCardSaid : Prop := Claim7.holds Tryd.pinned (.plain (OpenSpec.upto macHkdfSpec)) macHkdfUptoCard

/-- THE SECOND FORM's CARD OF 'missivelaw04.MacSame'. -/
def macSameUptoCard : Claim7 := { stood := { row := macSameUptoRow, standIns := [], harness := (true, "6804543c43d07a47c7f4d856165f2e1db9ca47d2c36460fdd1f06eef064ba28a"), looks := false }, kinds := [], alts := [], laidByText := true, laidKinds := [.data, .data], laidTests := true, laidLooks := .later }
def MacSameUptoCardSaid : Prop := Claim7.holds Tryd.pinned (.plain (OpenSpec.upto macSameSpec)) macSameUptoCard

/-- THE SECOND FORM's CARD OF 'missivelaw04.MacKeys'. -/
def macKeysUptoCard : Claim7 := { stood := { row := macKeysUptoRow, standIns := [], harness := (true, "6804543c43d07a47c7f4d856165f2e1db9ca47d2c36460fdd1f06eef064ba28a"), looks := false }, kinds := [], alts := [], laidByText := true, laidKinds := [.data, .data], laidTests := true, laidLooks := .later }
def MacKeysUptoCardSaid : Prop := Claim7.holds Tryd.pinned (.plain (OpenSpec.upto macKeysSpec)) macKeysUptoCard
end Rows
end Go.Proofs.YtgphopahlgfogaaDoor
