/-
  DERIVED. GIVEN WITH THE SEED: THE CARDS: each row of YtdnkeaokgkiloaaDoorRows.lean that lists a variable, with what it lists TIED to the program's text (the seventh form; the later family's looks); each row that meets fmt, with fmt's text TOLD by the authors' own Lean function (tested against real Go, not proved from fmt's source: count such statements apart). THE CARD IS WHAT COUNTS. Prove the row's statement (the work); the ties are given (YtdnkeaokgkiloaaDoorTie.lean); close each card by the builder's one call (the guide's Derived/Test/ToyasCard.lean, 'card_holds'). Laid BY PROGRAM, IN A SANDBOX (cutbox-door.mjs). By AI agents, Wed Nov 11 2026. No macro, syntax, notation, axiom, sorry.
-/
import Derived.Test.YtdnkeaokgkiloaaDoorRows
import GoSem.ClaimSeven
namespace Go.Proofs.YtdnkeaokgkiloaaDoor
namespace Rows

/-- THE TIED CARD OF 'missivelaw17.ChainRoots'. -/
def chainRootsCard : Claim7 := { stood := { row := chainRootsRow, standIns := [], harness := (true, "0fc7d494c907c97c983fd370a397c86d21a548a135f25553c4487b14e4858a09"), looks := false }, kinds := [], alts := [], laidByText := true, laidKinds := [.data, .data], laidTests := true, laidLooks := .later }
def ChainRootsCardSaid : Prop := Claim7.holds Tryd.pinned (.plain (OpenSpec.ofChange chainRootsSpec)) chainRootsCard

/-- THE TIED CARD OF 'missivelaw17.ChainNexts'. -/
def chainNextsCard : Claim7 := { stood := { row := chainNextsRow, standIns := [], harness := (true, "0fc7d494c907c97c983fd370a397c86d21a548a135f25553c4487b14e4858a09"), looks := false }, kinds := [], alts := [], laidByText := true, laidKinds := [.data, .data], laidTests := true, laidLooks := .later }
def ChainNextsCardSaid : Prop := Claim7.holds Tryd.pinned (.plain (OpenSpec.ofChange chainNextsSpec)) chainNextsCard

/-- THE TIED CARD OF 'missivelaw17.ChainKeeps'. -/
def chainKeepsCard : Claim7 := { stood := { row := chainKeepsRow, standIns := [], harness := (true, "0fc7d494c907c97c983fd370a397c86d21a548a135f25553c4487b14e4858a09"), looks := false }, kinds := [], alts := [], laidByText := true, laidKinds := [.data, .data], laidTests := true, laidLooks := .later }
def ChainKeepsCardSaid : Prop := Claim7.holds Tryd.pinned (.plain (OpenSpec.ofChange chainKeepsSpec)) chainKeepsCard

/-- THE TIED CARD OF 'missivelaw17.ChainSkips'. -/
def chainSkipsCard : Claim7 := { stood := { row := chainSkipsRow, standIns := [], harness := (true, "0fc7d494c907c97c983fd370a397c86d21a548a135f25553c4487b14e4858a09"), looks := false }, kinds := [], alts := [], laidByText := true, laidKinds := [.data, .data], laidTests := true, laidLooks := .later }
def ChainSkipsCardSaid : Prop := Claim7.holds Tryd.pinned (.plain (OpenSpec.ofChange chainSkipsSpec)) chainSkipsCard

/-- THE TIED CARD OF 'missivelaw17.ChainCut'. -/
def chainCutCard : Claim7 := { stood := { row := chainCutRow, standIns := [], harness := (true, "0fc7d494c907c97c983fd370a397c86d21a548a135f25553c4487b14e4858a09"), looks := false }, kinds := [], alts := [], laidByText := true, laidKinds := [.data, .data], laidTests := true, laidLooks := .later }
def ChainCutCardSaid : Prop := Claim7.holds Tryd.pinned (.plain (OpenSpec.ofChange chainCutSpec)) chainCutCard

/-- THE TIED CARD OF 'missivelaw17.ChainSpare'. -/
def chainSpareCard : Claim7 := { stood := { row := chainSpareRow, standIns := [], harness := (true, "0fc7d494c907c97c983fd370a397c86d21a548a135f25553c4487b14e4858a09"), looks := false }, kinds := [], alts := [], laidByText := true, laidKinds := [.data, .data], laidTests := true, laidLooks := .later }
def ChainSpareCardSaid : Prop := Claim7.holds Tryd.pinned (.plain (OpenSpec.ofChange chainSpareSpec)) chainSpareCard

/-- THE SECOND FORM's CARD OF 'missivelaw17.ChainRoots'. -/
def chainRootsUptoCard : Claim7 := { stood := { row := chainRootsUptoRow, standIns := [], harness := (true, "0fc7d494c907c97c983fd370a397c86d21a548a135f25553c4487b14e4858a09"), looks := false }, kinds := [], alts := [], laidByText := true, laidKinds := [.data, .data], laidTests := true, laidLooks := .later }
def ChainRootsUptoCardSaid : Prop := Claim7.holds Tryd.pinned (.plain (OpenSpec.upto chainRootsSpec)) chainRootsUptoCard

/-- THE SECOND FORM's CARD OF 'missivelaw17.ChainNexts'. -/
def chainNextsUptoCard : Claim7 := { stood := { row := chainNextsUptoRow, standIns := [], harness := (true, "0fc7d494c907c97c983fd370a397c86d21a548a135f25553c4487b14e4858a09"), looks := false }, kinds := [], alts := [], laidByText := true, laidKinds := [.data, .data], laidTests := true, laidLooks := .later }
def ChainNextsUptoCardSaid : Prop := Claim7.holds Tryd.pinned (.plain (OpenSpec.upto chainNextsSpec)) chainNextsUptoCard

/-- THE SECOND FORM's CARD OF 'missivelaw17.ChainKeeps'. -/
def chainKeepsUptoCard : Claim7 := { stood := { row := chainKeepsUptoRow, standIns := [], harness := (true, "0fc7d494c907c97c983fd370a397c86d21a548a135f25553c4487b14e4858a09"), looks := false }, kinds := [], alts := [], laidByText := true, laidKinds := [.data, .data], laidTests := true, laidLooks := .later }
def ChainKeepsUptoCardSaid : Prop := Claim7.holds Tryd.pinned (.plain (OpenSpec.upto chainKeepsSpec)) chainKeepsUptoCard

/-- THE SECOND FORM's CARD OF 'missivelaw17.ChainSkips'. -/
def chainSkipsUptoCard : Claim7 := { stood := { row := chainSkipsUptoRow, standIns := [], harness := (true, "0fc7d494c907c97c983fd370a397c86d21a548a135f25553c4487b14e4858a09"), looks := false }, kinds := [], alts := [], laidByText := true, laidKinds := [.data, .data], laidTests := true, laidLooks := .later }
def ChainSkipsUptoCardSaid : Prop := Claim7.holds Tryd.pinned (.plain (OpenSpec.upto chainSkipsSpec)) chainSkipsUptoCard

/-- THE SECOND FORM's CARD OF 'missivelaw17.ChainCut'. -/
def chainCutUptoCard : Claim7 := { stood := { row := chainCutUptoRow, standIns := [], harness := (true, "0fc7d494c907c97c983fd370a397c86d21a548a135f25553c4487b14e4858a09"), looks := false }, kinds := [], alts := [], laidByText := true, laidKinds := [.data, .data], laidTests := true, laidLooks := .later }
def ChainCutUptoCardSaid : Prop := Claim7.holds Tryd.pinned (.plain (OpenSpec.upto chainCutSpec)) chainCutUptoCard

/-- THE SECOND FORM's CARD OF 'missivelaw17.ChainSpare'. -/
def chainSpareUptoCard : Claim7 := { stood := { row := chainSpareUptoRow, standIns := [], harness := (true, "0fc7d494c907c97c983fd370a397c86d21a548a135f25553c4487b14e4858a09"), looks := false }, kinds := [], alts := [], laidByText := true, laidKinds := [.data, .data], laidTests := true, laidLooks := .later }
def ChainSpareUptoCardSaid : Prop := Claim7.holds Tryd.pinned (.plain (OpenSpec.upto chainSpareSpec)) chainSpareUptoCard
end Rows
end Go.Proofs.YtdnkeaokgkiloaaDoor
