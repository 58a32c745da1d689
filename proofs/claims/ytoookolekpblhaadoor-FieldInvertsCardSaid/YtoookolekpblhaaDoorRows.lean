/-
  NARROWER THAN 'FOR EVERY INPUT', by the rows' own cells (each row's printed sentence says how): FieldBytes: laid · FieldInverts: laid · FieldRoots: laid · FieldSquares: laid.
  DERIVED. THE GIVEN ROWS OF THIS SEAT. 4 by the template 'for every input the law returns true; each argument reads behind the call as it read before'; 0 by the template 'total and deterministic' (their statements: YtoookolekpblhaaDoorTotals.lean).
  GIVEN WITH THE SEED: the statements are not yours to turn. If you find one false, say at which input.
  Laid BY PROGRAM, IN A SANDBOX (cutbox-rows.mjs): the forced cells as the released guide's own fill.sh prints them over the translation d468898f72dbea7b… (all of the seat's roots in one cut). By AI agents, Wed Nov 11 2026. No macro, syntax, notation, axiom, sorry.
-/
import Derived.Test.YtoookolekpblhaaDoorChecked
import GoSem.Claim
import GoSem.ClaimJoined
import GoSem.ClaimMapViews
import Derived.JoinedTies
import Derived.KernelRfl
namespace Go.Proofs.YtoookolekpblhaaDoor
/- THE CELL 'sum', in the pinned program and in every row, IS THE sha256 OF THE DUMP (.gsa) THAT YtoookolekpblhaaDoorProg.lean LOADS. Nothing in Lean hashes anything: it is a label: what it is worth is what the hold of that sum in a sandbox is worth. -/
noncomputable def Tryd.pinned : Pinned := { name := "ytoookolekpblhaadoor", sum := "d468898f72dbea7b396439414e9446dfd2b789ad5d1bb325840435042e26c794", checked := Tryd.checked }
namespace Rows
def none {H : Type} : Left H := { results := [], args := [] }

/- WHAT THE LISTED PACKAGE-LEVEL VARIABLES READ AS WHEN THE CALL BEGINS. Each datum BY PROGRAM (the guide's laid-datum.mjs) off the statement by which the dump's own 'gosem.cut.vars' lays the variable. In a bare row this is a premise. The card (YtoookolekpblhaaDoorCards.lean) ties it to the program's text. -/
def laid_missive_field_prime {H : Type} : DataW H := .agg [.lit (.int .i64 2251799813685229), .lit (.int .i64 2251799813685247), .lit (.int .i64 2251799813685247), .lit (.int .i64 2251799813685247), .lit (.int .i64 2251799813685247)]
def laid_missive_field_turn {H : Type} : DataW H := .agg [.agg [.lit (.int .i64 1718705420411056), .lit (.int .i64 234908883556509), .lit (.int .i64 2233514472574048), .lit (.int .i64 2117202627021982), .lit (.int .i64 765476049583133)]]

/-- 'missivelaw07.FieldBytes': WHATEVER THE INPUT: true; the input reads as it did. -/
def fieldBytesSpec : ChangeSpec := { name := "fieldBytes", fn := fun _ => fun
  | [d] => { results := [.lit (.bool true)], args := [d] }
  | _ => none }
def fieldBytesRow : OpenClaim := { program := "ytoookolekpblhaadoor", sum := "d468898f72dbea7b396439414e9446dfd2b789ad5d1bb325840435042e26c794", func := "missive/missivelaw07.FieldBytes", spec := "fieldBytes", inPlace := ["math/bits.Add64"], unfollowed := true, recurses := true, named := ["missive/field.turn", "missive/field.prime"], apart := false, laid := [("missive/field.prime", laid_missive_field_prime), ("missive/field.turn", laid_missive_field_turn)] }
def FieldBytesSaid : Prop := fieldBytesRow.holds Tryd.pinned (OpenSpec.ofChange fieldBytesSpec)

/-- ITS FALSE NEIGHBOUR: 'it returns false'. Refute it at one input. -/
def fieldBytesWrong : ChangeSpec := { name := "fieldBytes", fn := fun _ => fun
  | [d] => { results := [.lit (.bool false)], args := [d] }
  | _ => none }
def FieldBytesWrongFalsely : Prop := fieldBytesRow.holds Tryd.pinned (OpenSpec.ofChange fieldBytesWrong)

/-- 'missivelaw07.FieldInverts': WHATEVER THE INPUT: true; the input reads as it did. -/
def fieldInvertsSpec : ChangeSpec := { name := "fieldInverts", fn := fun _ => fun
  | [d] => { results := [.lit (.bool true)], args := [d] }
  | _ => none }
def fieldInvertsRow : OpenClaim := { program := "ytoookolekpblhaadoor", sum := "d468898f72dbea7b396439414e9446dfd2b789ad5d1bb325840435042e26c794", func := "missive/missivelaw07.FieldInverts", spec := "fieldInverts", inPlace := ["math/bits.Add64"], unfollowed := true, recurses := true, named := ["missive/field.turn", "missive/field.prime"], apart := false, laid := [("missive/field.prime", laid_missive_field_prime), ("missive/field.turn", laid_missive_field_turn)] }
def FieldInvertsSaid : Prop := fieldInvertsRow.holds Tryd.pinned (OpenSpec.ofChange fieldInvertsSpec)

/-- ITS FALSE NEIGHBOUR: 'it returns false'. Refute it at one input. -/
def fieldInvertsWrong : ChangeSpec := { name := "fieldInverts", fn := fun _ => fun
  | [d] => { results := [.lit (.bool false)], args := [d] }
  | _ => none }
def FieldInvertsWrongFalsely : Prop := fieldInvertsRow.holds Tryd.pinned (OpenSpec.ofChange fieldInvertsWrong)

/-- 'missivelaw07.FieldRoots': WHATEVER THE INPUT: true; the input reads as it did. -/
def fieldRootsSpec : ChangeSpec := { name := "fieldRoots", fn := fun _ => fun
  | [d] => { results := [.lit (.bool true)], args := [d] }
  | _ => none }
def fieldRootsRow : OpenClaim := { program := "ytoookolekpblhaadoor", sum := "d468898f72dbea7b396439414e9446dfd2b789ad5d1bb325840435042e26c794", func := "missive/missivelaw07.FieldRoots", spec := "fieldRoots", inPlace := ["math/bits.Add64"], unfollowed := true, recurses := true, named := ["missive/field.turn", "missive/field.prime"], apart := false, laid := [("missive/field.prime", laid_missive_field_prime), ("missive/field.turn", laid_missive_field_turn)] }
def FieldRootsSaid : Prop := fieldRootsRow.holds Tryd.pinned (OpenSpec.ofChange fieldRootsSpec)

/-- ITS FALSE NEIGHBOUR: 'it returns false'. Refute it at one input. -/
def fieldRootsWrong : ChangeSpec := { name := "fieldRoots", fn := fun _ => fun
  | [d] => { results := [.lit (.bool false)], args := [d] }
  | _ => none }
def FieldRootsWrongFalsely : Prop := fieldRootsRow.holds Tryd.pinned (OpenSpec.ofChange fieldRootsWrong)

/-- 'missivelaw07.FieldSquares': WHATEVER THE INPUT: true; the input reads as it did. -/
def fieldSquaresSpec : ChangeSpec := { name := "fieldSquares", fn := fun _ => fun
  | [d] => { results := [.lit (.bool true)], args := [d] }
  | _ => none }
def fieldSquaresRow : OpenClaim := { program := "ytoookolekpblhaadoor", sum := "d468898f72dbea7b396439414e9446dfd2b789ad5d1bb325840435042e26c794", func := "missive/missivelaw07.FieldSquares", spec := "fieldSquares", inPlace := ["math/bits.Add64"], unfollowed := true, recurses := true, named := ["missive/field.turn", "missive/field.prime"], apart := false, laid := [("missive/field.prime", laid_missive_field_prime), ("missive/field.turn", laid_missive_field_turn)] }
def FieldSquaresSaid : Prop := fieldSquaresRow.holds Tryd.pinned (OpenSpec.ofChange fieldSquaresSpec)

/-- ITS FALSE NEIGHBOUR: 'it returns false'. Refute it at one input. -/
def fieldSquaresWrong : ChangeSpec := { name := "fieldSquares", fn := fun _ => fun
  | [d] => { results := [.lit (.bool false)], args := [d] }
  | _ => none }
def FieldSquaresWrongFalsely : Prop := fieldSquaresRow.holds Tryd.pinned (OpenSpec.ofChange fieldSquaresWrong)

/- THE SECOND FORM. 'bulk': how many values and letters a reading holds, each counted each time it is reached (what is shared counts as often as it is met; a slice's spare places count too). A statement '..UptoSaid' is the law's where the arguments, and the package variables that the reading takes, are together of bulk at most 1048576: NARROWER than '..Said'. Prove '..Said' where nothing that the law and all that it calls make is longer than what came in: it says more and counts as full. Else prove '..UptoSaid'. A law counts once. -/
mutual
def uptoBulk {H : Type} : DataW H → Nat
  | .lit (.string bytes) => bytes.length + 1
  | .lit _ => 1
  | .nil => 1
  | .ptr d => uptoBulk d + 1
  | .slice elems spare => uptoBulkAll elems + uptoBulkAll spare + 1
  | .agg parts => uptoBulkAll parts + 1
  | .iface _ d => uptoBulk d + 1
  | .map entries => uptoBulkEntries entries + 1
  | .held _ => 1
def uptoBulkAll {H : Type} : List (DataW H) → Nat
  | [] => 0
  | d :: r => uptoBulk d + uptoBulkAll r
def uptoBulkEntries {H : Type} : List (Lit × DataW H) → Nat
  | [] => 0
  | x :: r => uptoBulkEntry x + uptoBulkEntries r
def uptoBulkEntry {H : Type} : Lit × DataW H → Nat
  | (.string bytes, d) => bytes.length + uptoBulk d + 1
  | (_, d) => uptoBulk d + 1
 end
def uptoSmall : (H : Type) → List (DataW H) → Bool := fun _ ds => decide (uptoBulkAll ds ≤ 1048576)
def OpenSpec.upto (s : _root_.Go.ChangeSpec) : _root_.Go.OpenSpec := { _root_.Go.OpenSpec.ofChange s with cond := some uptoSmall }

/-- 'missivelaw07.FieldBytes', WHERE WHAT IT READS IS OF BULK AT MOST 1048576: true; the input reads as it did. -/
def fieldBytesUptoRow : OpenClaim := { program := "ytoookolekpblhaadoor", sum := "d468898f72dbea7b396439414e9446dfd2b789ad5d1bb325840435042e26c794", func := "missive/missivelaw07.FieldBytes", spec := "fieldBytes", inPlace := ["math/bits.Add64"], unfollowed := true, recurses := true, named := ["missive/field.turn", "missive/field.prime"], apart := false, laid := [("missive/field.prime", laid_missive_field_prime), ("missive/field.turn", laid_missive_field_turn)], narrowed := true }
def FieldBytesUptoSaid : Prop := fieldBytesUptoRow.holds Tryd.pinned (OpenSpec.upto fieldBytesSpec)

/-- 'missivelaw07.FieldInverts', WHERE WHAT IT READS IS OF BULK AT MOST 1048576: true; the input reads as it did. -/
def fieldInvertsUptoRow : OpenClaim := { program := "ytoookolekpblhaadoor", sum := "d468898f72dbea7b396439414e9446dfd2b789ad5d1bb325840435042e26c794", func := "missive/missivelaw07.FieldInverts", spec := "fieldInverts", inPlace := ["math/bits.Add64"], unfollowed := true, recurses := true, named := ["missive/field.turn", "missive/field.prime"], apart := false, laid := [("missive/field.prime", laid_missive_field_prime), ("missive/field.turn", laid_missive_field_turn)], narrowed := true }
def FieldInvertsUptoSaid : Prop := fieldInvertsUptoRow.holds Tryd.pinned (OpenSpec.upto fieldInvertsSpec)

/-- 'missivelaw07.FieldRoots', WHERE WHAT IT READS IS OF BULK AT MOST 1048576: true; the input reads as it did. -/
def fieldRootsUptoRow : OpenClaim := { program := "ytoookolekpblhaadoor", sum := "d468898f72dbea7b396439414e9446dfd2b789ad5d1bb325840435042e26c794", func := "missive/missivelaw07.FieldRoots", spec := "fieldRoots", inPlace := ["math/bits.Add64"], unfollowed := true, recurses := true, named := ["missive/field.turn", "missive/field.prime"], apart := false, laid := [("missive/field.prime", laid_missive_field_prime), ("missive/field.turn", laid_missive_field_turn)], narrowed := true }
def FieldRootsUptoSaid : Prop := fieldRootsUptoRow.holds Tryd.pinned (OpenSpec.upto fieldRootsSpec)

/-- 'missivelaw07.FieldSquares', WHERE WHAT IT READS IS OF BULK AT MOST 1048576: true; the input reads as it did. -/
def fieldSquaresUptoRow : OpenClaim := { program := "ytoookolekpblhaadoor", sum := "d468898f72dbea7b396439414e9446dfd2b789ad5d1bb325840435042e26c794", func := "missive/missivelaw07.FieldSquares", spec := "fieldSquares", inPlace := ["math/bits.Add64"], unfollowed := true, recurses := true, named := ["missive/field.turn", "missive/field.prime"], apart := false, laid := [("missive/field.prime", laid_missive_field_prime), ("missive/field.turn", laid_missive_field_turn)], narrowed := true }
def FieldSquaresUptoSaid : Prop := fieldSquaresUptoRow.holds Tryd.pinned (OpenSpec.upto fieldSquaresSpec)

end Rows
end Go.Proofs.YtoookolekpblhaaDoor
