/-
  No cell of these rows narrows 'for every input' (looked for: loops, veiled, ifaces, maps, wideKeys, modest, calm, conditions, laid).
  DERIVED. THE GIVEN ROWS OF THIS SEAT. 4 by the template 'for every input the law returns true; each argument reads behind the call as it read before'; 0 by the template 'total and deterministic' (their statements: YtgmogphojmcgdaaTotals.lean).
  GIVEN WITH THE SEED: the statements are not yours to turn. If you find one false, say at which input.
  Laid BY PROGRAM, IN A SANDBOX (cutbox-rows.mjs): the forced cells as the released guide's own fill.sh prints them over the translation 0b02236cd55f19da… (all of the seat's roots in one cut). By AI agents, Wed Nov 11 2026. No macro, syntax, notation, axiom, sorry.
-/
import Derived.Test.YtgmogphojmcgdaaChecked
import GoSem.Claim
import GoSem.ClaimJoined
import GoSem.ClaimMapViews
import Derived.JoinedTies
import Derived.KernelRfl
namespace Go.Proofs.Ytgmogphojmcgdaa
/- THE CELL 'sum', in the pinned program and in every row, IS THE sha256 OF THE DUMP (.gsa) THAT YtgmogphojmcgdaaProg.lean LOADS. Nothing in Lean hashes anything: it is a label: what it is worth is what the hold of that sum in a sandbox is worth. -/
noncomputable def Try.pinned : Pinned := { name := "ytgmogphojmcgdaa", sum := "0b02236cd55f19da1372cb4e5682088e49c75b1136c777108670a44dfeb69893", checked := Try.checked }
namespace Rows
def none {H : Type} : Left H := { results := [], args := [] }

/-- 'missivelaw05.AesLocks': WHATEVER THE INPUT: true; the input reads as it did. -/
def aesLocksSpec : ChangeSpec := { name := "aesLocks", fn := fun _ => fun
  | [d1, d2] => { results := [.lit (.bool true)], args := [d1, d2] }
  | _ => none }
def aesLocksRow : OpenClaim := { program := "ytgmogphojmcgdaa", sum := "0b02236cd55f19da1372cb4e5682088e49c75b1136c777108670a44dfeb69893", func := "missive/missivelaw05.AesLocks", spec := "aesLocks", apart := false }
def AesLocksSaid : Prop := aesLocksRow.holds Try.pinned (OpenSpec.ofChange aesLocksSpec)

/-- ITS FALSE NEIGHBOUR: 'it returns false'. Refute it at one input. -/
def aesLocksWrong : ChangeSpec := { name := "aesLocks", fn := fun _ => fun
  | [d1, d2] => { results := [.lit (.bool false)], args := [d1, d2] }
  | _ => none }
def AesLocksWrongFalsely : Prop := aesLocksRow.holds Try.pinned (OpenSpec.ofChange aesLocksWrong)

/-- 'missivelaw05.AesBack': WHATEVER THE INPUT: true; the input reads as it did. -/
def aesBackSpec : ChangeSpec := { name := "aesBack", fn := fun _ => fun
  | [d1, d2] => { results := [.lit (.bool true)], args := [d1, d2] }
  | _ => none }
def aesBackRow : OpenClaim := { program := "ytgmogphojmcgdaa", sum := "0b02236cd55f19da1372cb4e5682088e49c75b1136c777108670a44dfeb69893", func := "missive/missivelaw05.AesBack", spec := "aesBack", apart := false }
def AesBackSaid : Prop := aesBackRow.holds Try.pinned (OpenSpec.ofChange aesBackSpec)

/-- ITS FALSE NEIGHBOUR: 'it returns false'. Refute it at one input. -/
def aesBackWrong : ChangeSpec := { name := "aesBack", fn := fun _ => fun
  | [d1, d2] => { results := [.lit (.bool false)], args := [d1, d2] }
  | _ => none }
def AesBackWrongFalsely : Prop := aesBackRow.holds Try.pinned (OpenSpec.ofChange aesBackWrong)

/-- 'missivelaw05.AesUnlocks': WHATEVER THE INPUT: true; the input reads as it did. -/
def aesUnlocksSpec : ChangeSpec := { name := "aesUnlocks", fn := fun _ => fun
  | [d1, d2] => { results := [.lit (.bool true)], args := [d1, d2] }
  | _ => none }
def aesUnlocksRow : OpenClaim := { program := "ytgmogphojmcgdaa", sum := "0b02236cd55f19da1372cb4e5682088e49c75b1136c777108670a44dfeb69893", func := "missive/missivelaw05.AesUnlocks", spec := "aesUnlocks", apart := false }
def AesUnlocksSaid : Prop := aesUnlocksRow.holds Try.pinned (OpenSpec.ofChange aesUnlocksSpec)

/-- ITS FALSE NEIGHBOUR: 'it returns false'. Refute it at one input. -/
def aesUnlocksWrong : ChangeSpec := { name := "aesUnlocks", fn := fun _ => fun
  | [d1, d2] => { results := [.lit (.bool false)], args := [d1, d2] }
  | _ => none }
def AesUnlocksWrongFalsely : Prop := aesUnlocksRow.holds Try.pinned (OpenSpec.ofChange aesUnlocksWrong)

/-- 'missivelaw05.AesMany': WHATEVER THE INPUT: true; the input reads as it did. -/
def aesManySpec : ChangeSpec := { name := "aesMany", fn := fun _ => fun
  | [d1, d2] => { results := [.lit (.bool true)], args := [d1, d2] }
  | _ => none }
def aesManyRow : OpenClaim := { program := "ytgmogphojmcgdaa", sum := "0b02236cd55f19da1372cb4e5682088e49c75b1136c777108670a44dfeb69893", func := "missive/missivelaw05.AesMany", spec := "aesMany", apart := false }
def AesManySaid : Prop := aesManyRow.holds Try.pinned (OpenSpec.ofChange aesManySpec)

/-- ITS FALSE NEIGHBOUR: 'it returns false'. Refute it at one input. -/
def aesManyWrong : ChangeSpec := { name := "aesMany", fn := fun _ => fun
  | [d1, d2] => { results := [.lit (.bool false)], args := [d1, d2] }
  | _ => none }
def AesManyWrongFalsely : Prop := aesManyRow.holds Try.pinned (OpenSpec.ofChange aesManyWrong)

/- THE SECOND FORM. 'bulk': how many values and letters a reading holds, each counted each time it is reached (what is shared counts as often as it is met; a slice's spare places count too). A statement '..UptoSaid' is the law's where the arguments, and the package variables that the reading takes, are together of bulk at most 1048576: NARROWER than '..Said'. Prove '..Said' where nothing that the law and all that it calls make is longer than what came in: it says more and counts as full. Else prove '..UptoSaid'. A law counts once. -/
mutual
def uptoBulk {H : Type} : DataW H → Nat
  | .lit (.string bytes) => bytes.length + 1
  | .lit _ => 1
  | .nil => 1
  | .ptr d => uptoBulk d + 1
  | .slice elems spare => uptoBulkAll elems + uptoBulkAll spare + 1
  | .agg parts => uptoBulkAll parts + 1
  | .iface _ d => uptoBulk d + 1
  | .map entries => uptoBulkEntries entries + 1
  | .held _ => 1
def uptoBulkAll {H : Type} : List (DataW H) → Nat
  | [] => 0
  | d :: r => uptoBulk d + uptoBulkAll r
def uptoBulkEntries {H : Type} : List (Lit × DataW H) → Nat
  | [] => 0
  | x :: r => uptoBulkEntry x + uptoBulkEntries r
def uptoBulkEntry {H : Type} : Lit × DataW H → Nat
  | (.string bytes, d) => bytes.length + uptoBulk d + 1
  | (_, d) => uptoBulk d + 1
 end
def uptoSmall : (H : Type) → List (DataW H) → Bool := fun _ ds => decide (uptoBulkAll ds ≤ 1048576)
def OpenSpec.upto (s : _root_.Go.ChangeSpec) : _root_.Go.OpenSpec := { _root_.Go.OpenSpec.ofChange s with cond := some uptoSmall }

/-- 'missivelaw05.AesLocks', WHERE WHAT IT READS IS OF BULK AT MOST 1048576: true; the input reads as it did. -/
def aesLocksUptoRow : OpenClaim := { program := "ytgmogphojmcgdaa", sum := "0b02236cd55f19da1372cb4e5682088e49c75b1136c777108670a44dfeb69893", func := "missive/missivelaw05.AesLocks", spec := "aesLocks", apart := false, narrowed := true }
def AesLocksUptoSaid : Prop := aesLocksUptoRow.holds Try.pinned (OpenSpec.upto aesLocksSpec)

/-- 'missivelaw05.AesBack', WHERE WHAT IT READS IS OF BULK AT MOST 1048576: true; the input reads as it did. -/
def aesBackUptoRow : OpenClaim := { program := "ytgmogphojmcgdaa", sum := "0b02236cd55f19da1372cb4e5682088e49c75b1136c777108670a44dfeb69893", func := "missive/missivelaw05.AesBack", spec := "aesBack", apart := false, narrowed := true }
def AesBackUptoSaid : Prop := aesBackUptoRow.holds Try.pinned (OpenSpec.upto aesBackSpec)

/-- 'missivelaw05.AesUnlocks', WHERE WHAT IT READS IS OF BULK AT MOST 1048576: true; the input reads as it did. -/
def aesUnlocksUptoRow : OpenClaim := { program := "ytgmogphojmcgdaa", sum := "0b02236cd55f19da1372cb4e5682088e49c75b1136c777108670a44dfeb69893", func := "missive/missivelaw05.AesUnlocks", spec := "aesUnlocks", apart := false, narrowed := true }
def AesUnlocksUptoSaid : Prop := aesUnlocksUptoRow.holds Try.pinned (OpenSpec.upto aesUnlocksSpec)

/-- 'missivelaw05.AesMany', WHERE WHAT IT READS IS OF BULK AT MOST 1048576: true; the input reads as it did. -/
def aesManyUptoRow : OpenClaim := { program := "ytgmogphojmcgdaa", sum := "0b02236cd55f19da1372cb4e5682088e49c75b1136c777108670a44dfeb69893", func := "missive/missivelaw05.AesMany", spec := "aesMany", apart := false, narrowed := true }
def AesManyUptoSaid : Prop := aesManyUptoRow.holds Try.pinned (OpenSpec.upto aesManySpec)

end Rows
end Go.Proofs.Ytgmogphojmcgdaa
