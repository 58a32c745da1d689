/- What a slice of bytes, and a slice of slices of bytes, reads as in memory: how that is kept, made into a string, and appended. Conditions: none. -/
import Derived.Test.YtonpcenjipigpaaOMath
import Derived.Test.YtonpcenjipigpaaRows
import Derived.WalkKit
import Derived.WalkSpells
import Derived.WalkLawsBesides
import Derived.Maps.AppendAt
import Derived.IntWalk
import Derived.Lib.Hide
import Derived.Test.YtonpcenjipigpaaDBrn
import Derived.Test.YtonpcenjipigpaaDMath
import Derived.Test.YtonpcenjipigpaaDMem
namespace Go.Proofs.Ytonpcenjipigpaa
open Go.RowKit
theorem Try.info40 : (Try.prog.info? 40).map (fun i => (i.zero, i.size, i.bytes)) = some (some (.slice none 0 0), 1, 24) := by kernel_rfl
section
variable {w w' : World} {ok ok' : Nat → Prop} {A : Option Addr} {xs : List UInt8}
end
/-- A list of bytes' slices lies at A, all of it in blocks that are 'ok'. -/
def Lst (w : World) (ok : Nat → Prop) (A : Option Addr) (ps : List (List UInt8)) : Prop :=
  ∀ j (h : j < ps.length), ∃ ad A' c', A = some ad ∧ ok ad.block ∧ w.cell? (ad.add j) = some (.slice A' ps[j].length c') ∧ ps[j].length ≤ c' ∧ c' ≤ maxLen ∧ Byt w ok A' ps[j]
section
variable {w w' : World} {ok ok' : Nat → Prop} {A : Option Addr} {ps : List (List UInt8)}
theorem Lst.nil : Lst w ok A [] := fun _ h => absurd h (by simp)
theorem Lst.imp (h : Lst w ok A ps) (hi : ∀ b, ok b → ok' b) : Lst w ok' A ps := fun j hj => by
  obtain ⟨ad, A', c', e, ho, hc, h1, h2, h3⟩ := h j hj
  exact ⟨ad, A', c', e, hi _ ho, hc, h1, h2, h3.imp hi⟩
theorem Lst.keep (h : Lst w ok A ps) (hk : ∀ b, ok b → w'.heap[b]? = w.heap[b]?) : Lst w' ok A ps := fun j hj => by
  obtain ⟨ad, A', c', e, ho, hc, h1, h2, h3⟩ := h j hj
  exact ⟨ad, A', c', e, ho, (World.cell?_of_block (by rw [block_of_plus]; exact hk _ ho)).trans hc, h1, h2, h3.keep hk⟩
theorem Lst.below {B : Nat} (h : Lst w ok A ps) (hb : Below B w w') (hok : ∀ b, ok b → b < B) : Lst w' ok A ps := h.keep fun b hbb => hb.block b (hok b hbb)
end
section
variable {P : Program} (w : World)
end
end Go.Proofs.Ytonpcenjipigpaa
