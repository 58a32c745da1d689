/- Words as slices of four numbers, collected in a slice of the call's own. Conditions: none. The reference's words of a key. Conditions: the table of S lies as it should. The reference's cipher. Conditions: none. Ciphers, of the code and of the reference: made, locking, unlocking. Conditions: none. -/
import Derived.Test.YtkbffponemihoaaDoorCg
import Derived.Deep.AppendLies
import Derived.Deep.RegionHeld3
namespace Go.Proofs.YtkbffponemihoaaDoor.C
open Go.RowKit
/-- Numbers lie at the beginning of a block. -/
def T4 (w : World) (g : Nat) (ys : List Nat) : Prop := ∃ rest, Blk w g 3 (ints ys ++ rest)
section
variable {w w' : World} {g : Nat} {ys : List Nat}
theorem T4.keep (h : T4 w g ys) (hk : w'.heap[g]? = w.heap[g]?) : T4 w' g ys := by
  obtain ⟨rest, hb⟩ := h
  exact ⟨rest, hb.keep hk⟩
theorem T4.lt (h : T4 w g ys) : g < w.heap.size := by
  obtain ⟨rest, hb⟩ := h
  exact hb.lt
theorem T4.grown (h : T4 w g ys) {row : Option Nat} (hg : w.grownBy w' row) (hr : some g ≠ row) : T4 w' g ys := h.keep (hg.block g h.lt hr)
theorem T4.get (h : T4 w g ys) (r : Nat) (hr : r < ys.length) : w.cell? ⟨g, r, none⟩ = some (.int .i64 ((ys.getD r 0 : Nat) : Int)) := by
  obtain ⟨rest, hb⟩ := h
  refine hb.get r _ ?_
  rw [List.getElem?_append_left (by rw [ints_length]; exact hr)]
  exact ints_get _ _ hr
theorem T4.frozen (h : T4 w g ys) (r : Nat) : w.frozen? ⟨g, r, none⟩ = false := by
  obtain ⟨rest, hb⟩ := h
  exact hb.frozen r
theorem T4.set (h : T4 w g ys) (r n : Nat) (hr : r < ys.length) : T4 (w.setCell ⟨g, r, none⟩ (.int .i64 (n : Int))) g (ys.set r n) := by
  obtain ⟨rest, hb⟩ := h
  have h1 := hb.set r (.int .i64 (n : Int))
  rw [List.set_append_left _ _ (by rw [ints_length]; exact hr), ints_set] at h1
  exact ⟨rest, h1⟩
end
open Go.RowKit
open Go.RowKit
open Go.RowKit
/-- A cipher of the code lies at g. -/
def Cip (w : World) (g : Nat) (ks : List UInt8) : Prop := Blk w g 112 (cph (tabS 256) (tabB 256) (fl 240 (kf ks) 240))
theorem Cip.grown {w w' : World} {g : Nat} {ks : List UInt8} (h : Cip w g ks) (hg : w.grownBy w' none) : Cip w' g ks := Blk.grown h hg (by simp)
theorem rks_kf (ks : List UInt8) : rks (kf ks) = rk (kws (kn ks) 60) := by
  funext n i
  exact (rk_kf ks n i).symm
theorem clock_any {W : World} {g : Nat} {ks : List UInt8} (h : Cip W g ks) (s : State) : Calls Tryd.prog 60 #[.pointer (some ⟨g, 0, none⟩), .agg (bytesOf s).toArray] W fun e w' => e = .returned (.agg (bytesOf (aesLock (kn ks) s)).toArray) ∧ W.grownBy w' none := by
  have := code_lock h s
  rw [rks_kf] at this
  exact this
theorem cunlock_any {W : World} {g : Nat} {ks : List UInt8} (h : Cip W g ks) (s : State) : Calls Tryd.prog 63 #[.pointer (some ⟨g, 0, none⟩), .agg (bytesOf s).toArray] W fun e w' => e = .returned (.agg (bytesOf (aesUnlock (kn ks) s)).toArray) ∧ W.grownBy w' none := by
  have := code_unlock h s
  rw [rks_kf] at this
  exact this
end Go.Proofs.YtkbffponemihoaaDoor.C
