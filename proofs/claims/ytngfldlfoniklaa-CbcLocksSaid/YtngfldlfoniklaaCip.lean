/- Ciphers, of the code and of the reference: made, locking, unlocking. Conditions: none. -/
import Derived.Test.YtngfldlfoniklaaRefNew
namespace Go.Proofs.Ytngfldlfoniklaa
open Go.RowKit
/-- A cipher of the code lies at g. -/
def Cip (w : World) (g : Nat) (ks : List UInt8) : Prop := Blk w g 49 (cph (tabS 256) (tabB 256) (fl 240 (kf ks) 240))
theorem Cip.grown {w w' : World} {g : Nat} {ks : List UInt8} (h : Cip w g ks) (hg : w.grownBy w' none) : Cip w' g ks := Blk.grown h hg (by simp)
theorem rks_kf (ks : List UInt8) : rks (kf ks) = rk (kws (kn ks) 60) := by
  funext n i
  exact (rk_kf ks n i).symm
theorem cnew_any (W : World) (k : Fin 32 → UInt8) : Calls Try.prog 15 #[.agg (u8s (k32 k)).toArray] W fun e w' => ∃ g, e = .returned (.pointer (some ⟨g, 0, none⟩)) ∧ Cip w' g (k32 k) ∧ W.grownBy w' none := (new_any W k).mono fun _ _ ⟨g, h1, h2, h3, _⟩ => ⟨g, h1, h2, h3⟩
theorem clock_any {W : World} {g : Nat} {ks : List UInt8} (h : Cip W g ks) (s : State) : Calls Try.prog 17 #[.pointer (some ⟨g, 0, none⟩), .agg (bytesOf s).toArray] W fun e w' => e = .returned (.agg (bytesOf (aesLock (kn ks) s)).toArray) ∧ W.grownBy w' none := by
  have := code_lock h s
  rw [rks_kf] at this
  exact this
theorem cunlock_any {W : World} {g : Nat} {ks : List UInt8} (h : Cip W g ks) (s : State) : Calls Try.prog 21 #[.pointer (some ⟨g, 0, none⟩), .agg (bytesOf s).toArray] W fun e w' => e = .returned (.agg (bytesOf (aesUnlock (kn ks) s)).toArray) ∧ W.grownBy w' none := by
  have := code_unlock h s
  rw [rks_kf] at this
  exact this
theorem rlock_any {w : World} {B gs gw cw : Nat} {ks : List UInt8} (hs : Blk w gs 3 (ints stab)) (hw : Wps w B (.slice (some ⟨gw, 0, none⟩) 60 cw) (kws (kn ks) 60)) (s : State) :
    Calls Try.prog 20 #[.agg #[.slice (some ⟨gs, 0, none⟩) 256 256, .slice (some ⟨gw, 0, none⟩) 60 cw], .agg (bytesOf s).toArray] w fun e w' => e = .returned (.agg (bytesOf (aesLock (kn ks) s)).toArray) ∧ w.grownBy w' none := reflock_any hs hw s
end Go.Proofs.Ytngfldlfoniklaa
