/- AES with keys of 32 bytes, locked and unlocked, on 16 bytes column by column: unlocking is the contrary of locking. Conditions: none. -/
import Derived.Test.YtngfldlfoniklaaAesRef
namespace Go.Proofs.Ytngfldlfoniklaa
/-- S, on bytes, and its contrary. -/
def sb (x : UInt8) : UInt8 := UInt8.ofNat (sbox x.toNat)
def unsbox (x : Nat) : Nat := ((List.range 256).find? fun b => sbox b == x).getD 0
def usb (x : UInt8) : UInt8 := UInt8.ofNat (unsbox x.toNat)
theorem usb_sb : ∀ x : UInt8, usb (sb x) = x := u8_all (by decide +kernel)
theorem sb_usb : ∀ x : UInt8, sb (usb x) = x := u8_all (by decide +kernel)
/-- A state: 16 bytes by their places. -/
def State := Fin 16 → UInt8
/-- Byte r + 4c of the turned rows comes from byte r + 4((c + r) % 4). -/
def rowFrom (i : Fin 16) : Fin 16 := ⟨(i.val + 4 * (i.val % 4)) % 16, Nat.mod_lt _ (by decide)⟩
def rowTo (i : Fin 16) : Fin 16 := ⟨(i.val + 12 * (i.val % 4)) % 16, Nat.mod_lt _ (by decide)⟩
theorem row_to_from : ∀ i, rowTo (rowFrom i) = i := by decide
theorem row_from_to : ∀ i, rowFrom (rowTo i) = i := by decide
/-- The byte q places below, in its column. -/
def below (q : Nat) (i : Fin 16) : Fin 16 := ⟨i.val / 4 * 4 + (i.val + q) % 4, by omega⟩
def subS (s : State) : State := fun i => sb (s i)
def unsubS (s : State) : State := fun i => usb (s i)
def rowS (s : State) : State := fun i => s (rowFrom i)
def unrowS (s : State) : State := fun i => s (rowTo i)
def mixS (s : State) : State := fun i => mixA (s i) (s (below 1 i)) (s (below 2 i)) (s (below 3 i))
def unmixS (s : State) : State := fun i => unA (s i) (s (below 1 i)) (s (below 2 i)) (s (below 3 i))
def keyS (k s : State) : State := fun i => s i ^^^ k i
theorem below_below : ∀ p, p < 4 → ∀ q, q < 4 → ∀ i, below p (below q i) = below ((p + q) % 4) i := by decide
theorem below_zero : ∀ i, below 0 i = i := by decide
theorem unsub_sub (s : State) : unsubS (subS s) = s := funext fun i => usb_sb (s i)
theorem sub_unsub (s : State) : subS (unsubS s) = s := funext fun i => sb_usb (s i)
theorem unrow_row (s : State) : unrowS (rowS s) = s := funext fun i => congrArg s (row_from_to i)
theorem row_unrow (s : State) : rowS (unrowS s) = s := funext fun i => congrArg s (row_to_from i)
theorem key_key (k s : State) : keyS k (keyS k s) = s := funext fun i => by
  unfold keyS
  rw [UInt8.xor_assoc, UInt8.xor_self, UInt8.xor_zero]
theorem unmix_mix (s : State) : unmixS (mixS s) = s := funext fun i => by
  unfold unmixS mixS
  simp only [below_below 1 (by decide) 1 (by decide), below_below 1 (by decide) 2 (by decide), below_below 1 (by decide) 3 (by decide), below_below 2 (by decide) 1 (by decide), below_below 2 (by decide) 2 (by decide), below_below 2 (by decide) 3 (by decide), below_below 3 (by decide) 1 (by decide), below_below 3 (by decide) 2 (by decide), below_below 3 (by decide) 3 (by decide)]
  simp only [Nat.reduceAdd, Nat.reduceMod, below_zero]
  exact un_mix _ _ _ _
theorem mix_unmix (s : State) : mixS (unmixS s) = s := funext fun i => by
  unfold unmixS mixS
  simp only [below_below 1 (by decide) 1 (by decide), below_below 1 (by decide) 2 (by decide), below_below 1 (by decide) 3 (by decide), below_below 2 (by decide) 1 (by decide), below_below 2 (by decide) 2 (by decide), below_below 2 (by decide) 3 (by decide), below_below 3 (by decide) 1 (by decide), below_below 3 (by decide) 2 (by decide), below_below 3 (by decide) 3 (by decide)]
  simp only [Nat.reduceAdd, Nat.reduceMod, below_zero]
  exact mix_un _ _ _ _
/-- So many whole rounds, with the round keys 1, 2, .. -/
def rounds (k : Nat → State) (s : State) : Nat → State
  | 0 => keyS (k 0) s
  | n + 1 => keyS (k (n + 1)) (mixS (rowS (subS (rounds k s n))))
def lockS (k : Nat → State) (s : State) : State := keyS (k 14) (rowS (subS (rounds k s 13)))
/-- Backwards from behind round n to the block. -/
def unrounds (k : Nat → State) : Nat → State → State
  | 0, s => keyS (k 0) s
  | n + 1, s => unrounds k n (unsubS (unrowS (unmixS (keyS (k (n + 1)) s))))
def unlockS (k : Nat → State) (s : State) : State := unrounds k 13 (unsubS (unrowS (keyS (k 14) s)))
theorem unrounds_rounds (k : Nat → State) (s : State) : ∀ n, unrounds k n (rounds k s n) = s
  | 0 => key_key _ _
  | n + 1 => by rw [rounds, unrounds, key_key, unmix_mix, unrow_row, unsub_sub, unrounds_rounds k s n]
theorem rounds_unrounds (k : Nat → State) : ∀ n s, rounds k (unrounds k n s) n = s
  | 0, s => key_key _ _
  | n + 1, s => by rw [rounds, unrounds, rounds_unrounds k n, sub_unsub, row_unrow, mix_unmix, key_key]
theorem unlock_lock (k : Nat → State) (s : State) : unlockS k (lockS k s) = s := by
  unfold unlockS lockS
  rw [key_key, unrow_row, unsub_sub, unrounds_rounds]
theorem lock_unlock (k : Nat → State) (s : State) : lockS k (unlockS k s) = s := by
  unfold unlockS lockS
  rw [rounds_unrounds, sub_unsub, row_unrow, key_key]
end Go.Proofs.Ytngfldlfoniklaa
