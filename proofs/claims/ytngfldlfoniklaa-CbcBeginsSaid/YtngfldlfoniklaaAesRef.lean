/- AES as the document's reference reckons it, in plain numbers. Conditions: none. -/
import Derived.Test.YtngfldlfoniklaaAesMath
namespace Go.Proofs.Ytngfldlfoniklaa
/-- The product, not yet made shorter, by the k lowest bits of b. -/
def tp (a b : Nat) : Nat → Nat
  | 0 => 0
  | k + 1 => if (b >>> k) % 2 = 1 then tp a b k ^^^ (a <<< k) else tp a b k
/-- Made shorter by the k highest bits. -/
def tr (p : Nat) : Nat → Nat
  | 0 => p
  | k + 1 => if (tr p k >>> (14 - k)) % 2 = 1 then tr p k ^^^ (283 <<< (6 - k)) else tr p k
def times (a b : Nat) : Nat := tr (tp a b 8) 7
theorem tp_lt (a b : Nat) (ha : a < 256) : ∀ k, k ≤ 8 → tp a b k < 2 ^ (7 + k)
  | 0, _ => by simp [tp]
  | k + 1, hk => by
    have ih := tp_lt a b ha k (by omega)
    have h1 : tp a b k < 2 ^ (7 + (k + 1)) := Nat.lt_of_lt_of_le ih (Nat.pow_le_pow_right (by omega) (by omega))
    have h2 : a <<< k < 2 ^ (7 + (k + 1)) := by
      rw [Nat.shiftLeft_eq, show 7 + (k + 1) = 8 + k by omega, Nat.pow_add]
      exact Nat.mul_lt_mul_of_pos_right (by omega) (Nat.two_pow_pos k)
    unfold tp
    split
    · exact Nat.xor_lt_two_pow h1 h2
    · exact h1
theorem tr_lt (p : Nat) (hp : p < 2 ^ 15) : ∀ k, k ≤ 7 → tr p k < 2 ^ 15
  | 0, _ => hp
  | k + 1, hk => by
    have ih := tr_lt p hp k (by omega)
    have h2 : 283 <<< (6 - k) < 2 ^ 15 := by
      obtain rfl | rfl | rfl | rfl | rfl | rfl | rfl : k = 0 ∨ k = 1 ∨ k = 2 ∨ k = 3 ∨ k = 4 ∨ k = 5 ∨ k = 6 := by omega
      all_goals decide
    unfold tr
    split
    · exact Nat.xor_lt_two_pow ih h2
    · exact ih
/-- 1, then squared and taken with b, k times. -/
def ci (b : Nat) : Nat → Nat
  | 0 => 1
  | k + 1 => times (times (ci b k) (ci b k)) b
def sx (c i : Nat) : Nat := c >>> i ^^^ c >>> ((i + 4) % 8) ^^^ c >>> ((i + 5) % 8) ^^^ c >>> ((i + 6) % 8) ^^^ c >>> ((i + 7) % 8) ^^^ 99 >>> i
def sv (c : Nat) : Nat → Nat
  | 0 => 0
  | i + 1 => sv c i ||| (sx c i % 2) <<< i
def sbox (b : Nat) : Nat := sv (times (ci b 7) (ci b 7)) 8
def stab : List Nat := (List.range 256).map sbox
theorem sbox_lt : ∀ b, b < 256 → sbox b < 256 := by decide +kernel
theorem times2 : ∀ x, x < 256 → times 2 x = (m2 (UInt8.ofNat x)).toNat := by decide +kernel
theorem times3 : ∀ x, x < 256 → times 3 x = (m3 (UInt8.ofNat x)).toNat := by decide +kernel
theorem ci_lt : ∀ b, b < 256 → ∀ k, k < 8 → ci b k < 256 := by decide +kernel
theorem cc_lt : ∀ b, b < 256 → ∀ k, k < 8 → times (ci b k) (ci b k) < 256 := by decide +kernel
theorem sbox_some : sbox 0 = 99 ∧ sbox 83 = 237 ∧ sbox 255 = 22 := by decide +kernel
end Go.Proofs.Ytngfldlfoniklaa
