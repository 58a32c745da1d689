/- Words of 32 bits: what the language's operators make of them, in words of 32 bits and in those of 64. Conditions: none. -/
import Derived.Laws.BitsAll
import Derived.Test.YtgphopahlgfogaaDoorMath
namespace Go.Proofs.YtgphopahlgfogaaDoor

/-- Turned to the right. -/
def rotr (x : UInt32) (n : Nat) : UInt32 := UInt32.ofNat (x.toNat >>> n ||| x.toNat <<< (32 - n))
/-- Moved to the right. -/
def shr (x : UInt32) (n : Nat) : UInt32 := UInt32.ofNat (x.toNat >>> n)

theorem lt32 (x : UInt32) : x.toNat < 4294967296 := x.toNat_lt
theorem w_ofNat (n : Nat) : (UInt32.ofNat n).toNat = n % 4294967296 := by simp
theorem w_back (x : UInt32) : UInt32.ofNat x.toNat = x := by simp
theorem w_add (x y : UInt32) : ((x + y).toNat : Int) = ((x.toNat : Int) + y.toNat) % 4294967296 := by
  rw [UInt32.toNat_add]; omega
theorem w_xor (x y : UInt32) : bits .xor .u32 (x.toNat : Int) (y.toNat : Int) = ((x ^^^ y).toNat : Int) := by
  rw [u32_xor_nat _ _ (lt32 x) (lt32 y), UInt32.toNat_xor]
theorem w_and (x y : UInt32) : bits .and .u32 (x.toNat : Int) (y.toNat : Int) = ((x &&& y).toNat : Int) := by
  rw [u32_and_nat _ _ (lt32 x) (lt32 y), UInt32.toNat_and]
theorem w_or (x y : UInt32) : bits .or .u32 (x.toNat : Int) (y.toNat : Int) = ((x ||| y).toNat : Int) := by
  rw [u32_or_nat _ _ (lt32 x) (lt32 y), UInt32.toNat_or]
theorem w_not (x : UInt32) : ((~~~x).toNat : Int) = 4294967295 - x.toNat := by
  rw [UInt32.toNat_not]
  have := lt32 x
  simp [UInt32.size]
  omega
theorem w_shr (x : UInt32) (n : Nat) : ((shr x n).toNat : Int) = (x.toNat : Int) / ((2 ^ n : Nat) : Int) := by
  rw [shr, w_ofNat, Nat.shiftRight_eq_div_pow, Nat.mod_eq_of_lt (Nat.lt_of_le_of_lt (Nat.div_le_self _ _) (lt32 x))]
  norm_cast
theorem or_mod (a b : Nat) : (a ||| b) % 4294967296 = (a % 4294967296 ||| b % 4294967296) := Nat.or_mod_two_pow (n := 32)
theorem rotr_nat (x : UInt32) (n : Nat) : (rotr x n).toNat = (x.toNat / 2 ^ n ||| x.toNat * 2 ^ (32 - n) % 4294967296) := by
  rw [rotr, w_ofNat, or_mod, Nat.shiftRight_eq_div_pow, Nat.shiftLeft_eq, Nat.mod_eq_of_lt (Nat.lt_of_le_of_lt (Nat.div_le_self _ _) (lt32 x))]
/-- In words of 64 bits. -/
theorem d_xor (x y : UInt32) : bits .xor .u64 (x.toNat : Int) (y.toNat : Int) = ((x ^^^ y).toNat : Int) := by
  have := lt32 x; have := lt32 y
  rw [u64_xor_nat _ _ (by omega) (by omega), UInt32.toNat_xor]
theorem d_and (x y : UInt32) : bits .and .u64 (x.toNat : Int) (y.toNat : Int) = ((x &&& y).toNat : Int) := by
  have := lt32 x; have := lt32 y
  rw [u64_and_nat _ _ (by omega) (by omega), UInt32.toNat_and]
theorem d_mask (n : Nat) (h : n < 18446744073709551616) : bits .and .u64 (n : Int) 4294967295 = ((UInt32.ofNat n).toNat : Int) := by
  have := u64_and_nat n 4294967295 h (by omega)
  rw [show ((4294967295 : Nat) : Int) = 4294967295 from rfl] at this
  rw [this, nat_mask32, w_ofNat]
theorem d_not (x : UInt32) : bits .xor .u64 4294967295 (x.toNat : Int) = ((~~~x).toNat : Int) := by
  have h := d_xor 4294967295 x
  rw [show ((4294967295 : UInt32).toNat : Int) = 4294967295 from rfl] at h
  rw [h]
  congr 2
end Go.Proofs.YtgphopahlgfogaaDoor
