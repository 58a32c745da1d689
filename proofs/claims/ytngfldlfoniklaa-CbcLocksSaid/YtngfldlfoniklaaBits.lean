/- and, or, xor and shifts of whole numbers below 2^63 in kind int. Conditions: none. -/
import Derived.Test.YtngfldlfoniklaaRows
import Derived.WalkKit
import Derived.IntWalk
import Derived.Laws.BitsAllLaws
namespace Go.Proofs.Ytngfldlfoniklaa
open Go.RowKit
theorem ofInt_64 (a : Nat) (ha : a < 9223372036854775808) : (BitVec.ofInt 64 (a : Int)).toNat = a := by
  rw [BitVec.ofInt_natCast, BitVec.toNat_ofNat]; exact Nat.mod_eq_of_lt (by omega)
theorem i64_keep (n : Nat) (h : n < 9223372036854775808) : IntKind.i64.wrap (n : Int) = (n : Int) := by rw [IntKind.wrap_i64]; omega
theorem i64_and_nat (a b : Nat) (ha : a < 9223372036854775808) (hb : b < 9223372036854775808) : bits .and .i64 (a : Int) (b : Int) = ((a &&& b : Nat) : Int) := by
  have hx : a &&& b < 2 ^ 63 := Nat.and_lt_two_pow _ (by omega)
  show IntKind.i64.wrap ((BitVec.ofInt 64 (a : Int) &&& BitVec.ofInt 64 (b : Int)).toNat : Int) = _
  rw [BitVec.toNat_and, ofInt_64 a ha, ofInt_64 b hb, i64_keep _ (by omega)]
theorem i64_or_nat (a b : Nat) (ha : a < 9223372036854775808) (hb : b < 9223372036854775808) : bits .or .i64 (a : Int) (b : Int) = ((a ||| b : Nat) : Int) := by
  have hx : a ||| b < 2 ^ 63 := Nat.or_lt_two_pow (by omega) (by omega)
  show IntKind.i64.wrap ((BitVec.ofInt 64 (a : Int) ||| BitVec.ofInt 64 (b : Int)).toNat : Int) = _
  rw [BitVec.toNat_or, ofInt_64 a ha, ofInt_64 b hb, i64_keep _ (by omega)]
theorem i64_xor_nat (a b : Nat) (ha : a < 9223372036854775808) (hb : b < 9223372036854775808) : bits .xor .i64 (a : Int) (b : Int) = ((a ^^^ b : Nat) : Int) := by
  have hx : a ^^^ b < 2 ^ 63 := Nat.xor_lt_two_pow (by omega) (by omega)
  show IntKind.i64.wrap ((BitVec.ofInt 64 (a : Int) ^^^ BitVec.ofInt 64 (b : Int)).toNat : Int) = _
  rw [BitVec.toNat_xor, ofInt_64 a ha, ofInt_64 b hb, i64_keep _ (by omega)]
theorem i64_and_one (a : Nat) (ha : a < 9223372036854775808) : bits .and .i64 (a : Int) 1 = ((a % 2 : Nat) : Int) := by
  have h := i64_and_nat a 1 ha (by decide)
  rw [Nat.and_one_is_mod] at h
  exact h
theorem shr_nat (b k : Nat) : (b : Int) / 2 ^ k = ((b >>> k : Nat) : Int) := by
  rw [Nat.shiftRight_eq_div_pow]
  norm_cast
theorem shl_nat (a k : Nat) : (a : Int) * 2 ^ k = ((a <<< k : Nat) : Int) := by
  rw [Nat.shiftLeft_eq]
  norm_cast
theorem shr_le (b k : Nat) : b >>> k ≤ b := by rw [Nat.shiftRight_eq_div_pow]; exact Nat.div_le_self _ _
theorem bit_and (b k : Nat) (hb : b < 9223372036854775808) : bits .and .i64 ((b : Int) / 2 ^ k) 1 = (((b >>> k) % 2 : Nat) : Int) := by
  rw [shr_nat, i64_and_one _ (Nat.lt_of_le_of_lt (shr_le b k) hb)]
theorem xor_shl (p a k : Nat) (hp : p < 32768) (ha : a <<< k < 32768) : bits .xor .i64 (p : Int) (wrap64 ((a : Int) * 2 ^ k)) = ((p ^^^ (a <<< k) : Nat) : Int) := by
  rw [shl_nat, show wrap64 ((a <<< k : Nat) : Int) = ((a <<< k : Nat) : Int) from by rw [← IntWalk.i64_left]; exact i64_keep _ (by omega), i64_xor_nat _ _ (by omega) (by omega)]
end Go.Proofs.Ytngfldlfoniklaa
