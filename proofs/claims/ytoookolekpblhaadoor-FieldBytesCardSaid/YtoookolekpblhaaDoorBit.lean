/- Masks, and bits laid side by side, as numbers. Conditions: none. -/
import Derived.Test.YtoookolekpblhaaDoorLim
import Derived.Laws.BitsLemmas
import Derived.Laws.Bits64b
namespace Go.Proofs.YtoookolekpblhaaDoor
open Go.RowKit
theorem and_mask (m : Nat) (hm : m ≤ 62) (k : Int) (hk : (BitVec.ofInt 64 k).toNat = 2 ^ m - 1) (n : Int) : bits .and .i64 n k = n % ((2 ^ m : Nat) : Int) := by
  have key : (BitVec.ofInt 64 n &&& BitVec.ofInt 64 k).toNat = (n % ((2 ^ 64 : Nat) : Int)).toNat % 2 ^ m := by
    rw [BitVec.toNat_and, BitVec.toNat_ofInt, hk, Nat.and_two_pow_sub_one_eq_mod]
  show IntKind.i64.wrap ((BitVec.ofInt 64 n &&& BitVec.ofInt 64 k).toNat : Nat) = _
  rw [key, IntKind.wrap_i64]
  have hd : (2 ^ m : Nat) ∣ 2 ^ 64 := Nat.pow_dvd_pow 2 (by omega)
  have hp : 2 ^ m ≤ 2 ^ 62 := Nat.pow_le_pow_right (by decide) hm
  have h0 : 0 < 2 ^ m := Nat.pow_pos (by decide)
  have h1 : (n % ((2 ^ 64 : Nat) : Int)).toNat % 2 ^ m < 2 ^ m := Nat.mod_lt _ h0
  have e : (((n % ((2 ^ 64 : Nat) : Int)).toNat % 2 ^ m : Nat) : Int) = n % ((2 ^ m : Nat) : Int) := by
    rw [Int.natCast_emod, Int.toNat_of_nonneg (Int.emod_nonneg _ (by decide)), Int.emod_emod_of_dvd _ (Int.natCast_dvd_natCast.2 hd)]
  rw [← e]
  omega
theorem and51 (n : Int) : bits .and .i64 n 2251799813685247 = n % 2251799813685248 := and_mask 51 (by decide) _ (by decide) n
theorem and1 (n : Int) : bits .and .i64 n 1 = n % 2 := and_mask 1 (by decide) _ (by decide) n
theorem and51u (n : Nat) (h : n < 18446744073709551616) : bits .and .u64 (n : Int) 2251799813685247 = ((n % 2251799813685248 : Nat) : Int) := by
  have := bits_and_u64_nat n 2251799813685247 h (by omega)
  rw [show n &&& 2251799813685247 = n % 2251799813685248 from Nat.and_two_pow_sub_one_eq_mod n 51] at this
  exact this
theorem and127 (x : UInt8) : bits .and .u8 (x.toNat : Int) 127 = ((x.toNat % 128 : Nat) : Int) := by
  have : ∀ y : Fin 256, bits .and .u8 ((y.val : Nat) : Int) 127 = ((y.val % 128 : Nat) : Int) := by decide +kernel
  exact this ⟨x.toNat, x.toNat_lt⟩
/-- Bits beside one another: what goes on to the next limb. -/
theorem or_on (h l : Nat) (hh : h < 2251799813685248) (hl : l < 18446744073709551616) : bits .or .u64 (IntKind.u64.wrap ((h : Int) * 8192)) ((l / 2251799813685248 : Nat) : Int) = ((h * 8192 + l / 2251799813685248 : Nat) : Int) := by
  have e : IntKind.u64.wrap ((h : Int) * 8192) = ((h * 8192 : Nat) : Int) := by rw [IntKind.wrap_u64]; omega
  rw [e, bits_or_u64_nat _ _ (by omega) (by omega)]
  have h1 : l / 2251799813685248 < 2 ^ 13 := by omega
  have := Nat.two_pow_add_eq_or_of_lt h1 h
  rw [show (2 : Nat) ^ 13 = 8192 from rfl] at this
  rw [Nat.mul_comm h 8192, ← this]
end Go.Proofs.YtoookolekpblhaaDoor
