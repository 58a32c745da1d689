/- Numbers of 128 bits: the product of two words taken in. Conditions: nothing goes beyond 128 bits. -/
import Derived.Test.YtoookolekpblhaaDoorBy6
import Derived.Lib.Mul64
import Derived.Laws.Externs
namespace Go.Proofs.YtoookolekpblhaaDoor
open Go.RowKit
theorem call38 (x y : Nat) (hx : x < 18446744073709551616) (hy : y < 18446744073709551616) (w : World) : (callFunc 38 #[.int .u64 (x : Int), .int .u64 (y : Int), .int .u64 0]).run Tryd.prog w =
    .ok (.value (.tuple #[.int .u64 (((x + y) % 18446744073709551616 : Nat) : Int), .int .u64 (((x + y) / 18446744073709551616 : Nat) : Int)])) w := by
  rw [run_callFunc_extern Tryd.func38 (by kernel_rfl) (by kernel_rfl) (by kernel_rfl) (e := add64Entry) (by kernel_rfl)]
  have h := run_add64 (P := Tryd.prog) x y 0 (by omega) (by omega) (by omega) (by omega) w
  rw [h]
  simp only [Result.andThen_ok]
  congr 5 <;> omega
theorem mask32 (a : Nat) (ha : a < 18446744073709551616) : bits .and .u64 (a : Int) 4294967295 = ((a % 4294967296 : Nat) : Int) := by
  have h := bits_and_u64_nat a 4294967295 ha (by omega)
  rw [show a &&& 4294967295 = a % 4294967296 from Nat.and_two_pow_sub_one_eq_mod a 32] at h
  exact h
theorem u64_in {a : Nat} (ha : a < 18446744073709551616) : IntKind.u64.wrap (a : Int) = (a : Int) := by rw [IntKind.wrap_u64]; omega
theorem u64_any (a : Nat) : IntKind.u64.wrap (a : Int) = ((a % 18446744073709551616 : Nat) : Int) := by rw [IntKind.wrap_u64]; omega
set_option maxRecDepth 100000 in
set_option maxHeartbeats 1600000 in
theorem mul64_any (w : World) (x y : Nat) (hx : x < 18446744073709551616) (hy : y < 18446744073709551616) :
    Calls Tryd.prog 37 #[.int .u64 (x : Int), .int .u64 (y : Int)] w fun e w' => e = .returned (.tuple #[.int .u64 ((x * y / 18446744073709551616 : Nat) : Int), .int .u64 ((x * y % 18446744073709551616 : Nat) : Int)]) ∧ w' = w := by
  obtain ⟨b1, b2, b3, hhi⟩ := Lib.mul64_hi x y hx hy
  have b4 := Lib.half_mul_le (a := x / 4294967296) (b := y / 4294967296) (by omega) (by omega)
  have b5 := Lib.half_mul_le (a := x / 4294967296) (b := y % 4294967296) (by omega) (by omega)
  have b6 := Lib.half_mul_le (a := x % 4294967296) (b := y / 4294967296) (by omega) (by omega)
  obtain ⟨x0, hx0⟩ : ∃ n, n = x % 4294967296 := ⟨_, rfl⟩
  obtain ⟨x1, hx1⟩ : ∃ n, n = x / 4294967296 := ⟨_, rfl⟩
  obtain ⟨y0, hy0⟩ : ∃ n, n = y % 4294967296 := ⟨_, rfl⟩
  obtain ⟨y1, hy1⟩ : ∃ n, n = y / 4294967296 := ⟨_, rfl⟩
  simp only [← hx0, ← hx1, ← hy0, ← hy1] at b1 b2 b3 b4 b5 b6 hhi
  have e1 : bits .and .u64 (x : Int) 4294967295 = (x0 : Int) := by rw [mask32 x hx, hx0]
  have e2 : (x : Int) / 4294967296 = (x1 : Int) := by omega
  have e3 : bits .and .u64 (y : Int) 4294967295 = (y0 : Int) := by rw [mask32 y hy, hy0]
  have e4 : (y : Int) / 4294967296 = (y1 : Int) := by omega
  clear hx0 hx1 hy0 hy1
  obtain ⟨p00, h00⟩ : ∃ n, n = x0 * y0 := ⟨_, rfl⟩
  obtain ⟨p10, h10⟩ : ∃ n, n = x1 * y0 := ⟨_, rfl⟩
  obtain ⟨p01, h01⟩ : ∃ n, n = x0 * y1 := ⟨_, rfl⟩
  obtain ⟨p11, h11⟩ : ∃ n, n = x1 * y1 := ⟨_, rfl⟩
  obtain ⟨pp, hpp⟩ : ∃ n, n = x * y := ⟨_, rfl⟩
  simp only [← h00, ← h10, ← h01, ← h11, ← hpp] at b1 b2 b3 b4 b5 b6 hhi ⊢
  have e5 : IntKind.u64.wrap ((x0 : Int) * (y0 : Int)) = (p00 : Int) := by rw [← Int.natCast_mul, ← h00]; exact u64_in (by omega)
  have e6 : IntKind.u64.wrap ((x1 : Int) * (y0 : Int)) = (p10 : Int) := by rw [← Int.natCast_mul, ← h10]; exact u64_in (by omega)
  have e11 : IntKind.u64.wrap ((x0 : Int) * (y1 : Int)) = (p01 : Int) := by rw [← Int.natCast_mul, ← h01]; exact u64_in (by omega)
  have e13 : IntKind.u64.wrap ((x1 : Int) * (y1 : Int)) = (p11 : Int) := by rw [← Int.natCast_mul, ← h11]; exact u64_in (by omega)
  have e17 : IntKind.u64.wrap ((x : Int) * (y : Int)) = ((pp % 18446744073709551616 : Nat) : Int) := by rw [← Int.natCast_mul, ← hpp]; exact u64_any _
  have hp2 : pp / 18446744073709551616 < 18446744073709551616 := by
    have : pp < 18446744073709551616 * 18446744073709551616 := by rw [hpp]; exact Nat.mul_lt_mul'' hx hy
    exact Nat.div_lt_of_lt_mul this
  clear h00 h10 h01 h11 hpp
  obtain ⟨c0, hc0⟩ : ∃ n, n = p00 / 4294967296 := ⟨_, rfl⟩
  obtain ⟨t, ht⟩ : ∃ n, n = p10 + c0 := ⟨_, rfl⟩
  obtain ⟨t0, ht0⟩ : ∃ n, n = t % 4294967296 := ⟨_, rfl⟩
  obtain ⟨t1, ht1⟩ : ∃ n, n = t / 4294967296 := ⟨_, rfl⟩
  obtain ⟨s, hs⟩ : ∃ n, n = t0 + p01 := ⟨_, rfl⟩
  obtain ⟨s1, hs1⟩ : ∃ n, n = s / 4294967296 := ⟨_, rfl⟩
  obtain ⟨u, hu⟩ : ∃ n, n = p11 + t1 := ⟨_, rfl⟩
  obtain ⟨hi, hhi'⟩ : ∃ n, n = pp / 18446744073709551616 := ⟨_, rfl⟩
  obtain ⟨lo, hlo⟩ : ∃ n, n = pp % 18446744073709551616 := ⟨_, rfl⟩
  simp only [← hc0, ← ht, ← ht0, ← ht1, ← hs, ← hs1, ← hu, ← hhi', ← hlo] at b1 b2 b3 hhi hp2 e17 ⊢
  have e7 : (p00 : Int) / 4294967296 = (c0 : Int) := by omega
  have e8 : IntKind.u64.wrap ((p10 : Int) + (c0 : Int)) = (t : Int) := by rw [← Int.natCast_add, ← ht]; exact u64_in (by omega)
  have e9 : bits .and .u64 (t : Int) 4294967295 = (t0 : Int) := by rw [mask32 t (by omega), ht0]
  have e10 : (t : Int) / 4294967296 = (t1 : Int) := by omega
  have e12 : IntKind.u64.wrap ((t0 : Int) + (p01 : Int)) = (s : Int) := by rw [← Int.natCast_add, ← hs]; exact u64_in (by omega)
  have e14 : IntKind.u64.wrap ((p11 : Int) + (t1 : Int)) = (u : Int) := by rw [← Int.natCast_add, ← hu]; exact u64_in (by omega)
  have e15 : (s : Int) / 4294967296 = (s1 : Int) := by omega
  have e16 : IntKind.u64.wrap ((u : Int) + (s1 : Int)) = (hi : Int) := by rw [← Int.natCast_add, hhi]; exact u64_in (by omega)
  clear hc0 ht ht0 ht1 hs hs1 hu hhi' hlo b1 b2 b3 b4 b5 b6 hhi hp2 hx hy
  go_enter Tryd.func37, Tryd.ntmps37
  go_wp2
  go_ret2
  exact ⟨rfl, rfl⟩
end Go.Proofs.YtoookolekpblhaaDoor
