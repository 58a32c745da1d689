/- The number of 32 bytes. Conditions: none. -/
import Derived.Test.YtoookolekpblhaaDoorSub5
namespace Go.Proofs.YtoookolekpblhaaDoor
open Go.RowKit
/-- A byte of the number, the topmost bit of the last one left out. -/
def cut (k : Fin 32 → UInt8) (j : Fin 32) : UInt8 := if j.val = 31 then UInt8.ofNat ((k j).toNat % 128) else k j
/-- The limbs that the first i bytes give. -/
def oz (b : Nat → Nat) : Nat → Nat → Nat
  | 0, _ => 0
  | i + 1, j => if 8 * i / 51 = j then oz b i j + b i * 2 ^ (8 * i % 51) else oz b i j
theorem oz_none (b : Nat → Nat) : ∀ i j, 8 * i ≤ 51 * j → oz b i j = 0
  | 0, _, _ => rfl
  | i + 1, j, h => by
    rw [oz, if_neg (by omega), oz_none b i j (by omega)]
theorem oz_now {b : Nat → Nat} (hb : ∀ i, b i < 256) : ∀ i, oz b i (8 * i / 51) < 2 ^ (8 * i % 51)
  | 0 => by simp [oz]
  | i + 1 => by
    by_cases h : 8 * i / 51 = 8 * (i + 1) / 51
    · rw [oz, if_pos h, ← h, show 8 * (i + 1) % 51 = 8 * i % 51 + 8 by omega, Nat.pow_add]
      have h1 := oz_now hb i
      have h2 := Nat.mul_le_mul_right (2 ^ (8 * i % 51)) (show b i ≤ 255 by have := hb i; omega)
      omega
    · rw [oz, if_neg h, oz_none b i _ (by omega)]
      exact Nat.pow_pos (by decide)
theorem oz_lt {b : Nat → Nat} (hb : ∀ i, b i < 256) : ∀ i j, oz b i j < 288230376151711744
  | 0, _ => by rw [oz]; decide
  | i + 1, j => by
    rw [oz]
    split
    · rename_i h
      have h1 := oz_now hb i
      rw [h] at h1
      have h2 := Nat.mul_le_mul_right (2 ^ (8 * i % 51)) (show b i ≤ 255 by have := hb i; omega)
      have h3 : 2 ^ (8 * i % 51) ≤ 2 ^ 50 := Nat.pow_le_pow_right (by decide) (by omega)
      omega
    · exact oz_lt hb i j
/-- What the limbs say in natural numbers. -/
def ton (f : Nat → Nat) : Nat := f 0 + f 1 * 2251799813685248 + f 2 * 5070602400912917605986812821504 + f 3 * 11417981541647679048466287755595961091061972992 + f 4 * 25711008708143844408671393477458601640355247900524685364822016
/-- What the first i bytes say. -/
def vb (b : Nat → Nat) : Nat → Nat
  | 0 => 0
  | i + 1 => vb b i + b i * 2 ^ (8 * i)
theorem oz_ton (b : Nat → Nat) : ∀ i, i ≤ 32 → ton (oz b i) = vb b i
  | 0, _ => by simp [ton, oz, vb]
  | i + 1, h => by
    rw [vb, ← oz_ton b i (by omega)]
    have e : 2 ^ (8 * i) = 2 ^ (8 * i % 51) * 2 ^ (51 * (8 * i / 51)) := by
      rw [← Nat.pow_add]
      congr 1
      omega
    rw [e, ← Nat.mul_assoc]
    generalize hz : b i * 2 ^ (8 * i % 51) = z
    have hoz : ∀ j, oz b (i + 1) j = if 8 * i / 51 = j then oz b i j + z else oz b i j := fun j => by rw [oz, hz]
    unfold ton
    rw [hoz, hoz, hoz, hoz, hoz]
    have hk : 8 * i / 51 < 5 := by omega
    generalize 8 * i / 51 = q at hk ⊢
    obtain rfl | rfl | rfl | rfl | rfl : q = 0 ∨ q = 1 ∨ q = 2 ∨ q = 3 ∨ q = 4 := by omega
    all_goals simp only [if_true, if_false, Nat.reduceEqDiff, Nat.reduceMul, Nat.reducePow]
    all_goals omega
theorem lv_vb (b : Nat → Nat) : ∀ n s, lv ((List.range' s n 1).map b) * 2 ^ (8 * s) + vb b s = vb b (s + n)
  | 0, s => by simp [lv]
  | n + 1, s => by
    have h := lv_vb b n (s + 1)
    rw [show s + 1 + n = s + (n + 1) by omega] at h
    rw [← h, List.range'_succ, List.map_cons, lv, vb, show 8 * (s + 1) = 8 * s + 8 by omega, Nat.pow_add, Nat.add_mul]
    have e : 256 * lv ((List.range' (s + 1) n 1).map b) * 2 ^ (8 * s) = lv ((List.range' (s + 1) n 1).map b) * (2 ^ (8 * s) * 2 ^ 8) := by
      rw [Nat.mul_comm 256, Nat.mul_assoc, Nat.mul_comm (256) (2 ^ (8 * s))]
    omega
/-- The i-th byte as a number. -/
def bn (k : Fin 32 → UInt8) (i : Nat) : Nat := if h : i < 32 then (k ⟨i, h⟩).toNat else 0
theorem bn_lt (k : Fin 32 → UInt8) (i : Nat) : bn k i < 256 := by
  unfold bn
  split
  · exact UInt8.toNat_lt _
  · decide
theorem bn_nb (k : Fin 32 → UInt8) : vb (bn k) 32 = nb k := by
  have h := lv_vb (bn k) 32 0
  rw [Nat.zero_add, vb, Nat.add_zero, Nat.mul_zero, Nat.pow_zero, Nat.mul_one] at h
  rw [← h]
  unfold nb
  congr 1
theorem nb_cut (k : Fin 32 → UInt8) : nb (cut k) = nb k % t255 := by
  have h1 : ∀ i, i ≤ 31 → vb (bn (cut k)) i = vb (bn k) i := fun i => by
    induction i with
    | zero => intro _; rfl
    | succ i ih =>
      intro h
      rw [vb, vb, ih (by omega)]
      congr 2
      unfold bn cut
      simp [show i < 32 by omega, show ¬ i = 31 by omega]
  have h2 : bn (cut k) 31 = bn k 31 % 128 := by
    unfold bn cut
    simp
    omega
  have h3 : ∀ i, vb (bn k) i < 2 ^ (8 * i) := fun i => by
    induction i with
    | zero => rw [vb]; decide
    | succ i ih =>
      rw [vb, show 8 * (i + 1) = 8 * i + 8 by omega, Nat.pow_add]
      have := Nat.mul_le_mul_right (2 ^ (8 * i)) (show bn k i ≤ 255 by have := bn_lt k i; omega)
      omega
  have e1 : ∀ l, vb (bn l) 32 = vb (bn l) 31 + bn l 31 * 2 ^ (8 * 31) := fun _ => rfl
  rw [← bn_nb, ← bn_nb, e1, e1, h1 31 (by omega), h2]
  have h4 := h3 31
  generalize vb (bn k) 31 = v at h4 ⊢
  generalize bn k 31 = x
  unfold t255
  simp only [Nat.reduceMul, Nat.reducePow] at h4 ⊢
  omega
/-- The limbs as whole numbers. -/
def of5 (k : Fin 32 → UInt8) (i j : Nat) : Int := (oz (bn (cut k)) i j : Int)
theorem of5_tot (k : Fin 32 → UInt8) : tot (of5 k 32) = ((nb k % t255 : Nat) : Int) := by
  have h := oz_ton (bn (cut k)) 32 (by omega)
  rw [bn_nb, nb_cut] at h
  rw [← h]
  unfold tot ton of5
  omega
end Go.Proofs.YtoookolekpblhaaDoor
