/- Products of numbers of five limbs, in plain arithmetic. Conditions: none. -/
import Derived.Test.YtoookolekpblhaaDoorGat
namespace Go.Proofs.YtoookolekpblhaaDoor
open Go.RowKit
theorem mul_ring (B a0 a1 a2 a3 a4 b0 b1 b2 b3 b4 : Int) :
    (a0 + a1 * B + a2 * B ^ 2 + a3 * B ^ 3 + a4 * B ^ 4) * (b0 + b1 * B + b2 * B ^ 2 + b3 * B ^ 3 + b4 * B ^ 4) =
    (a0 * b0 + a1 * (19 * b4) + a2 * (19 * b3) + a3 * (19 * b2) + a4 * (19 * b1)) + (a0 * b1 + a1 * b0 + a2 * (19 * b4) + a3 * (19 * b3) + a4 * (19 * b2)) * B
    + (a0 * b2 + a1 * b1 + a2 * b0 + a3 * (19 * b4) + a4 * (19 * b3)) * B ^ 2 + (a0 * b3 + a1 * b2 + a2 * b1 + a3 * b0 + a4 * (19 * b4)) * B ^ 3
    + (a0 * b4 + a1 * b3 + a2 * b2 + a3 * b1 + a4 * b0) * B ^ 4
    + (B ^ 5 - 19) * ((a1 * b4 + a2 * b3 + a3 * b2 + a4 * b1) + (a2 * b4 + a3 * b3 + a4 * b2) * B + (a3 * b4 + a4 * b3) * B ^ 2 + a4 * b4 * B ^ 3) := by grind
/-- The row in which b's limbs stand twice. -/
def rb (y j : Nat) : Nat := if j < 4 then 19 * lm y (j + 1) else lm y (j - 4)
theorem rb_lt (y j : Nat) : rb y j < 72057594037927936 := by
  unfold rb
  split
  · have := lm_lt y (j + 1)
    omega
  · have := lm_lt y (j - 4)
    omega
/-- What a limb of the product is made of. -/
def pk (x y k : Nat) : Nat := lm x 0 * rb y (k + 4) + lm x 1 * rb y (k + 3) + lm x 2 * rb y (k + 2) + lm x 3 * rb y (k + 1) + lm x 4 * rb y (k + 0)
/-- What comes on to it. -/
def mon (x y : Nat) : Nat → Nat
  | 0 => 0
  | k + 1 => (mon x y k + pk x y k) / 2251799813685248
def mc (x y k : Nat) : Nat := (mon x y k + pk x y k) % 2251799813685248
theorem pk_le (x y k : Nat) : pk x y k ≤ 811296384146066816957890051440640 := by
  unfold pk
  have h0 := mul_le5 (lm_lt x 0) (rb_lt y (k + 4))
  have h1 := mul_le5 (lm_lt x 1) (rb_lt y (k + 3))
  have h2 := mul_le5 (lm_lt x 2) (rb_lt y (k + 2))
  have h3 := mul_le5 (lm_lt x 3) (rb_lt y (k + 1))
  have h4 := mul_le5 (lm_lt x 4) (rb_lt y (k + 0))
  omega
theorem mon_le (x y : Nat) : ∀ k, mon x y k ≤ 576460752303423488
  | 0 => by rw [mon]; omega
  | k + 1 => by
    have h := mon_le x y k
    have h2 := pk_le x y k
    rw [mon]
    omega
theorem pk4_le (x y : Nat) : pk x y 4 ≤ 25353012004564588029934064107520 := by
  have h : ∀ i j, 4 ≤ j → lm x i * rb y j ≤ 5070602400912917605986812821504 := fun i j hj => by
    have e : rb y j = lm y (j - 4) := by unfold rb; rw [if_neg (by omega)]
    rw [e]
    exact Nat.mul_le_mul (Nat.le_of_lt (lm_lt x i)) (Nat.le_of_lt (lm_lt y _))
  have h0 := h 0 (4 + 4) (by omega)
  have h1 := h 1 (4 + 3) (by omega)
  have h2 := h 2 (4 + 2) (by omega)
  have h3 := h 3 (4 + 1) (by omega)
  have h4 := h 4 (4 + 0) (by omega)
  unfold pk
  omega
theorem mon5_le (x y : Nat) : mon x y 5 ≤ 13510798882111488 := by
  have h1 := mon_le x y 4
  have h2 := pk4_le x y
  rw [mon]
  omega
theorem mc_lt (x y k : Nat) : mc x y k < 2251799813685248 := Nat.mod_lt _ (by decide)
/-- The product's limbs ahead of settling. -/
def mf (x y j : Nat) : Int := if j = 0 then (mc x y 0 : Int) + 19 * (mon x y 5 : Int) else (mc x y j : Int)
def mN (x y : Nat) : Nat := mc x y 0 + 19 * mon x y 5 + mc x y 1 * 2251799813685248 + mc x y 2 * 5070602400912917605986812821504 + mc x y 3 * 11417981541647679048466287755595961091061972992 + mc x y 4 * 25711008708143844408671393477458601640355247900524685364822016
theorem mf_tot (x y : Nat) : tot (mf x y) = (mN x y : Int) := by
  unfold tot mf mN
  simp only [if_true, if_false, Nat.succ_ne_zero]
  omega
theorem mN_lt (x y : Nat) : mN x y < 2 * fq := by
  have h0 := mc_lt x y 0
  have h1 := mc_lt x y 1
  have h2 := mc_lt x y 2
  have h3 := mc_lt x y 3
  have h4 := mc_lt x y 4
  have h5 := mon5_le x y
  unfold mN fq
  omega
theorem mf_le (x y i : Nat) : -4611686018427387904 ≤ mf x y i ∧ mf x y i ≤ 4611686018427387904 := by
  have h0 := mc_lt x y 0
  have h1 := mc_lt x y i
  have h5 := mon5_le x y
  unfold mf
  split <;> omega
theorem mN_tele (x y : Nat) : (mN x y : Int) + (fq : Int) * (mon x y 5 : Int) = (pk x y 0 : Int) + (pk x y 1 : Int) * 2251799813685248 + (pk x y 2 : Int) * 2251799813685248 ^ 2 + (pk x y 3 : Int) * 2251799813685248 ^ 3 + (pk x y 4 : Int) * 2251799813685248 ^ 4 := by
  have s : ∀ k, (mc x y k : Int) + 2251799813685248 * (mon x y (k + 1) : Int) = (mon x y k : Int) + (pk x y k : Int) := fun k => by
    unfold mc
    rw [mon]
    omega
  have s0 : (mc x y 0 : Int) + 2251799813685248 * (mon x y 1 : Int) = (mon x y 0 : Int) + (pk x y 0 : Int) := s 0
  have s1 : (mc x y 1 : Int) + 2251799813685248 * (mon x y 2 : Int) = (mon x y 1 : Int) + (pk x y 1 : Int) := s 1
  have s2 : (mc x y 2 : Int) + 2251799813685248 * (mon x y 3 : Int) = (mon x y 2 : Int) + (pk x y 2 : Int) := s 2
  have s3 : (mc x y 3 : Int) + 2251799813685248 * (mon x y 4 : Int) = (mon x y 3 : Int) + (pk x y 3 : Int) := s 3
  have s4 : (mc x y 4 : Int) + 2251799813685248 * (mon x y 5 : Int) = (mon x y 4 : Int) + (pk x y 4 : Int) := s 4
  have z : (mon x y 0 : Int) = 0 := rfl
  clear s
  unfold mN fq
  simp only [Int.reducePow]
  omega
theorem mul_is {x y : Nat} (hx : x < fq) (hy : y < fq) : mN x y % fq = x * y % fq := by
  have h1 := lf_tot (x := x) (by unfold fq at hx; omega)
  have h2 := lf_tot (x := y) (by unfold fq at hy; omega)
  have e0 : pk x y 0 = lm x 0 * lm y 0 + lm x 1 * (19 * lm y 4) + lm x 2 * (19 * lm y 3) + lm x 3 * (19 * lm y 2) + lm x 4 * (19 * lm y 1) := by simp [pk, rb]
  have e1 : pk x y 1 = lm x 0 * lm y 1 + lm x 1 * lm y 0 + lm x 2 * (19 * lm y 4) + lm x 3 * (19 * lm y 3) + lm x 4 * (19 * lm y 2) := by simp [pk, rb]
  have e2 : pk x y 2 = lm x 0 * lm y 2 + lm x 1 * lm y 1 + lm x 2 * lm y 0 + lm x 3 * (19 * lm y 4) + lm x 4 * (19 * lm y 3) := by simp [pk, rb]
  have e3 : pk x y 3 = lm x 0 * lm y 3 + lm x 1 * lm y 2 + lm x 2 * lm y 1 + lm x 3 * lm y 0 + lm x 4 * (19 * lm y 4) := by simp [pk, rb]
  have e4 : pk x y 4 = lm x 0 * lm y 4 + lm x 1 * lm y 3 + lm x 2 * lm y 2 + lm x 3 * lm y 1 + lm x 4 * lm y 0 := by simp [pk, rb]
  have hr := mul_ring 2251799813685248 (lf x 0) (lf x 1) (lf x 2) (lf x 3) (lf x 4) (lf y 0) (lf y 1) (lf y 2) (lf y 3) (lf y 4)
  obtain ⟨H, hH⟩ : ∃ H : Int, H = ((lf x 1 * lf y 4 + lf x 2 * lf y 3 + lf x 3 * lf y 2 + lf x 4 * lf y 1) + (lf x 2 * lf y 4 + lf x 3 * lf y 3 + lf x 4 * lf y 2) * 2251799813685248 + (lf x 3 * lf y 4 + lf x 4 * lf y 3) * 2251799813685248 ^ 2 + lf x 4 * lf y 4 * 2251799813685248 ^ 3) := ⟨_, rfl⟩
  rw [← hH] at hr
  have c0 : (pk x y 0 : Int) = lf x 0 * lf y 0 + lf x 1 * (19 * lf y 4) + lf x 2 * (19 * lf y 3) + lf x 3 * (19 * lf y 2) + lf x 4 * (19 * lf y 1) := by rw [e0]; simp [lf]
  have c1 : (pk x y 1 : Int) = lf x 0 * lf y 1 + lf x 1 * lf y 0 + lf x 2 * (19 * lf y 4) + lf x 3 * (19 * lf y 3) + lf x 4 * (19 * lf y 2) := by rw [e1]; simp [lf]
  have c2 : (pk x y 2 : Int) = lf x 0 * lf y 2 + lf x 1 * lf y 1 + lf x 2 * lf y 0 + lf x 3 * (19 * lf y 4) + lf x 4 * (19 * lf y 3) := by rw [e2]; simp [lf]
  have c3 : (pk x y 3 : Int) = lf x 0 * lf y 3 + lf x 1 * lf y 2 + lf x 2 * lf y 1 + lf x 3 * lf y 0 + lf x 4 * (19 * lf y 4) := by rw [e3]; simp [lf]
  have c4 : (pk x y 4 : Int) = lf x 0 * lf y 4 + lf x 1 * lf y 3 + lf x 2 * lf y 2 + lf x 3 * lf y 1 + lf x 4 * lf y 0 := by rw [e4]; simp [lf]
  rw [← c0, ← c1, ← c2, ← c3, ← c4] at hr
  have hxy : (lf x 0 + lf x 1 * 2251799813685248 + lf x 2 * 2251799813685248 ^ 2 + lf x 3 * 2251799813685248 ^ 3 + lf x 4 * 2251799813685248 ^ 4) = (x : Int) := by
    rw [← h1]
    unfold tot
    rfl
  have hyy : (lf y 0 + lf y 1 * 2251799813685248 + lf y 2 * 2251799813685248 ^ 2 + lf y 3 * 2251799813685248 ^ 3 + lf y 4 * 2251799813685248 ^ 4) = (y : Int) := by
    rw [← h2]
    unfold tot
    rfl
  rw [hxy, hyy] at hr
  have key : (mN x y : Int) + (fq : Int) * ((mon x y 5 : Int) + H) = (x : Int) * (y : Int) := by
    rw [hr, Int.mul_add, show (2251799813685248 : Int) ^ 5 - 19 = (fq : Int) by decide +kernel]
    have := mN_tele x y
    clear e0 e1 e2 e3 e4 c0 c1 c2 c3 c4 hr hH h1 h2 hxy hyy
    omega
  have k2 : (mN x y : Int) % (fq : Int) = ((x : Int) * (y : Int)) % (fq : Int) := by rw [← key, Int.add_mul_emod_self_left]
  have k3 : ((mN x y % fq : Nat) : Int) = ((x * y % fq : Nat) : Int) := by rw [Int.natCast_emod, Int.natCast_emod, Int.natCast_mul]; exact k2
  exact Int.ofNat.inj k3
end Go.Proofs.YtoookolekpblhaaDoor
