/- The code's numbers: five limbs of 51 bits as cells; what settling makes of them, in plain arithmetic. Conditions: none. -/
import Derived.Test.YtoookolekpblhaaDoorBase
import Derived.Test.YtoookolekpblhaaDoorNumMath
namespace Go.Proofs.YtoookolekpblhaaDoor
open Go.RowKit
/-- Five limbs as cells. -/
def cl (f : Nat → Int) : List Value := (List.range 5).map fun i => Value.int .i64 (f i)
theorem cl_length (f : Nat → Int) : (cl f).length = 5 := by simp [cl]
theorem cl_get (f : Nat → Int) (i : Nat) (h : i < 5) : (cl f)[i]? = some (.int .i64 (f i)) := by
  unfold cl
  rw [List.getElem?_map, List.getElem?_range h]
  rfl
theorem cl_set (f : Nat → Int) (i : Nat) (z : Int) : (cl f).set i (.int .i64 z) = cl (fun j => if j = i then z else f j) := by
  apply List.ext_getElem?
  intro j
  by_cases hj : j < 5
  · rw [List.getElem?_set, cl_length, cl_get _ j hj, cl_get _ j hj]
    by_cases e : i = j
    · subst e; simp [hj]
    · have e2 : ¬ j = i := fun h => e h.symm
      simp [e, e2]
  · rw [List.getElem?_eq_none (by rw [List.length_set, cl_length]; omega), List.getElem?_eq_none (by rw [cl_length]; omega)]
theorem cl_congr {f g : Nat → Int} (h : ∀ i, i < 5 → f i = g i) : cl f = cl g := by
  unfold cl
  apply List.map_congr_left
  intro i hi
  rw [h i (by simpa using hi)]
theorem cl_one (f : Nat → Int) : ∀ v ∈ cl f, v.oneCell' = true := by
  intro v hv
  obtain ⟨i, _, rfl⟩ := List.mem_map.1 hv
  rfl
/-- What the limbs say. -/
def tot (f : Nat → Int) : Int := f 0 + f 1 * 2251799813685248 + f 2 * 5070602400912917605986812821504 + f 3 * 11417981541647679048466287755595961091061972992 + f 4 * 25711008708143844408671393477458601640355247900524685364822016
/-- A number's limbs. -/
def lm (x i : Nat) : Nat := x / 2251799813685248 ^ i % 2251799813685248
theorem lm_lt (x i : Nat) : lm x i < 2251799813685248 := Nat.mod_lt _ (by decide)
def lf (x i : Nat) : Int := (lm x i : Int)
def ls (x : Nat) : List Value := cl (lf x)
theorem lf_pos (x i : Nat) : 0 ≤ lf x i := Int.natCast_nonneg _
theorem lf_lt (x i : Nat) : lf x i < 2251799813685248 := by unfold lf; have := lm_lt x i; omega
theorem lf_tot {x : Nat} (h : x < 57896044618658097711785492504343953926634992332820282019728792003956564819968) : tot (lf x) = (x : Int) := by
  unfold tot lf lm
  simp only [Nat.reducePow, Nat.div_one]
  omega
/-- What is carried to limb i. -/
def cr (f : Nat → Int) (c : Int) : Nat → Int
  | 0 => c
  | i + 1 => (f i + cr f c i) / 2251799813685248
theorem cr_le {f : Nat → Int} {c : Int} (hf : ∀ i, i < 5 → -4611686018427387904 ≤ f i ∧ f i ≤ 4611686018427387904) (hc : -1000 ≤ c ∧ c ≤ 1000) : ∀ i, i ≤ 5 → -10000 ≤ cr f c i ∧ cr f c i ≤ 10000
  | 0, _ => by rw [cr]; omega
  | i + 1, h => by
    have h1 := cr_le hf hc i (by omega)
    have h2 := hf i (by omega)
    rw [cr]
    omega
theorem settle_q {f : Nat → Int} {x : Nat} (hx : tot f = (x : Int)) (h : x < 2 * fq) : cr f 19 5 = if x < fq then 0 else 1 := by
  unfold tot at hx
  unfold fq at h ⊢
  simp only [cr]
  split <;> omega
theorem lm_of {a b c d e : Nat} (ha : a < 2251799813685248) (hb : b < 2251799813685248) (hc : c < 2251799813685248) (hd : d < 2251799813685248) (he : e < 2251799813685248) {x : Nat}
    (hx : x = a + b * 2251799813685248 + c * 5070602400912917605986812821504 + d * 11417981541647679048466287755595961091061972992 + e * 25711008708143844408671393477458601640355247900524685364822016) :
    lm x 0 = a ∧ lm x 1 = b ∧ lm x 2 = c ∧ lm x 3 = d ∧ lm x 4 = e := by
  unfold lm
  simp only [Nat.reducePow, Nat.div_one]
  omega
/-- Limbs that are settled. -/
def st (f : Nat → Int) (c : Int) (i : Nat) : Int := (f i + cr f c i) % 2251799813685248
theorem settle_is {f : Nat → Int} {x : Nat} (hx : tot f = (x : Int)) (h : x < 2 * fq) {q : Int} (hq : q = if x < fq then 0 else 1) : ∀ i, i < 5 → st f (19 * q) i = lf (x % fq) i := by
  obtain ⟨r0, h0⟩ : ∃ r : Nat, st f (19 * q) 0 = (r : Int) ∧ r < 2251799813685248 := ⟨(st f (19 * q) 0).toNat, by unfold st; omega⟩
  obtain ⟨r1, h1⟩ : ∃ r : Nat, st f (19 * q) 1 = (r : Int) ∧ r < 2251799813685248 := ⟨(st f (19 * q) 1).toNat, by unfold st; omega⟩
  obtain ⟨r2, h2⟩ : ∃ r : Nat, st f (19 * q) 2 = (r : Int) ∧ r < 2251799813685248 := ⟨(st f (19 * q) 2).toNat, by unfold st; omega⟩
  obtain ⟨r3, h3⟩ : ∃ r : Nat, st f (19 * q) 3 = (r : Int) ∧ r < 2251799813685248 := ⟨(st f (19 * q) 3).toNat, by unfold st; omega⟩
  obtain ⟨r4, h4⟩ : ∃ r : Nat, st f (19 * q) 4 = (r : Int) ∧ r < 2251799813685248 := ⟨(st f (19 * q) 4).toNat, by unfold st; omega⟩
  have hm : x % fq = if x < fq then x else x - fq := by
    split
    · exact Nat.mod_eq_of_lt (by assumption)
    · rw [Nat.mod_eq_sub_mod (by omega), Nat.mod_eq_of_lt (by omega)]
  have hs : x % fq = r0 + r1 * 2251799813685248 + r2 * 5070602400912917605986812821504 + r3 * 11417981541647679048466287755595961091061972992 + r4 * 25711008708143844408671393477458601640355247900524685364822016 := by
    rw [hm]
    unfold tot at hx
    unfold fq at h hq ⊢
    simp only [st, cr] at h0 h1 h2 h3 h4
    split at hq <;> simp only [*, if_true, if_false] <;> subst hq <;> omega
  obtain ⟨e0, e1, e2, e3, e4⟩ := lm_of h0.2 h1.2 h2.2 h3.2 h4.2 hs
  intro i hi
  unfold lf
  obtain rfl | rfl | rfl | rfl | rfl : i = 0 ∨ i = 1 ∨ i = 2 ∨ i = 3 ∨ i = 4 := by omega
  · rw [h0.1, e0]
  · rw [h1.1, e1]
  · rw [h2.1, e2]
  · rw [h3.1, e3]
  · rw [h4.1, e4]
end Go.Proofs.YtoookolekpblhaaDoor
