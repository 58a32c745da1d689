/- Digits to the base 65536, in plain mathematics. Conditions: none. -/
namespace Go.Proofs.YtoookolekpblhaaDoor
/-- Digit number i. -/
def dgt (n i : Nat) : Nat := n / 65536 ^ i % 65536
/-- The first k digits, the least first. -/
def dgs (k n : Nat) : List Nat := (List.range k).map (dgt n)
theorem dgt_lt (n i : Nat) : dgt n i < 65536 := Nat.mod_lt _ (by decide)
theorem dgs_length (k n : Nat) : (dgs k n).length = k := by simp [dgs]
theorem dgs_succ (k n : Nat) : dgs (k + 1) n = dgs k n ++ [dgt n k] := by simp [dgs, List.range_succ]
theorem dgs_getD (k n i : Nat) (h : i < k) : (dgs k n).getD i 0 = dgt n i := by
  unfold dgs
  rw [List.getD_eq_getElem?_getD, List.getElem?_map, List.getElem?_range h]
  rfl
/-- What digits, however great, say. -/
def vl : List Nat → Nat
  | [] => 0
  | x :: xs => x + 65536 * vl xs
theorem pow_pos' (i : Nat) : 0 < 65536 ^ i := Nat.pow_pos (by decide)
theorem pow_step (i : Nat) : 65536 ^ (i + 1) = 65536 * 65536 ^ i := by rw [Nat.pow_succ, Nat.mul_comm]
theorem vl_append : ∀ a b : List Nat, vl (a ++ b) = vl a + 65536 ^ a.length * vl b
  | [], b => by simp [vl]
  | x :: a, b => by
    rw [List.cons_append, vl, vl, vl_append a b, List.length_cons, pow_step, Nat.mul_add, Nat.mul_assoc]
    omega
theorem vl_one (x : Nat) : vl [x] = x := by simp [vl]
theorem vl_snoc (a : List Nat) (x : Nat) : vl (a ++ [x]) = vl a + 65536 ^ a.length * x := by rw [vl_append, vl_one]
theorem vl_lt : ∀ a : List Nat, (∀ x ∈ a, x < 65536) → vl a < 65536 ^ a.length
  | [], _ => by decide
  | x :: a, h => by
    have h1 := vl_lt a (fun y hy => h y (List.mem_cons_of_mem _ hy))
    have h2 := h x (List.mem_cons_self ..)
    rw [vl, List.length_cons, pow_step]
    omega
theorem vl_dgs (n : Nat) : ∀ k, vl (dgs k n) = n % 65536 ^ k
  | 0 => by simp [dgs, vl, Nat.mod_one]
  | k + 1 => by
    rw [dgs_succ, vl_snoc, dgs_length, vl_dgs n k, Nat.mod_pow_succ]
    rfl
theorem dgt_mod (n k i : Nat) (h : i < k) : dgt (n % 65536 ^ k) i = dgt n i := by
  obtain ⟨d, rfl⟩ : ∃ d, k = i + (d + 1) := ⟨k - i - 1, by omega⟩
  unfold dgt
  rw [Nat.pow_add, Nat.mod_mul_right_div_self, Nat.mod_mod_of_dvd _ (by rw [pow_step]; exact Nat.dvd_mul_right _ _)]
theorem dgs_mod (n k : Nat) : dgs k (n % 65536 ^ k) = dgs k n := by
  unfold dgs
  exact List.map_congr_left fun i hi => dgt_mod n k i (by simpa using hi)
theorem vl_dvd_step (x v i : Nat) (hx : x < 65536) : dgt (x + 65536 * v) (i + 1) = dgt v i ∧ dgt (x + 65536 * v) 0 = x := by
  constructor
  · unfold dgt
    rw [pow_step, ← Nat.div_div_eq_div_mul, show (x + 65536 * v) / 65536 = v by omega]
  · unfold dgt
    simp
    omega
theorem dgs_cons (x v : Nat) (hx : x < 65536) (k : Nat) : dgs (k + 1) (x + 65536 * v) = x :: dgs k v := by
  unfold dgs
  rw [List.range_succ_eq_map, List.map_cons, (vl_dvd_step x v 0 hx).2, List.map_map]
  congr 1
  exact List.map_congr_left fun i _ => (vl_dvd_step x v i hx).1
theorem dgs_vl : ∀ a : List Nat, (∀ x ∈ a, x < 65536) → dgs a.length (vl a) = a
  | [], _ => rfl
  | x :: a, h => by
    rw [List.length_cons, vl, dgs_cons _ _ (h x (List.mem_cons_self ..)), dgs_vl a (fun y hy => h y (List.mem_cons_of_mem _ hy))]
theorem dgs_all (k n : Nat) : ∀ x ∈ dgs k n, x < 65536 := by
  intro x hx
  obtain ⟨i, _, rfl⟩ := List.mem_map.1 hx
  exact dgt_lt n i
theorem dgs_inj {k a b : Nat} (ha : a < 65536 ^ k) (hb : b < 65536 ^ k) (h : dgs k a = dgs k b) : a = b := by
  have := congrArg vl h
  rwa [vl_dgs, vl_dgs, Nat.mod_eq_of_lt ha, Nat.mod_eq_of_lt hb] at this
theorem dgt_over {n k i : Nat} (h : n < 65536 ^ k) (hi : k ≤ i) : dgt n i = 0 := by
  unfold dgt
  rw [Nat.div_eq_of_lt (Nat.lt_of_lt_of_le h (Nat.pow_le_pow_right (by decide) hi))]
theorem dgt_shift (n k i : Nat) : dgt n (i + k) = dgt (n / 65536 ^ k) i := by
  unfold dgt
  rw [Nat.add_comm, Nat.pow_add, Nat.div_div_eq_div_mul]
theorem vl_map_add (f g : Nat → Nat) : ∀ k, vl ((List.range k).map fun i => f i + g i) = vl ((List.range k).map f) + vl ((List.range k).map g)
  | 0 => rfl
  | k + 1 => by
    rw [List.range_succ, List.map_append, List.map_append, List.map_append, List.map_singleton, List.map_singleton, List.map_singleton, vl_snoc, vl_snoc, vl_snoc, vl_map_add f g k]
    simp only [List.length_map, List.length_range, Nat.mul_add]
    omega
theorem vl_map_mul (c : Nat) (f : Nat → Nat) : ∀ k, vl ((List.range k).map fun i => c * f i) = c * vl ((List.range k).map f)
  | 0 => rfl
  | k + 1 => by
    rw [List.range_succ, List.map_append, List.map_append, List.map_singleton, List.map_singleton, vl_snoc, vl_snoc, vl_map_mul c f k]
    simp only [List.length_map, List.length_range, Nat.mul_add]
    rw [Nat.mul_left_comm]
theorem vl_set_add : ∀ (l : List Nat) (j x : Nat), j < l.length → vl (l.set j (l.getD j 0 + x)) = vl l + 65536 ^ j * x
  | y :: l, 0, x, _ => by simp [vl]; omega
  | y :: l, j + 1, x, h => by
    rw [List.set_cons_succ, vl, vl, List.getD_cons_succ, vl_set_add l j x (by simpa using h), pow_step, Nat.mul_add, Nat.mul_assoc]
    omega
theorem vl_zeros : ∀ k, vl (List.replicate k 0) = 0
  | 0 => rfl
  | k + 1 => by rw [List.replicate_succ, vl, vl_zeros k]
theorem vl_take_succ (l : List Nat) (i : Nat) (h : i < l.length) : vl (l.take (i + 1)) = vl (l.take i) + 65536 ^ i * l.getD i 0 := by
  rw [List.take_succ_eq_append_getElem h, vl_snoc, List.length_take, Nat.min_eq_left (by omega), List.getD_eq_getElem?_getD, List.getElem?_eq_getElem h]
  rfl
/-- One digit more is told, the rest carried. -/
theorem norm_step {U l : List Nat} {i c : Nat} (hU : U.length = i) (h : vl (l.take i) = vl U + 65536 ^ i * c) (hi : i < l.length) :
    vl (l.take (i + 1)) = vl (U ++ [(c + l.getD i 0) % 65536]) + 65536 ^ (i + 1) * ((c + l.getD i 0) / 65536) := by
  rw [vl_take_succ l i hi, vl_snoc, hU, h, Nat.add_assoc, ← Nat.mul_add, pow_step, Nat.mul_comm 65536, Nat.mul_assoc, Nat.add_assoc, ← Nat.mul_add, Nat.mod_add_div]
theorem push_step {U : List Nat} {i c V : Nat} (hU : U.length = i) (h : V = vl U + 65536 ^ i * c) : V = vl (U ++ [c % 65536]) + 65536 ^ (i + 1) * (c / 65536) := by
  rw [vl_snoc, hU, h, pow_step, Nat.mul_comm 65536, Nat.mul_assoc, Nat.add_assoc, ← Nat.mul_add, Nat.mod_add_div]
/-- One digit more of a difference. -/
theorem minus_step {U : List Nat} {i a b q x r : Nat} (hU : U.length = i) (h : a % 65536 ^ i + q * 65536 ^ i = vl U + b % 65536 ^ i) (hx : x + dgt b i + q = dgt a i + 65536 * r) :
    a % 65536 ^ (i + 1) + r * 65536 ^ (i + 1) = vl (U ++ [x]) + b % 65536 ^ (i + 1) := by
  have e : 65536 ^ i * (x + dgt b i + q) = 65536 ^ i * (dgt a i + 65536 * r) := by rw [hx]
  rw [vl_snoc, hU, Nat.mod_pow_succ, Nat.mod_pow_succ, pow_step]
  unfold dgt at e
  rw [Nat.mul_add, Nat.mul_add, Nat.mul_add] at e
  rw [Nat.mul_comm q] at h
  rw [Nat.mul_comm r, Nat.mul_comm 65536, Nat.mul_assoc]
  omega
theorem minus_end {U : List Nat} {a b q : Nat} (hU : U.length = 16) (hd : ∀ x ∈ U, x < 65536) (ha : a < 65536 ^ 16) (hb : b ≤ a) (h : a % 65536 ^ 16 + q * 65536 ^ 16 = vl U + b % 65536 ^ 16) : U = dgs 16 (a - b) := by
  have hl := vl_lt U hd
  rw [hU] at hl
  rw [Nat.mod_eq_of_lt ha, Nat.mod_eq_of_lt (Nat.lt_of_le_of_lt hb ha)] at h
  have hq : q = 0 := by
    rcases q with _ | q
    · rfl
    · exfalso
      rw [Nat.succ_mul] at h
      omega
  subst hq
  rw [show a - b = vl U by omega]
  have := dgs_vl U hd
  rw [hU] at this
  exact this.symm
theorem div_step (n i : Nat) : n / 65536 ^ i = dgt n i + 65536 * (n / 65536 ^ (i + 1)) := by
  unfold dgt
  rw [pow_step, Nat.mul_comm 65536 (65536 ^ i), ← Nat.div_div_eq_div_mul]
  omega
theorem less_at {a b i : Nat} (h : a / 65536 ^ (i + 1) = b / 65536 ^ (i + 1)) (hne : dgt a i ≠ dgt b i) : a < b ↔ dgt a i < dgt b i := by
  have h1 := div_step a i
  have h2 := div_step b i
  rw [h] at h1
  constructor
  · intro hlt
    have := Nat.div_le_div_right (c := 65536 ^ i) (Nat.le_of_lt hlt)
    omega
  · intro hd
    rcases Nat.lt_or_ge a b with hlt | hge
    · exact hlt
    · have := Nat.div_le_div_right (c := 65536 ^ i) hge
      omega
theorem less_next {a b i : Nat} (h : a / 65536 ^ (i + 1) = b / 65536 ^ (i + 1)) (he : dgt a i = dgt b i) : a / 65536 ^ i = b / 65536 ^ i := by
  rw [div_step a i, div_step b i, h, he]
end Go.Proofs.YtoookolekpblhaaDoor
namespace Go.Proofs.YtoookolekpblhaaDoor
/-- What folding makes of a number: what is at 2^256 counts 38 times. -/
def fo (v : Nat) : Nat := v % 65536 ^ 16 + 38 * (v / 65536 ^ 16)
/-- The digits behind so many steps of a fold. -/
def foD (v i : Nat) : List Nat := (List.range 16).map fun j => (if j < i then dgt v j else 0) + 38 * (if j + 16 < i then dgt v (j + 16) else 0)
theorem foD_length (v i : Nat) : (foD v i).length = 16 := by simp [foD]
theorem foD_getD (v i j : Nat) (h : j < 16) : (foD v i).getD j 0 = (if j < i then dgt v j else 0) + 38 * (if j + 16 < i then dgt v (j + 16) else 0) := by
  unfold foD
  rw [List.getD_eq_getElem?_getD, List.getElem?_map, List.getElem?_range h]
  rfl
def fE (v i j : Nat) : Nat := (if j < i then dgt v j else 0) + 38 * (if j + 16 < i then dgt v (j + 16) else 0)
theorem foD_at (v i j : Nat) (h : j < 16) : (foD v i)[j]? = some (fE v i j) := by
  unfold foD
  rw [List.getElem?_map, List.getElem?_range h]
  rfl
theorem foD_ext {v i : Nat} {l : List Nat} (h : l.length = 16) (he : ∀ j, j < 16 → l[j]? = some (fE v i j)) : l = foD v i := by
  apply List.ext_getElem?
  intro j
  by_cases hj : j < 16
  · rw [he j hj, foD_at v i j hj]
  · rw [List.getElem?_eq_none (by omega), List.getElem?_eq_none (by rw [foD_length]; omega)]
theorem foD_zero (v : Nat) : foD v 0 = List.replicate 16 0 := by
  refine (foD_ext (by simp) fun j hj => ?_).symm
  rw [List.getElem?_replicate, if_pos hj]
  unfold fE
  rw [if_neg (by omega), if_neg (by omega)]
theorem foD_low (v i : Nat) (h : i < 16) : (foD v i).set i ((foD v i).getD i 0 + dgt v i) = foD v (i + 1) := by
  refine foD_ext (by rw [List.length_set, foD_length]) fun j hj => ?_
  rw [List.getElem?_set, foD_length, foD_at v i j hj, foD_getD v i i h]
  unfold fE
  by_cases hij : i = j
  · subst hij
    rw [if_pos rfl, if_pos hj, if_neg (by omega), if_neg (by omega), if_pos (by omega), if_neg (by omega)]
    congr 1
    omega
  · have h3 : (j < i + 1) = (j < i) := by simp; omega
    rw [if_neg hij, if_neg (show ¬ j + 16 < i by omega), if_neg (show ¬ j + 16 < i + 1 by omega)]
    simp only [h3]
theorem foD_high (v i : Nat) (h : 16 ≤ i) (h2 : i < 32) : (foD v i).set (i - 16) ((foD v i).getD (i - 16) 0 + 38 * dgt v i) = foD v (i + 1) := by
  refine foD_ext (by rw [List.length_set, foD_length]) fun j hj => ?_
  rw [List.getElem?_set, foD_length, foD_at v i j hj, foD_getD v i (i - 16) (by omega)]
  unfold fE
  by_cases hij : i - 16 = j
  · rw [if_pos hij, if_pos (by omega), if_pos (by omega), if_neg (by omega), if_pos (by omega), if_pos (by omega), show j + 16 = i by omega, hij]
    congr 1
  · have h3 : (j + 16 < i + 1) = (j + 16 < i) := by simp; omega
    have h4 : (j < i + 1) = (j < i) := by simp; omega
    rw [if_neg hij]
    simp only [h3, h4]
theorem foD_vl {v K : Nat} (hv : v < 65536 ^ K) (h1 : 16 ≤ K) (h2 : K ≤ 32) : vl (foD v K) = fo v := by
  have e : foD v K = (List.range 16).map fun j => dgt v j + 38 * dgt v (j + 16) := by
    unfold foD
    apply List.map_congr_left
    intro j hj
    have hj' : j < 16 := by simpa using hj
    rw [if_pos (by omega)]
    by_cases h : j + 16 < K
    · rw [if_pos h]
    · have e0 := dgt_over (i := j + 16) hv (by omega)
      rw [if_neg h, e0]
  have e2 : vl ((List.range 16).map fun j => dgt v (j + 16)) = v / 65536 ^ 16 := by
    have e3 : ((List.range 16).map fun j => dgt v (j + 16)) = dgs 16 (v / 65536 ^ 16) := by
      unfold dgs
      exact List.map_congr_left fun j _ => dgt_shift v 16 j
    rw [e3, vl_dgs, Nat.mod_eq_of_lt]
    apply Nat.div_lt_of_lt_mul
    rw [← Nat.pow_add]
    exact Nat.lt_of_lt_of_le hv (Nat.pow_le_pow_right (by decide) (by omega))
  have e4 : vl ((List.range 16).map (dgt v)) = v % 65536 ^ 16 := vl_dgs v 16
  rw [e, vl_map_add, vl_map_mul, e2, e4]
  rfl
theorem foD_le (v i : Nat) : ∀ x ∈ foD v i, x ≤ 2555904 := by
  intro x hx
  obtain ⟨j, _, rfl⟩ := List.mem_map.1 hx
  have h1 := dgt_lt v j
  have h2 := dgt_lt v (j + 16)
  split <;> split <;> omega
/-- 2^255 - 19. -/
def fq : Nat := 57896044618658097711785492504343953926634992332820282019728792003956564819949
theorem fq_16 : 65536 ^ 16 = 2 * fq + 38 := by decide +kernel
theorem fo_mod (v : Nat) : fo v % fq = v % fq := by
  have h := Nat.div_add_mod v (65536 ^ 16)
  have e : v = fo v + fq * (2 * (v / 65536 ^ 16)) := by
    unfold fo
    rw [fq_16] at h ⊢
    generalize v / (2 * fq + 38) = q at h ⊢
    rw [Nat.add_mul] at h
    have e2 : fq * (2 * q) = 2 * fq * q := by rw [← Nat.mul_assoc, Nat.mul_comm fq 2]
    omega
  conv => rhs; rw [e]
  rw [Nat.add_mul_mod_self_left]
theorem fo_le (v : Nat) : fo v ≤ v := by
  have h := Nat.div_add_mod v (65536 ^ 16)
  unfold fo
  have h2 : 38 * (v / 65536 ^ 16) ≤ 65536 ^ 16 * (v / 65536 ^ 16) := Nat.mul_le_mul_right _ (by decide)
  omega
theorem fo_lt {v : Nat} (h : 65536 ^ 16 ≤ v) : fo v + 1000 < v := by
  have h0 := Nat.div_add_mod v (65536 ^ 16)
  have hq : 0 < v / 65536 ^ 16 := Nat.div_pos h (pow_pos' 16)
  unfold fo
  have h2 : 1039 * (v / 65536 ^ 16) ≤ 65536 ^ 16 * (v / 65536 ^ 16) := Nat.mul_le_mul_right _ (by decide)
  omega
theorem fq_digits : dgs 16 fq = [65517, 65535, 65535, 65535, 65535, 65535, 65535, 65535, 65535, 65535, 65535, 65535, 65535, 65535, 65535, 32767] := by decide +kernel
end Go.Proofs.YtoookolekpblhaaDoor
