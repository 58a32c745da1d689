/- Plain mathematics of numbers as bytes. Conditions: none. -/
namespace Go.Proofs.YtgphopahlgfogaaDoor

/-- A number as k bytes, the greatest first. -/
def be : Nat → Nat → List UInt8
  | 0, _ => []
  | k + 1, n => be k (n / 256) ++ [UInt8.ofNat n]
theorem be_length : ∀ k n, (be k n).length = k
  | 0, _ => rfl
  | k + 1, n => by simp [be, be_length k]
/-- The number that bytes say. -/
def nb (xs : List UInt8) : Nat := xs.foldl (fun a x => a * 256 + x.toNat) 0
theorem nb_nil : nb [] = 0 := rfl
theorem nb_snoc (xs : List UInt8) (x : UInt8) : nb (xs ++ [x]) = nb xs * 256 + x.toNat := by simp [nb, List.foldl_append]
theorem nb_take (xs : List UInt8) (k : Nat) (h : k < xs.length) : nb (xs.take (k + 1)) = nb (xs.take k) * 256 + xs[k].toNat := by
  rw [List.take_succ_eq_append_getElem h, nb_snoc]
theorem nb_lt : ∀ (k : Nat) (xs : List UInt8), xs.length = k → nb xs < 256 ^ k := by
  intro k
  induction k with
  | zero => intro xs h; rw [List.eq_nil_of_length_eq_zero h]; simp [nb]
  | succ k ih =>
    intro xs h
    have hne : xs ≠ [] := by intro e; simp [e] at h
    obtain ⟨ys, y, rfl⟩ : ∃ ys y, xs = ys ++ [y] := ⟨_, _, (List.dropLast_concat_getLast hne).symm⟩
    rw [nb_snoc, Nat.pow_succ]
    have := ih ys (by simpa using h)
    have h2 := y.toNat_lt
    omega
theorem u8_ofNat (n : Nat) : (UInt8.ofNat n).toNat = n % 256 := by simp
theorem u8_back (x : UInt8) : UInt8.ofNat x.toNat = x := by simp
theorem nb_be : ∀ k n, nb (be k n) = n % 256 ^ k
  | 0, n => by simp [be, nb, Nat.mod_one]
  | k + 1, n => by
    rw [be, nb_snoc, nb_be k, u8_ofNat, Nat.pow_succ, Nat.mul_comm (256 ^ k) 256, Nat.mod_mul]
    omega
theorem be_get : ∀ k n i, (h : i < k) → (be k n)[i]'(by rw [be_length]; exact h) = UInt8.ofNat (n / 256 ^ (k - 1 - i))
  | 0, _, _, h => absurd h (by omega)
  | k + 1, n, i, h => by
    by_cases e : i = k
    · subst e
      have : (be (i + 1) n)[i]'(by rw [be_length]; exact h) = (be i (n / 256) ++ [UInt8.ofNat n])[i]'(by simp [be_length]) := rfl
      rw [this, List.getElem_append_right (by rw [be_length]; exact Nat.le_refl _)]
      simp [be_length]
    · have hk : i < k := by omega
      have : (be (k + 1) n)[i]'(by rw [be_length]; exact h) = (be k (n / 256) ++ [UInt8.ofNat n])[i]'(by simp [be_length]; omega) := rfl
      rw [this, List.getElem_append_left (by rw [be_length]; exact hk), be_get k (n / 256) i hk, Nat.div_div_eq_div_mul, show k + 1 - 1 - i = (k - 1 - i) + 1 by omega, Nat.pow_succ, Nat.mul_comm 256]

end Go.Proofs.YtgphopahlgfogaaDoor
