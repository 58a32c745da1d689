/- The numbers modulo 2^255 - 19, in plain mathematics: that it is a prime (Fermat, Pocklington), inverses, roots. Conditions: none. -/
namespace Go.Proofs.YtoookolekpblhaaDoor
/-- A prime number. -/
def Pr (n : Nat) : Prop := 2 ≤ n ∧ ∀ d, d ∣ n → d = 1 ∨ d = n
def ch : Nat → Nat → Nat
  | _, 0 => 1
  | 0, _ + 1 => 0
  | n + 1, k + 1 => ch n k + ch n (k + 1)
theorem ch_zero (n : Nat) : ch n 0 = 1 := by cases n <;> rfl
theorem ch_over : ∀ n k, n < k → ch n k = 0
  | 0, k + 1, _ => rfl
  | n + 1, k + 1, h => by
    show ch n k + ch n (k + 1) = 0
    rw [ch_over n k (by omega), ch_over n (k + 1) (by omega)]
theorem ch_self : ∀ n, ch n n = 1
  | 0 => rfl
  | n + 1 => by
    show ch n n + ch n (n + 1) = 1
    rw [ch_self n, ch_over n (n + 1) (by omega)]
theorem absorb : ∀ n k, (k + 1) * ch (n + 1) (k + 1) = (n + 1) * ch n k
  | 0, 0 => rfl
  | 0, k + 1 => by
    rw [ch_over 1 (k + 1 + 1) (by omega), ch_over 0 (k + 1) (by omega)]
    rfl
  | n + 1, 0 => by
    have h : ch (n + 1) 1 = n + 1 := by simpa [ch_zero] using absorb n 0
    show 1 * (ch (n + 1) 0 + ch (n + 1) 1) = (n + 1 + 1) * ch (n + 1) 0
    rw [ch_zero, h]
    omega
  | n + 1, k + 1 => by
    have h1 := absorb n k
    have h2 := absorb n (k + 1)
    show (k + 1 + 1) * (ch (n + 1) (k + 1) + ch (n + 1) (k + 1 + 1)) = (n + 1 + 1) * ch (n + 1) (k + 1)
    have h3 : ch (n + 1) (k + 1) = ch n k + ch n (k + 1) := rfl
    grind
/-- The first m terms of the binomial sum. -/
def tm (x n : Nat) : Nat → Nat
  | 0 => 0
  | m + 1 => tm x n m + ch n m * x ^ m
theorem tm_step (x n : Nat) : ∀ m, tm x (n + 1) (m + 1) = tm x n (m + 1) + x * tm x n m
  | 0 => by simp [tm, ch_zero]
  | m + 1 => by
    have h := tm_step x n m
    have e1 : tm x (n + 1) (m + 1 + 1) = tm x (n + 1) (m + 1) + ch (n + 1) (m + 1) * x ^ (m + 1) := rfl
    have e2 : tm x n (m + 1 + 1) = tm x n (m + 1) + ch n (m + 1) * x ^ (m + 1) := rfl
    have e3 : tm x n (m + 1) = tm x n m + ch n m * x ^ m := rfl
    have e4 : ch (n + 1) (m + 1) = ch n m + ch n (m + 1) := rfl
    rw [e1, h, e2, e4, Nat.pow_succ]
    grind
theorem binom (x : Nat) : ∀ n, (x + 1) ^ n = tm x n (n + 1)
  | 0 => by simp [tm, ch_zero]
  | n + 1 => by
    have e : tm x n (n + 1 + 1) = tm x n (n + 1) := by
      show tm x n (n + 1) + ch n (n + 1) * x ^ (n + 1) = _
      rw [ch_over n (n + 1) (by omega)]
      omega
    rw [tm_step, e, Nat.pow_succ, binom x n]
    grind
theorem Pr.ch {r : Nat} (h : Pr r) (k : Nat) (h0 : 0 < k) (h1 : k < r) : r ∣ ch r k := by
  obtain ⟨n, rfl⟩ : ∃ n, r = n + 1 := ⟨r - 1, by omega⟩
  obtain ⟨j, rfl⟩ : ∃ j, k = j + 1 := ⟨k - 1, by omega⟩
  have hd : n + 1 ∣ (j + 1) * Go.Proofs.YtoookolekpblhaaDoor.ch (n + 1) (j + 1) := ⟨_, absorb n j⟩
  refine Nat.Coprime.dvd_of_dvd_mul_left ?_ hd
  rcases h.2 _ (Nat.gcd_dvd_left (n + 1) (j + 1)) with e | e
  · exact e
  · have := Nat.le_of_dvd (by omega) (Nat.gcd_dvd_right (n + 1) (j + 1))
    omega
theorem Pr.coprime {r : Nat} (h : Pr r) {a : Nat} (ha : ¬ r ∣ a) : Nat.Coprime r a := by
  rcases h.2 _ (Nat.gcd_dvd_left r a) with e | e
  · exact e
  · exact absurd (e ▸ Nat.gcd_dvd_right r a) ha
theorem Pr.or {r : Nat} (h : Pr r) {a b : Nat} (hab : r ∣ a * b) : r ∣ a ∨ r ∣ b := by
  by_cases ha : r ∣ a
  · exact .inl ha
  · exact .inr ((h.coprime ha).dvd_of_dvd_mul_left hab)
theorem tm_mod {r : Nat} (h : Pr r) (x : Nat) : ∀ m, m < r → tm x r (m + 1) % r = 1 % r
  | 0, _ => by simp [tm, ch_zero]
  | m + 1, hm => by
    show (tm x r (m + 1) + Go.Proofs.YtoookolekpblhaaDoor.ch r (m + 1) * x ^ (m + 1)) % r = 1 % r
    rw [Nat.add_mod, tm_mod h x m (by omega), Nat.mod_eq_zero_of_dvd (Nat.dvd_trans (h.ch (m + 1) (by omega) hm) (Nat.dvd_mul_right _ _))]
    simp
theorem dream {r : Nat} (h : Pr r) (x : Nat) : (x + 1) ^ r % r = (x ^ r + 1) % r := by
  have h2 := h.1
  obtain ⟨m, hm⟩ : ∃ m, r = m + 1 := ⟨r - 1, by omega⟩
  rw [binom]
  show (tm x r r + Go.Proofs.YtoookolekpblhaaDoor.ch r r * x ^ r) % r = _
  rw [ch_self, Nat.add_mod]
  have := tm_mod h x m (by omega)
  rw [← hm] at this
  rw [this, Nat.add_mod (x ^ r) 1, Nat.one_mul, Nat.add_comm]
theorem fermat' {r : Nat} (h : Pr r) : ∀ x : Nat, x ^ r % r = x % r
  | 0 => by rw [Nat.zero_pow (by have := h.1; omega)]
  | x + 1 => by rw [dream h, Nat.add_mod, fermat' h x, ← Nat.add_mod]
theorem fermat {r : Nat} (h : Pr r) {x : Nat} (hx : ¬ r ∣ x) : x ^ (r - 1) % r = 1 := by
  have h2 := h.1
  have hp : 0 < x := Nat.pos_of_ne_zero fun e => hx (e ▸ Nat.dvd_zero r)
  have h1 : 1 ≤ x ^ (r - 1) := Nat.pow_pos hp
  have hm := fermat' h x
  have e : x ^ r = x * x ^ (r - 1) := by
    rw [Nat.mul_comm, ← Nat.pow_succ]
    congr 1
    omega
  have hd : r ∣ x * (x ^ (r - 1) - 1) := by
    rw [Nat.mul_sub, ← e, Nat.mul_one]
    exact Nat.dvd_of_mod_eq_zero (Nat.sub_mod_eq_zero_of_mod_eq hm)
  rcases h.or hd with h3 | ⟨c, hc⟩
  · exact absurd h3 hx
  · have : x ^ (r - 1) = r * c + 1 := by omega
    rw [this, Nat.mul_add_mod, Nat.mod_eq_of_lt (by omega)]
/-- Two powers that are 1: so is the power of the greatest common part. -/
theorem order_gcd {r b : Nat} (h1 : 1 < r) : ∀ m n : Nat, b ^ m % r = 1 → b ^ n % r = 1 → b ^ Nat.gcd m n % r = 1 := fun m n =>
  Nat.gcd.induction (P := fun m n => b ^ m % r = 1 → b ^ n % r = 1 → b ^ Nat.gcd m n % r = 1) m n
    (fun n _ hn => by rwa [Nat.gcd_zero_left])
    (fun m n hm ih h2 h3 => by
      rw [Nat.gcd_rec]
      refine ih ?_ h2
      have e : b ^ n = (b ^ m) ^ (n / m) * b ^ (n % m) := by
        rw [← Nat.pow_mul, ← Nat.pow_add, Nat.div_add_mod]
      rw [e, Nat.mul_mod, Nat.pow_mod, h2, Nat.one_pow, Nat.mod_eq_of_lt h1, Nat.one_mul, Nat.mod_mod] at h3
      exact h3)
/-- A number that is no prime has a prime divisor whose square is no greater. -/
theorem has_prime : ∀ n : Nat, 2 ≤ n → ∃ r, Pr r ∧ r ∣ n := fun n => by
  induction n using Nat.strongRecOn with
  | ind n ih =>
    intro h2
    by_cases h : Pr n
    · exact ⟨n, h, Nat.dvd_refl n⟩
    · have : ∃ d, d ∣ n ∧ d ≠ 1 ∧ d ≠ n := by
        refine Classical.byContradiction fun hc => h ⟨h2, fun d hd => ?_⟩
        by_cases e1 : d = 1
        · exact .inl e1
        · by_cases e2 : d = n
          · exact .inr e2
          · exact absurd ⟨d, hd, e1, e2⟩ hc
      obtain ⟨d, hd, e1, e2⟩ := this
      have hle := Nat.le_of_dvd (by omega) hd
      have h0 : d ≠ 0 := fun e => by
        rw [e] at hd
        have := Nat.eq_zero_of_zero_dvd hd
        omega
      obtain ⟨r, hr, hrd⟩ := ih d (by omega) (by omega)
      exact ⟨r, hr, Nat.dvd_trans hrd hd⟩
theorem small_prime {n : Nat} (h2 : 2 ≤ n) (h : ∀ r, Pr r → r ∣ n → r * r ≤ n → False) : Pr n := by
  refine ⟨h2, fun d hd => ?_⟩
  obtain ⟨c, hc⟩ := hd
  by_cases e1 : d = 1
  · exact .inl e1
  by_cases e2 : c = 1
  · exact .inr (by rw [hc, e2, Nat.mul_one])
  exfalso
  have d0 : d ≠ 0 := fun e => by rw [e, Nat.zero_mul] at hc; omega
  have c0 : c ≠ 0 := fun e => by rw [e, Nat.mul_zero] at hc; omega
  rcases Nat.le_total d c with hle | hle
  · obtain ⟨r, hr, hrd⟩ := has_prime d (by omega)
    have h3 := Nat.le_of_dvd (by omega) hrd
    refine h r hr (Nat.dvd_trans hrd ⟨c, hc⟩) ?_
    rw [hc]
    exact Nat.mul_le_mul h3 (Nat.le_trans h3 hle)
  · obtain ⟨r, hr, hrd⟩ := has_prime c (by omega)
    have h3 := Nat.le_of_dvd (by omega) hrd
    refine h r hr (Nat.dvd_trans hrd ⟨d, by rw [hc, Nat.mul_comm]⟩) ?_
    rw [hc]
    exact Nat.mul_le_mul (Nat.le_trans h3 hle) h3
/-- A power modulo n, by squaring. -/
def pw (n : Nat) : Nat → Nat → Nat → Nat
  | 0, _, _ => 1 % n
  | f + 1, b, e => if e % 2 = 1 then b * pw n f (b * b % n) (e / 2) % n else pw n f (b * b % n) (e / 2)
theorem pw_is (n : Nat) : ∀ f b e, e < 2 ^ f → pw n f b e = b ^ e % n
  | 0, b, e, h => by
    have : e = 0 := by simpa using h
    rw [this]
    rfl
  | f + 1, b, e, h => by
    have ih := pw_is n f (b * b % n) (e / 2) (by rw [Nat.pow_succ] at h; omega)
    have e2 : (b * b) ^ (e / 2) = b ^ (2 * (e / 2)) := by rw [Nat.pow_mul, Nat.pow_two]
    show (if e % 2 = 1 then b * pw n f (b * b % n) (e / 2) % n else pw n f (b * b % n) (e / 2)) = _
    rw [ih, ← Nat.pow_mod, e2]
    split
    · rw [Nat.mul_mod, Nat.mod_mod, ← Nat.mul_mod]
      have : e = 2 * (e / 2) + 1 := by omega
      conv => rhs; rw [this, Nat.pow_succ, Nat.mul_comm]
    · have : e = 2 * (e / 2) := by omega
      conv => rhs; rw [this]
/-- Pocklington: q is a prime, n - 1 is m times q, a to (n - 1) is 1, a to m less 1 has nothing in common with n; and no 1 + kq up to the root divides n. -/
theorem pock {n q m a K : Nat} (hq : Pr q) (hn : 2 ≤ n) (hm : n - 1 = m * q) (h1 : a ^ (n - 1) % n = 1) (h2 : Nat.gcd n (a ^ m % n + (n - 1)) = 1)
    (hK : n < (1 + K * q) * (1 + K * q)) (hk : ∀ k, k < K → k ≠ 0 → n % (1 + k * q) ≠ 0) : Pr n := by
  refine small_prime hn fun r hr hrn hle => ?_
  have hr2 := hr.1
  have hd1 : (a ^ m) ^ q % r = 1 := by
    rw [← Nat.pow_mul, ← hm]
    have h3 : a ^ (n - 1) % n % r = 1 % r := by rw [h1]
    rwa [Nat.mod_mod_of_dvd _ hrn, Nat.mod_eq_of_lt (a := 1) (by omega)] at h3
  have hne : (a ^ m) % r ≠ 1 := fun e => by
    have h3 : r ∣ a ^ m % n + (n - 1) := by
      refine Nat.dvd_of_mod_eq_zero ?_
      rw [Nat.add_mod, Nat.mod_mod_of_dvd _ hrn, e]
      obtain ⟨c, hc⟩ := hrn
      have hc0 : c ≠ 0 := fun e => by rw [e, Nat.mul_zero] at hc; omega
      obtain ⟨c', rfl⟩ : ∃ c', c = c' + 1 := ⟨c - 1, by omega⟩
      have : n - 1 = r * c' + (r - 1) := by rw [hc, Nat.mul_add]; omega
      rw [this, Nat.mul_add_mod, Nat.mod_eq_of_lt (a := r - 1) (by omega)]
      have : 1 + (r - 1) = r := by omega
      rw [this, Nat.mod_self]
    have h4 := Nat.dvd_gcd hrn h3
    rw [h2] at h4
    have := Nat.le_of_dvd (by omega) h4
    omega
  have hra : ¬ r ∣ a ^ m := fun hd => by
    have hq2 := hq.1
    have h3 : r ∣ (a ^ m) ^ q := Nat.dvd_trans hd (by obtain ⟨j, hj⟩ : ∃ j, q = j + 1 := ⟨q - 1, by omega⟩; rw [hj, Nat.pow_succ]; exact Nat.dvd_mul_left _ _)
    rw [Nat.mod_eq_zero_of_dvd h3] at hd1
    omega
  have hf := fermat hr hra
  have hg := order_gcd (by omega) q (r - 1) hd1 hf
  have hqr : q ∣ r - 1 := by
    rcases hq.2 _ (Nat.gcd_dvd_left q (r - 1)) with e | e
    · rw [e, Nat.pow_one] at hg
      exact absurd hg hne
    · rw [← e]
      exact Nat.gcd_dvd_right _ _
  obtain ⟨k, hk'⟩ := hqr
  have hrk : r = 1 + k * q := by rw [Nat.mul_comm] at hk'; omega
  by_cases hkK : k < K
  · refine hk k hkK (fun e => ?_) ?_
    · rw [e] at hrk; omega
    · rw [← hrk]
      exact Nat.mod_eq_zero_of_dvd hrn
  · have h5 : 1 + K * q ≤ r := by
      rw [hrk]
      have := Nat.mul_le_mul_right q (Nat.le_of_not_lt hkK)
      omega
    have := Nat.mul_le_mul h5 h5
    omega
theorem pr_991 : Pr 991 := by
  refine ⟨by decide, fun d hd => ?_⟩
  have h1 := Nat.le_of_dvd (by decide) hd
  have h2 : ∀ d : Fin 992, 991 % d.val = 0 → d.val = 1 ∨ d.val = 991 := by decide +kernel
  exact h2 ⟨d, by omega⟩ (Nat.mod_eq_zero_of_dvd hd)
/-- All that pock asks, reckoned. -/
def pockB (n q m a K f : Nat) : Bool :=
  decide (2 ≤ n) && decide (n - 1 = m * q) && decide (n < 2 ^ f) && decide (pw n f a (n - 1) = 1) && decide (Nat.gcd n (pw n f a m + (n - 1)) = 1) && decide (n < (1 + K * q) * (1 + K * q)) &&
    (List.range K).all fun k => decide (k = 0) || decide (n % (1 + k * q) ≠ 0)
theorem pockB_pr {n q m a K f : Nat} (hq : Pr q) (h : pockB n q m a K f = true) : Pr n := by
  unfold pockB at h
  simp only [Bool.and_eq_true, decide_eq_true_eq, List.all_eq_true, Bool.or_eq_true, List.mem_range] at h
  obtain ⟨⟨⟨⟨⟨⟨h1, h2⟩, h3⟩, h4⟩, h5⟩, h6⟩, h7⟩ := h
  have hq2 := hq.1
  have hmn : m < 2 ^ f := by
    have : m ≤ m * q := Nat.le_mul_of_pos_right _ (by omega)
    omega
  rw [pw_is n f a _ (by omega)] at h4
  rw [pw_is n f a _ hmn] at h5
  exact pock hq h1 h2 h4 h5 h6 fun k hk h0 => (h7 k hk).resolve_left h0
theorem pr_0 : Pr 8574133 := pockB_pr (q := 991) (m := 8652) (a := 2) (K := 3) (f := 24) pr_991 (by decide +kernel)
theorem pr_1 : Pr 1919519569386763 := pockB_pr (q := 8574133) (m := 223873314) (a := 2) (K := 6) (f := 51) pr_0 (by decide +kernel)
theorem pr_2 : Pr 75445702479781427272750846543864801 := pockB_pr (q := 1919519569386763) (m := 39304471641247389600) (a := 2) (K := 144) (f := 116) pr_1 (by decide +kernel)
theorem pr_3 : Pr 74058212732561358302231226437062788676166966415465897661863160754340907 := pockB_pr (q := 75445702479781427272750846543864801) (m := 981609426360740691344999861639072106) (a := 2) (K := 4) (f := 236) pr_2 (by decide +kernel)
theorem pr_p : Pr (2 ^ 255 - 19) := pockB_pr (q := 74058212732561358302231226437062788676166966415465897661863160754340907) (m := 781764) (a := 2) (K := 1) (f := 255) pr_3 (by decide +kernel)
/-! ### The numbers modulo p -/
def fp : Nat := 2 ^ 255 - 19
theorem pr_fp : Pr fp := pr_p
theorem fp_big : 1000 < fp := by decide +kernel
theorem fp_odd : fp % 2 = 1 := by decide +kernel
theorem not_dvd {a : Nat} (h0 : a ≠ 0) (h : a < fp) : ¬ fp ∣ a := fun hd => by
  have := Nat.le_of_dvd (by omega) hd
  omega
/-- The product with the inverse is 1. -/
theorem inv_mul {a : Nat} (h0 : a ≠ 0) (h : a < fp) : a * (a ^ (fp - 2) % fp) % fp = 1 := by
  have hb := fp_big
  have hf := fermat pr_fp (not_dvd h0 h)
  rw [Nat.mul_mod, Nat.mod_mod, ← Nat.mul_mod, Nat.mul_comm, ← Nat.pow_succ]
  have : (fp - 2).succ = fp - 1 := by omega
  rwa [this]
/-- There is one inverse. -/
theorem inv_one {a b c : Nat} (hb : b < fp) (hc : c < fp) (h1 : a * b % fp = 1) (h2 : a * c % fp = 1) : b = c := by
  have e : b * (a * c) % fp = c * (a * b) % fp := by
    congr 1
    rw [← Nat.mul_assoc, ← Nat.mul_assoc, Nat.mul_comm b a, Nat.mul_comm c a, Nat.mul_assoc, Nat.mul_assoc, Nat.mul_comm b c]
  rw [Nat.mul_mod, h2, Nat.mul_mod c, h1, Nat.mul_one, Nat.mul_one, Nat.mod_mod, Nat.mod_mod, Nat.mod_eq_of_lt hb, Nat.mod_eq_of_lt hc] at e
  exact e
theorem sq_eq {x y : Nat} (h : x * x % fp = y * y % fp) : x % fp = y % fp ∨ (x + y) % fp = 0 := by
  have key : ∀ x y : Nat, y ≤ x → x * x % fp = y * y % fp → x % fp = y % fp ∨ (x + y) % fp = 0 := fun x y hle h => by
    have hd : fp ∣ (x - y) * (x + y) := by
      obtain ⟨z, rfl⟩ : ∃ z, x = y + z := ⟨x - y, by omega⟩
      have e : (y + z - y) * (y + z + y) = (y + z) * (y + z) - y * y := by
        rw [Nat.add_sub_cancel_left]
        have : (y + z) * (y + z) = y * y + z * (y + z + y) := by grind
        omega
      rw [e]
      exact Nat.dvd_of_mod_eq_zero (Nat.sub_mod_eq_zero_of_mod_eq h)
    rcases pr_fp.or hd with ⟨c, hc⟩ | hd
    · left
      have : x = fp * c + y := by omega
      rw [this, Nat.mul_add_mod]
    · exact .inr (Nat.mod_eq_zero_of_dvd hd)
  rcases Nat.le_total y x with hle | hle
  · exact key x y hle h
  · rcases key y x hle h.symm with e | e
    · exact .inl e.symm
    · rw [Nat.add_comm] at e
      exact .inr e
/-- There is one even root. -/
theorem root_one {r s : Nat} (hr : r < fp) (hs : s < fp) (h : r * r % fp = s * s % fp) (er : r % 2 = 0) (es : s % 2 = 0) : r = s := by
  have ho := fp_odd
  rcases sq_eq h with e | e
  · rwa [Nat.mod_eq_of_lt hr, Nat.mod_eq_of_lt hs] at e
  · obtain ⟨c, hc⟩ := Nat.dvd_of_mod_eq_zero e
    have h2 : c < 2 := by
      refine Classical.byContradiction fun hn => ?_
      have := Nat.mul_le_mul_left fp (show 2 ≤ c by omega)
      omega
    rcases (show c = 0 ∨ c = 1 by omega) with rfl | rfl <;> omega
/-- Euler: a square's power. -/
theorem euler {a r : Nat} (h0 : a ≠ 0) (hr : r * r % fp = a) : a ^ ((fp - 1) / 2) % fp = 1 := by
  have hb := fp_big
  have ho := fp_odd
  have hd : ¬ fp ∣ r := fun hd => h0 (by rw [← hr]; exact Nat.mod_eq_zero_of_dvd (Nat.dvd_trans hd (Nat.dvd_mul_right _ _)))
  rw [← hr, ← Nat.pow_mod, ← Nat.pow_two, ← Nat.pow_mul]
  have : 2 * ((fp - 1) / 2) = fp - 1 := by omega
  rw [this]
  exact fermat pr_fp hd
/-- A root of -1. -/
def im : Nat := pw fp 256 2 ((fp - 1) / 4)
theorem im_is (e : Nat) (he : e = (fp - 1) / 4) : im = 2 ^ e % fp := by
  rw [← pw_is fp 256 2 e (by rw [he]; decide +kernel), he]
  rfl
theorem im_sq : im * im % fp = fp - 1 := by
  decide +kernel
theorem exps : (fp + 3) / 8 * 4 = (fp - 1) / 2 + 2 := by decide +kernel
theorem cand {a : Nat} (h : a < fp) (he : a ^ ((fp - 1) / 2) % fp = 1) :
    (a ^ ((fp + 3) / 8) % fp) * (a ^ ((fp + 3) / 8) % fp) % fp = a ∨ (a ^ ((fp + 3) / 8) % fp * im % fp) * (a ^ ((fp + 3) / 8) % fp * im % fp) % fp = a := by
  obtain ⟨r, hr⟩ : ∃ r, r = a ^ ((fp + 3) / 8) % fp := ⟨_, rfl⟩
  rw [← hr]
  have h4 : (r * r) * (r * r) % fp = a * a % fp := by
    have e : (r * r) * (r * r) = r ^ 4 := by
      rw [show (4 : Nat) = 2 + 2 from rfl, Nat.pow_add, Nat.pow_two]
    rw [e, hr, ← Nat.pow_mod, ← Nat.pow_mul, exps, Nat.pow_add, Nat.mul_mod, he, Nat.one_mul, Nat.mod_mod, Nat.pow_two]
  rcases sq_eq h4 with e | e
  · left
    rwa [Nat.mod_eq_of_lt h] at e
  · right
    have hb := fp_big
    rw [← Nat.mul_mod]
    have e2 : r * im * (r * im) % fp = r * r * (fp - 1) % fp := by
      have : r * im * (r * im) = r * r * (im * im) := by grind
      rw [this, Nat.mul_mod, im_sq, ← Nat.mul_mod_mod]
      simp [Nat.mul_mod]
    rw [e2]
    have e3 : r * r * (fp - 1) + (r * r + a) = fp * (r * r) + a := by
      obtain ⟨m, hm⟩ : ∃ m, fp = m + 1 := ⟨fp - 1, by omega⟩
      rw [hm]
      simp only [Nat.add_sub_cancel]
      grind
    have e4 : (r * r * (fp - 1) + (r * r + a)) % fp = a := by rw [e3, Nat.mul_add_mod, Nat.mod_eq_of_lt h]
    rwa [Nat.add_mod, e, Nat.add_zero, Nat.mod_mod] at e4
/-- The even one of a number and its contrary. -/
def evn (r : Nat) : Nat := if r % 2 = 1 then fp - r else r
theorem evn_even {r : Nat} (h : r < fp) : evn r % 2 = 0 := by
  have := fp_odd
  unfold evn
  split <;> omega
theorem evn_lt {r : Nat} (h : r < fp) : evn r < fp := by
  unfold evn
  split <;> omega
theorem evn_sq {r : Nat} (h : r < fp) : evn r * evn r % fp = r * r % fp := by
  unfold evn
  split
  · obtain ⟨z, hz⟩ : ∃ z, fp = r + z := ⟨fp - r, by omega⟩
    have e1 : fp - r = z := by omega
    rw [e1]
    have e2 : z * z + fp * r = r * r + fp * z := by rw [hz]; grind
    have e3 := congrArg (· % fp) e2
    simpa [Nat.add_mul_mod_self_left] using e3
  · rfl
/-- The document's root of a number below p: the even one, or none. -/
def rootN (a : Nat) : Option Nat :=
  if a ≠ 0 ∧ a ^ ((fp - 1) / 2) % fp ≠ 1 then none
  else if (a ^ ((fp + 3) / 8) % fp) * (a ^ ((fp + 3) / 8) % fp) % fp = a then some (evn (a ^ ((fp + 3) / 8) % fp))
  else some (evn (a ^ ((fp + 3) / 8) % fp * im % fp))
theorem fp_pos : 0 < fp := Nat.lt_trans (by decide) fp_big
theorem rootN_some {a r : Nat} (h : a < fp) (hr : rootN a = some r) : r < fp ∧ r % 2 = 0 ∧ r * r % fp = a := by
  unfold rootN at hr
  split at hr
  · cases hr
  · rename_i hne
    split at hr
    · rename_i e
      obtain rfl := Option.some.inj hr
      have hl := Nat.mod_lt (a ^ ((fp + 3) / 8)) fp_pos
      exact ⟨evn_lt hl, evn_even hl, by rw [evn_sq hl, e]⟩
    · rename_i e
      obtain rfl := Option.some.inj hr
      have hl := Nat.mod_lt (a ^ ((fp + 3) / 8) % fp * im) fp_pos
      refine ⟨evn_lt hl, evn_even hl, ?_⟩
      rw [evn_sq hl]
      by_cases h0 : a = 0
      · exfalso
        apply e
        have : 0 < (fp + 3) / 8 := by have := fp_big; omega
        rw [h0, Nat.zero_pow this]
        simp
      · exact (cand h (Classical.byContradiction fun hc => hne ⟨h0, hc⟩)).resolve_left e
theorem rootN_none {a : Nat} (hr : rootN a = none) (r : Nat) : r * r % fp ≠ a := fun e => by
  unfold rootN at hr
  split at hr
  · rename_i hne
    exact hne.2 (euler hne.1 e)
  · split at hr <;> cases hr
/-- Whatever has the even root's marks is it. -/
theorem rootN_is {a r : Nat} (h : a < fp) (hr : r < fp) (he : r % 2 = 0) (hs : r * r % fp = a) : rootN a = some r := by
  cases e : rootN a with
  | none => exact absurd hs (rootN_none e r)
  | some s =>
    obtain ⟨h1, h2, h3⟩ := rootN_some h e
    rw [root_one h1 hr (h3.trans hs.symm) h2 he]
theorem rootN_square {x : Nat} (h : x < fp) : rootN (x * x % fp) = some (evn x) :=
  rootN_is (Nat.mod_lt _ fp_pos) (evn_lt h) (evn_even h) (evn_sq h)
end Go.Proofs.YtoookolekpblhaaDoor
