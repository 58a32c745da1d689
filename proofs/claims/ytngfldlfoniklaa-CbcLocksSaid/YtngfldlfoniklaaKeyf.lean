/- The bytes of the round keys, one behind the other: how each comes of those ahead of it. Conditions: the key has 32 bytes. -/
import Derived.Test.YtngfldlfoniklaaCod2
namespace Go.Proofs.Ytngfldlfoniklaa
/-- A key's bytes as numbers. -/
def kn (ks : List UInt8) : List Nat := ks.map UInt8.toNat
theorem kn_get (ks : List UInt8) (j : Nat) : (kn ks).getD j 0 = (ks.getD j 0).toNat := by
  unfold kn
  rw [List.getD_eq_getElem?_getD, List.getD_eq_getElem?_getD, List.getElem?_map]
  cases ks[j]? <;> rfl
theorem kn_lt (ks : List UInt8) (j : Nat) : (kn ks).getD j 0 < 256 := by rw [kn_get]; exact UInt8.toNat_lt _
/-- Byte j of the words. -/
def kf (ks : List UInt8) (j : Nat) : UInt8 := UInt8.ofNat (wb (kws (kn ks) 60) (j / 4) (j % 4))
theorem wb_lt (ks : List UInt8) (n r : Nat) : wb (kws (kn ks) 60) n r < 256 := kws_lt _ (kn_lt ks) 60 (by omega) n r
theorem rk_kf (ks : List UInt8) (n : Nat) (i : Fin 16) : rk (kws (kn ks) 60) n i = kf ks (16 * n + i.val) := by
  unfold rk kf
  rw [show (16 * n + i.val) / 4 = 4 * n + i.val / 4 by omega, show (16 * n + i.val) % 4 = i.val % 4 by omega]
theorem kf_first (ks : List UInt8) (j : Nat) (h : j < 32) : kf ks j = ks.getD j 0 := by
  unfold kf
  rw [wb_kws _ 60 _ _ (by omega)]
  have h8 : j / 4 < 8 := by omega
  unfold nw
  rw [if_pos h8]
  have e : ∀ k, k < 4 → ([(kn ks).getD (4 * (j / 4)) 0, (kn ks).getD (4 * (j / 4) + 1) 0, (kn ks).getD (4 * (j / 4) + 2) 0, (kn ks).getD (4 * (j / 4) + 3) 0] : List Nat).getD k 0 = (kn ks).getD (4 * (j / 4) + k) 0 := fun k hk => by
    obtain rfl | rfl | rfl | rfl : k = 0 ∨ k = 1 ∨ k = 2 ∨ k = 3 := by omega
    all_goals rfl
  rw [e _ (Nat.mod_lt _ (by omega)), show 4 * (j / 4) + j % 4 = j by omega, kn_get, UInt8.ofNat_toNat]
theorem ofNat_xor (a b : Nat) (ha : a < 256) (hb : b < 256) : UInt8.ofNat (a ^^^ b) = UInt8.ofNat a ^^^ UInt8.ofNat b := by
  apply UInt8.toNat_inj.1
  rw [UInt8.toNat_xor, UInt8.toNat_ofNat', UInt8.toNat_ofNat', UInt8.toNat_ofNat', Nat.mod_eq_of_lt ha, Nat.mod_eq_of_lt hb, Nat.mod_eq_of_lt (xor_lt _ _ ha hb)]
theorem sb_ofNat (n : Nat) (h : n < 256) : UInt8.ofNat (sbox n) = sb (UInt8.ofNat n) := by
  unfold sb
  rw [UInt8.toNat_ofNat', Nat.mod_eq_of_lt h]
/-- x to the q. -/
def pwb (q : Nat) : UInt8 := UInt8.ofNat (pw q)
theorem pwb_zero : pwb 0 = 1 := rfl
theorem pwb_next : ∀ q, q < 7 → xt (pwb q) = pwb (q + 1) := by decide +kernel
/-- What the word ahead of word i is turned into. -/
def kt (ks : List UInt8) (i k : Nat) : UInt8 :=
  if i % 8 = 0 then (if k = 0 then sb (kf ks (4 * (i - 1) + 1)) ^^^ pwb (i / 8 - 1) else sb (kf ks (4 * (i - 1) + (k + 1) % 4)))
  else if i % 8 = 4 then sb (kf ks (4 * (i - 1) + k)) else kf ks (4 * (i - 1) + k)
theorem wb_old (key : List Nat) (i j r : Nat) (h : j < i) (hi : i ≤ 60) : wb (kws key i) j r = wb (kws key 60) j r := by
  unfold wb
  have := kws_old key i j h (60 - i)
  rw [show i + (60 - i) = 60 by omega] at this
  rw [this]
theorem kf_word (ks : List UInt8) (n k : Nat) (hk : k < 4) : kf ks (4 * n + k) = UInt8.ofNat (wb (kws (kn ks) 60) n k) := by
  unfold kf
  rw [show (4 * n + k) / 4 = n by omega, show (4 * n + k) % 4 = k by omega]
theorem kt_tw (ks : List UInt8) (i k : Nat) (h8 : 8 ≤ i) (hi : i < 60) (hk : k < 4) : UInt8.ofNat (tw (kws (kn ks) i) i k) = kt ks i k ∧ tw (kws (kn ks) i) i k < 256 := by
  unfold tw kt
  have o : ∀ r, wb (kws (kn ks) i) (i - 1) r = wb (kws (kn ks) 60) (i - 1) r := fun r => wb_old _ _ _ _ (by omega) (by omega)
  simp only [o]
  have w1 := wb_lt ks (i - 1) 1
  have w2 := wb_lt ks (i - 1) ((k + 1) % 4)
  have w3 := wb_lt ks (i - 1) k
  split
  · split
    · rw [ofNat_xor _ _ (sbox_lt _ w1) (pw_lt _ (by omega)), sb_ofNat _ w1, kf_word ks _ 1 (by omega)]
      exact ⟨rfl, xor_lt _ _ (sbox_lt _ w1) (pw_lt _ (by omega))⟩
    · rw [sb_ofNat _ w2, kf_word ks _ _ (Nat.mod_lt _ (by omega))]
      exact ⟨rfl, sbox_lt _ w2⟩
  · split
    · rw [sb_ofNat _ w3, kf_word ks _ _ hk]
      exact ⟨rfl, sbox_lt _ w3⟩
    · rw [kf_word ks _ _ hk]
      exact ⟨rfl, w3⟩
theorem kf_next (ks : List UInt8) (i k : Nat) (h8 : 8 ≤ i) (hi : i < 60) (hk : k < 4) : kf ks (4 * i + k) = kf ks (4 * i + k - 32) ^^^ kt ks i k := by
  obtain ⟨h1, h2⟩ := kt_tw ks i k h8 hi hk
  rw [← h1, show 4 * i + k - 32 = 4 * (i - 8) + k by omega, kf_word ks _ _ hk, kf_word ks _ _ hk, wb_kws _ 60 i k (by omega), UInt8.xor_comm, ← ofNat_xor _ _ h2 (wb_lt _ _ _), ← wb_old _ i (i - 8) k (by omega) (by omega)]
  unfold nw
  rw [if_neg (by omega)]
  congr 1
  obtain rfl | rfl | rfl | rfl : k = 0 ∨ k = 1 ∨ k = 2 ∨ k = 3 := by omega
  all_goals rfl
end Go.Proofs.Ytngfldlfoniklaa
