/- The words that AES makes of a key, in plain numbers. Conditions: none. -/
import Derived.Test.YtngfldlfoniklaaAesCells
namespace Go.Proofs.Ytngfldlfoniklaa
/-- x to the q, in the field. -/
def pw : Nat → Nat
  | 0 => 1
  | q + 1 => times (pw q) 2
theorem pw_lt : ∀ q, q < 8 → pw q < 256 := by decide +kernel
/-- Byte k of what word i-1 is turned into ahead of word i. -/
def tw (ws : List (List Nat)) (i k : Nat) : Nat :=
  if i % 8 = 0 then (if k = 0 then sbox (wb ws (i - 1) 1) ^^^ pw (i / 8 - 1) else sbox (wb ws (i - 1) ((k + 1) % 4)))
  else if i % 8 = 4 then sbox (wb ws (i - 1) k) else wb ws (i - 1) k
def nw (key : List Nat) (ws : List (List Nat)) (i : Nat) : List Nat :=
  if i < 8 then [key.getD (4 * i) 0, key.getD (4 * i + 1) 0, key.getD (4 * i + 2) 0, key.getD (4 * i + 3) 0]
  else [tw ws i 0 ^^^ wb ws (i - 8) 0, tw ws i 1 ^^^ wb ws (i - 8) 1, tw ws i 2 ^^^ wb ws (i - 8) 2, tw ws i 3 ^^^ wb ws (i - 8) 3]
/-- The i first words. -/
def kws (key : List Nat) : Nat → List (List Nat)
  | 0 => []
  | i + 1 => kws key i ++ [nw key (kws key i) i]
theorem kws_length (key : List Nat) : ∀ i, (kws key i).length = i
  | 0 => rfl
  | i + 1 => by rw [kws, List.length_append, kws_length key i]; rfl
theorem nw_length (key : List Nat) (ws : List (List Nat)) (i : Nat) : (nw key ws i).length = 4 := by
  unfold nw
  split <;> rfl
theorem kws_last (key : List Nat) (i : Nat) : (kws key (i + 1)).getD i [] = nw key (kws key i) i := by
  have hl := kws_length key i
  rw [kws, List.getD_eq_getElem?_getD, List.getElem?_append_right (by omega), hl, Nat.sub_self]
  rfl
theorem kws_old (key : List Nat) (i j : Nat) (h : j < i) : ∀ d, (kws key (i + d)).getD j [] = (kws key i).getD j []
  | 0 => rfl
  | d + 1 => by
    rw [← kws_old key i j h d, ← Nat.add_assoc, kws, List.getD_eq_getElem?_getD, List.getElem?_append_left (by rw [kws_length]; omega), ← List.getD_eq_getElem?_getD]
theorem kws_get (key : List Nat) (n j : Nat) (h : j < n) : (kws key n).getD j [] = nw key (kws key j) j := by
  obtain ⟨d, rfl⟩ : ∃ d, n = j + 1 + d := ⟨n - (j + 1), by omega⟩
  rw [kws_old key (j + 1) j (by omega) d, kws_last]
theorem wb_kws (key : List Nat) (n j k : Nat) (h : j < n) : wb (kws key n) j k = (nw key (kws key j) j).getD k 0 := by
  unfold wb
  rw [kws_get key n j h]
theorem xor_lt (a b : Nat) (ha : a < 256) (hb : b < 256) : a ^^^ b < 256 := Nat.xor_lt_two_pow (n := 8) ha hb
theorem nw_lt (key : List Nat) (hk : ∀ j, key.getD j 0 < 256) (i : Nat) (hi : i < 60) (ws : List (List Nat)) (hw : ∀ n r, wb ws n r < 256) (k : Nat) : (nw key ws i).getD k 0 < 256 := by
  have hs : ∀ n r, sbox (wb ws n r) < 256 := fun n r => sbox_lt _ (hw n r)
  have ht : ∀ k, tw ws i k < 256 := fun k => by
    unfold tw
    split
    · split
      · exact xor_lt _ _ (hs _ _) (pw_lt _ (by omega))
      · exact hs _ _
    · split
      · exact hs _ _
      · exact hw _ _
  unfold nw
  split
  · match k with
    | 0 => exact hk _
    | 1 => exact hk _
    | 2 => exact hk _
    | 3 => exact hk _
    | k + 4 => simp
  · match k with
    | 0 => exact xor_lt _ _ (ht _) (hw _ _)
    | 1 => exact xor_lt _ _ (ht _) (hw _ _)
    | 2 => exact xor_lt _ _ (ht _) (hw _ _)
    | 3 => exact xor_lt _ _ (ht _) (hw _ _)
    | k + 4 => simp
theorem kws_lt (key : List Nat) (hk : ∀ j, key.getD j 0 < 256) : ∀ i, i ≤ 60 → ∀ n r, wb (kws key i) n r < 256
  | 0, _, n, r => by simp [kws, wb]
  | i + 1, hi, n, r => by
    have ih := kws_lt key hk i (by omega)
    rcases Nat.lt_trichotomy n i with h | h | h
    · unfold wb
      rw [kws_old key i n h 1]
      exact ih n r
    · subst h
      unfold wb
      rw [kws_last]
      exact nw_lt key hk n (by omega) _ ih r
    · have e : (kws key (i + 1)).getD n [] = [] := by
        rw [List.getD_eq_getElem?_getD, List.getElem?_eq_none (by rw [kws_length]; omega)]
        rfl
      unfold wb
      rw [e]
      simp
/-- AES: a block, locked and unlocked by a key. -/
def aesLock (key : List Nat) (s : State) : State := lockS (rk (kws key 60)) s
def aesUnlock (key : List Nat) (s : State) : State := unlockS (rk (kws key 60)) s
theorem aes_back (key : List Nat) (s : State) : aesUnlock key (aesLock key s) = s := unlock_lock _ s
theorem aes_forth (key : List Nat) (s : State) : aesLock key (aesUnlock key s) = s := lock_unlock _ s
end Go.Proofs.Ytngfldlfoniklaa
