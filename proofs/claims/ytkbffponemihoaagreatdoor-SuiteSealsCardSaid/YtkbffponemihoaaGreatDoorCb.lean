/- CBC in plain mathematics: texts filled up, cut into blocks, locked and unlocked. Conditions: none. -/
import Derived.Test.YtkbffponemihoaaGreatDoorCa
namespace Go.Proofs.YtkbffponemihoaaGreatDoor.C
/-- Blocks locked one behind the other. -/
def cbcL (E : State → State) : State → List State → List State
  | _, [] => []
  | v, b :: bs => E (keyS v b) :: cbcL E (E (keyS v b)) bs
def cbcU (D : State → State) : State → List State → List State
  | _, [] => []
  | v, x :: xs => keyS v (D x) :: cbcU D x xs
theorem cbcU_L {E D : State → State} (h : ∀ s, D (E s) = s) : ∀ bs v, cbcU D v (cbcL E v bs) = bs
  | [], _ => rfl
  | b :: bs, v => by rw [cbcL, cbcU, h, key_key, cbcU_L h bs]
theorem cbcL_U {E D : State → State} (h : ∀ s, E (D s) = s) : ∀ xs v, cbcL E v (cbcU D v xs) = xs
  | [], _ => rfl
  | x :: xs, v => by rw [cbcU, cbcL, key_key, h, cbcL_U h xs]
theorem cbcL_length (E : State → State) : ∀ bs v, (cbcL E v bs).length = bs.length
  | [], _ => rfl
  | _ :: bs, _ => by rw [cbcL, List.length_cons, List.length_cons, cbcL_length E bs]
theorem cbcU_length (D : State → State) : ∀ bs v, (cbcU D v bs).length = bs.length
  | [], _ => rfl
  | _ :: bs, _ => by rw [cbcU, List.length_cons, List.length_cons, cbcU_length D bs]
/-- The bytes of a block. -/
def bl (s : State) : List UInt8 := (List.finRange 16).map (show Fin 16 → UInt8 from s)
theorem fn_length (f : Fin 16 → UInt8) : ((List.finRange 16).map f).length = 16 := by simp
theorem fn_get (f : Fin 16 → UInt8) (i : Nat) (h : i < 16) : ((List.finRange 16).map f)[i]? = some (f ⟨i, h⟩) := by
  rw [List.getElem?_map, List.getElem?_eq_getElem (by simpa using h)]
  simp
theorem bl_length (s : State) : (bl s).length = 16 := fn_length s
theorem bl_get (s : State) (i : Nat) (h : i < 16) : (bl s)[i]? = some (s ⟨i, h⟩) := fn_get s i h
/-- The block number k of bytes. -/
def st (l : List UInt8) (k : Nat) : State := fun i => l.getD (16 * k + i.val) 0
def ofB (l : List UInt8) : List State := (List.range (l.length / 16)).map (st l)
def toB (bs : List State) : List UInt8 := bs.flatMap bl
theorem ofB_length (l : List UInt8) : (ofB l).length = l.length / 16 := by simp [ofB]
theorem toB_cons (b : State) (bs : List State) : toB (b :: bs) = bl b ++ toB bs := rfl
theorem toB_length : ∀ bs : List State, (toB bs).length = 16 * bs.length
  | [] => rfl
  | b :: bs => by rw [toB_cons, List.length_append, bl_length, toB_length bs, List.length_cons]; omega
theorem toB_append (as bs : List State) : toB (as ++ bs) = toB as ++ toB bs := by simp [toB]
theorem toB_get : ∀ (bs : List State) (k i : Nat) (_ : k < bs.length) (hi : i < 16), (toB bs)[16 * k + i]? = bs[k]?.map fun s => s ⟨i, hi⟩
  | b :: bs, 0, i, _, hi => by
    rw [toB_cons, Nat.mul_zero, Nat.zero_add, List.getElem?_append_left (by rw [bl_length]; exact hi), bl_get b i hi]
    rfl
  | b :: bs, k + 1, i, hk, hi => by
    rw [toB_cons, List.getElem?_append_right (by rw [bl_length]; omega), bl_length, show 16 * (k + 1) + i - 16 = 16 * k + i by omega, toB_get bs k i (by simpa using hk) hi]
    rfl
theorem st_toB (bs : List State) (k : Nat) (hk : k < bs.length) : some (st (toB bs) k) = bs[k]? := by
  rw [List.getElem?_eq_getElem hk]
  congr 1
  funext i
  unfold st
  rw [List.getD_eq_getElem?_getD, toB_get bs k i.val hk i.isLt, List.getElem?_eq_getElem hk]
  rfl
theorem ofB_toB (bs : List State) : ofB (toB bs) = bs := by
  apply List.ext_getElem?
  intro k
  unfold ofB
  rw [toB_length, Nat.mul_div_cancel_left _ (by decide)]
  by_cases hk : k < bs.length
  · rw [List.getElem?_map, List.getElem?_range hk]
    exact st_toB bs k hk
  · rw [List.getElem?_eq_none (by simp; omega), List.getElem?_eq_none (by omega)]
theorem toB_ofB (l : List UInt8) (h : l.length % 16 = 0) : toB (ofB l) = l := by
  apply List.ext_getElem?
  intro j
  have hl : (toB (ofB l)).length = l.length := by rw [toB_length, ofB_length]; omega
  by_cases hj : j < l.length
  · have hk : j / 16 < (ofB l).length := by rw [ofB_length]; omega
    have h1 := toB_get (ofB l) (j / 16) (j % 16) hk (Nat.mod_lt _ (by decide))
    rw [show 16 * (j / 16) + j % 16 = j by omega] at h1
    rw [h1]
    unfold ofB
    rw [List.getElem?_map, List.getElem?_range (by omega)]
    show some (l.getD (16 * (j / 16) + j % 16) 0) = l[j]?
    rw [show 16 * (j / 16) + j % 16 = j by omega, List.getD_eq_getElem?_getD, List.getElem?_eq_getElem hj]
    rfl
  · rw [List.getElem?_eq_none (by omega), List.getElem?_eq_none (by omega)]
/-- How many bytes fill a text up. -/
def padN (t : List UInt8) : Nat := 16 - t.length % 16
theorem padN_le (t : List UInt8) : 1 ≤ padN t ∧ padN t ≤ 16 := by unfold padN; omega
def fillB (t : List UInt8) : List UInt8 := t ++ List.replicate (padN t) (UInt8.ofNat (padN t))
theorem fillB_length (t : List UInt8) : (fillB t).length = (t.length / 16 + 1) * 16 := by
  unfold fillB padN
  rw [List.length_append, List.length_replicate]
  omega
/-- The text that is filled up so; or none. -/
def unfill (l : List UInt8) : Option (List UInt8) :=
  if 1 ≤ (l.getD (l.length - 1) 0).toNat ∧ (l.getD (l.length - 1) 0).toNat ≤ 16 ∧ (l.getD (l.length - 1) 0).toNat ≤ l.length ∧ l.drop (l.length - (l.getD (l.length - 1) 0).toNat) = List.replicate (l.getD (l.length - 1) 0).toNat (l.getD (l.length - 1) 0)
  then some (l.take (l.length - (l.getD (l.length - 1) 0).toNat)) else none
theorem unfill_fill (t : List UInt8) : unfill (fillB t) = some t := by
  have hn := padN_le t
  obtain ⟨n, hne⟩ : ∃ n, n = padN t := ⟨_, rfl⟩
  rw [← hne] at hn
  have hl : (fillB t).length = t.length + n := by unfold fillB; rw [List.length_append, List.length_replicate, hne]
  have hlast : (fillB t).getD ((fillB t).length - 1) 0 = UInt8.ofNat n := by
    rw [hl, List.getD_eq_getElem?_getD]
    unfold fillB
    rw [List.getElem?_append_right (by omega), ← hne, List.getElem?_replicate, if_pos (by omega)]
    rfl
  have hnn : (UInt8.ofNat n).toNat = n := by rw [UInt8.toNat_ofNat', Nat.mod_eq_of_lt (by omega)]
  have hd : (fillB t).drop ((fillB t).length - n) = List.replicate n (UInt8.ofNat n) := by
    rw [hl, Nat.add_sub_cancel]
    unfold fillB
    rw [List.drop_left, ← hne]
  unfold unfill
  rw [hlast, hnn, if_pos ⟨hn.1, hn.2, by omega, hd⟩, hl, Nat.add_sub_cancel]
  unfold fillB
  rw [List.take_left]
theorem fill_unfill (l s : List UInt8) (h16 : l.length % 16 = 0) (h : unfill l = some s) : fillB s = l := by
  unfold unfill at h
  obtain ⟨x, hx⟩ : ∃ x, x = l.getD (l.length - 1) 0 := ⟨_, rfl⟩
  rw [← hx] at h
  split at h
  · rename_i hc
    obtain ⟨h1, h2, h3, h4⟩ := hc
    injection h with h
    have hs : s.length = l.length - x.toNat := by rw [← h, List.length_take]; omega
    have hp : padN s = x.toNat := by unfold padN; rw [hs]; omega
    unfold fillB
    rw [hp, UInt8.ofNat_toNat, ← h4, ← h, List.take_append_drop]
  · cases h
/-- A text, locked. -/
def lockB (key : List Nat) (v : State) (t : List UInt8) : List UInt8 := toB (cbcL (aesLock key) v (ofB (fillB t)))
def unlockB (key : List Nat) (v : State) (b : List UInt8) : Option (List UInt8) :=
  if b.length = 0 ∨ b.length % 16 ≠ 0 then none else unfill (toB (cbcU (aesUnlock key) v (ofB b)))
theorem lockB_length (key : List Nat) (v : State) (t : List UInt8) : (lockB key v t).length = (t.length / 16 + 1) * 16 := by
  unfold lockB
  rw [toB_length, cbcL_length, ofB_length, fillB_length]
  omega
theorem unlock_lockB (key : List Nat) (v : State) (t : List UInt8) : unlockB key v (lockB key v t) = some t := by
  unfold unlockB
  rw [if_neg (by rw [lockB_length]; omega)]
  unfold lockB
  rw [ofB_toB, cbcU_L (aes_back key), toB_ofB _ (by rw [fillB_length]; omega), unfill_fill]
theorem lock_unlockB (key : List Nat) (v : State) (b s : List UInt8) (h : unlockB key v b = some s) : lockB key v s = b := by
  unfold unlockB at h
  split at h
  · cases h
  · rename_i hc
    have h16 : b.length % 16 = 0 := by omega
    have hf := fill_unfill _ _ (by rw [toB_length]; omega) h
    unfold lockB
    rw [hf, ofB_toB, cbcL_U (aes_forth key), toB_ofB b h16]
theorem cbcL_snoc (E : State → State) (b : State) : ∀ (as : List State) (v : State), cbcL E v (as ++ [b]) = cbcL E v as ++ [E (keyS ((cbcL E v as).getLastD v) b)]
  | [], _ => rfl
  | a :: as, v => by
    rw [List.cons_append, cbcL, cbcL_snoc E b as, cbcL, List.cons_append, List.getLastD_cons]
theorem cbcU_snoc (D : State → State) (b : State) : ∀ (as : List State) (v : State), cbcU D v (as ++ [b]) = cbcU D v as ++ [keyS (as.getLastD v) (D b)]
  | [], _ => rfl
  | a :: as, v => by
    rw [List.cons_append, cbcU, cbcU_snoc D b as, cbcU, List.cons_append, List.getLastD_cons]
/-- What lies ahead of the block number m, when blocks are locked. -/
def cv (E : State → State) (v : State) (f : Nat → State) : Nat → State
  | 0 => v
  | m + 1 => E (keyS (cv E v f m) (f m))
theorem range_last (v : State) (g : Nat → State) (h : g 0 = v) : ∀ M, ((List.range M).map fun j => g (j + 1)).getLastD v = g M
  | 0 => h.symm
  | M + 1 => by rw [List.range_succ, List.map_append, List.map_singleton, List.getLastD_concat]
theorem cbcL_range (E : State → State) (v : State) (f : Nat → State) : ∀ M, cbcL E v ((List.range M).map f) = (List.range M).map fun j => cv E v f (j + 1)
  | 0 => rfl
  | M + 1 => by
    rw [List.range_succ, List.map_append, List.map_singleton, cbcL_snoc, cbcL_range E v f M, range_last v (cv E v f) rfl M, List.map_append, List.map_singleton]
    rfl
/-- What lies ahead of the block number m, when blocks are unlocked. -/
def uv (v : State) (f : Nat → State) : Nat → State
  | 0 => v
  | m + 1 => f m
theorem cbcU_range (D : State → State) (v : State) (f : Nat → State) : ∀ M, cbcU D v ((List.range M).map f) = (List.range M).map fun j => keyS (uv v f j) (D (f j))
  | 0 => rfl
  | M + 1 => by
    rw [List.range_succ, List.map_append, List.map_singleton, cbcU_snoc, cbcU_range D v f M, List.map_append, List.map_singleton, show (List.range M).map f = (List.range M).map fun j => uv v f (j + 1) from rfl, range_last v (uv v f) rfl M]
theorem toB_range (g : Nat → State) (m : Nat) : toB ((List.range (m + 1)).map g) = toB ((List.range m).map g) ++ bl (g m) := by
  rw [List.range_succ, List.map_append, toB_append, List.map_singleton]
  show _ ++ (bl (g m) ++ []) = _
  rw [List.append_nil]
theorem lockB_range (key : List Nat) (v : State) (t : List UInt8) : lockB key v t = toB ((List.range (t.length / 16 + 1)).map fun j => cv (aesLock key) v (st (fillB t)) (j + 1)) := by
  unfold lockB ofB
  rw [fillB_length, Nat.mul_div_cancel _ (by decide), cbcL_range]
end Go.Proofs.YtkbffponemihoaaGreatDoor.C
