/- AES as plain mathematics: what stands in no program. Conditions: none. AES as the document's reference reckons it, in plain numbers. Conditions: none. AES with keys of 32 bytes, locked and unlocked, on 16 bytes column by column: unlocking is the contrary of locking. Conditions: none. The state of AES as the reference lays it: row by row, in numbers. Conditions: none. The words that AES makes of a key, in plain numbers. Conditions: none. The document's example of AES, worked out by the kernel round by round. Conditions: none. What the code reckons with: bytes doubled and turned, powers of 3, both tables, columns mixed by their differences. Conditions: none. -/
namespace Go.Proofs.YtkbffponemihoaaGreatDoor.C
/-- x times a byte, in the field. -/
def xt (x : UInt8) : UInt8 := (x <<< (1 : UInt8)) ^^^ ((27 : UInt8) * (x >>> (7 : UInt8)))
theorem u8_all {p : UInt8 → Prop} (h : ∀ n, n < 256 → p (UInt8.ofNat n)) (x : UInt8) : p x := by
  have := h x.toNat x.toNat_lt
  simpa using this
theorem top_bit : ∀ x : UInt8, x >>> (7 : UInt8) = 0 ∨ x >>> (7 : UInt8) = 1 := u8_all (by decide +kernel)
theorem xt_xor (x y : UInt8) : xt (x ^^^ y) = xt x ^^^ xt y := by
  unfold xt
  have h1 : (x ^^^ y) <<< (1 : UInt8) = (x <<< (1 : UInt8)) ^^^ (y <<< (1 : UInt8)) := UInt8.shiftLeft_xor ..
  have h2 : (x ^^^ y) >>> (7 : UInt8) = (x >>> (7 : UInt8)) ^^^ (y >>> (7 : UInt8)) := UInt8.shiftRight_xor ..
  have h3 : (27 : UInt8) * ((x >>> (7 : UInt8)) ^^^ (y >>> (7 : UInt8))) = (27 * (x >>> (7 : UInt8))) ^^^ (27 * (y >>> (7 : UInt8))) := by
    rcases top_bit x with e | e <;> rcases top_bit y with f | f <;> rw [e, f] <;> decide
  rw [h1, h2, h3]
  ac_rfl
def m2 (x : UInt8) : UInt8 := xt x
def m3 (x : UInt8) : UInt8 := xt x ^^^ x
def m9 (x : UInt8) : UInt8 := xt (xt (xt x)) ^^^ x
def m11 (x : UInt8) : UInt8 := xt (xt (xt x)) ^^^ xt x ^^^ x
def m13 (x : UInt8) : UInt8 := xt (xt (xt x)) ^^^ xt (xt x) ^^^ x
def m14 (x : UInt8) : UInt8 := xt (xt (xt x)) ^^^ xt (xt x) ^^^ xt x
theorem m2_xor (x y : UInt8) : m2 (x ^^^ y) = m2 x ^^^ m2 y := xt_xor x y
theorem m3_xor (x y : UInt8) : m3 (x ^^^ y) = m3 x ^^^ m3 y := by unfold m3; rw [xt_xor]; ac_rfl
theorem m9_xor (x y : UInt8) : m9 (x ^^^ y) = m9 x ^^^ m9 y := by unfold m9; simp only [xt_xor]; ac_rfl
theorem m11_xor (x y : UInt8) : m11 (x ^^^ y) = m11 x ^^^ m11 y := by unfold m11; simp only [xt_xor]; ac_rfl
theorem m13_xor (x y : UInt8) : m13 (x ^^^ y) = m13 x ^^^ m13 y := by unfold m13; simp only [xt_xor]; ac_rfl
theorem m14_xor (x y : UInt8) : m14 (x ^^^ y) = m14 x ^^^ m14 y := by unfold m14; simp only [xt_xor]; ac_rfl
def mixA (a b c d : UInt8) : UInt8 := m2 a ^^^ m3 b ^^^ c ^^^ d
def unA (a b c d : UInt8) : UInt8 := m14 a ^^^ m11 b ^^^ m13 c ^^^ m9 d
theorem q1 : ∀ x : UInt8, m14 (m2 x) ^^^ m11 x ^^^ m13 x ^^^ m9 (m3 x) = x := u8_all (by decide +kernel)
theorem q2 : ∀ x : UInt8, m14 (m3 x) ^^^ m11 (m2 x) ^^^ m13 x ^^^ m9 x = 0 := u8_all (by decide +kernel)
theorem q3 : ∀ x : UInt8, m14 x ^^^ m11 (m3 x) ^^^ m13 (m2 x) ^^^ m9 x = 0 := u8_all (by decide +kernel)
theorem q4 : ∀ x : UInt8, m14 x ^^^ m11 x ^^^ m13 (m3 x) ^^^ m9 (m2 x) = 0 := u8_all (by decide +kernel)
theorem un_mix (a b c d : UInt8) : unA (mixA a b c d) (mixA b c d a) (mixA c d a b) (mixA d a b c) = a := by
  unfold unA mixA
  simp only [m14_xor, m11_xor, m13_xor, m9_xor]
  have e : ∀ a1 a2 a3 a4 b1 b2 b3 b4 c1 c2 c3 c4 d1 d2 d3 d4 : UInt8, (a1 ^^^ b1 ^^^ c1 ^^^ d1) ^^^ (b2 ^^^ c2 ^^^ d2 ^^^ a2) ^^^ (c3 ^^^ d3 ^^^ a3 ^^^ b3) ^^^ (d4 ^^^ a4 ^^^ b4 ^^^ c4) = (a1 ^^^ a2 ^^^ a3 ^^^ a4) ^^^ (b1 ^^^ b2 ^^^ b3 ^^^ b4) ^^^ (c1 ^^^ c2 ^^^ c3 ^^^ c4) ^^^ (d1 ^^^ d2 ^^^ d3 ^^^ d4) := by
    intros; ac_rfl
  rw [e, q1, q2, q3, q4]
  simp
theorem p1 : ∀ x : UInt8, m2 (m14 x) ^^^ m3 (m9 x) ^^^ m13 x ^^^ m11 x = x := u8_all (by decide +kernel)
theorem p2 : ∀ x : UInt8, m2 (m11 x) ^^^ m3 (m14 x) ^^^ m9 x ^^^ m13 x = 0 := u8_all (by decide +kernel)
theorem p3 : ∀ x : UInt8, m2 (m13 x) ^^^ m3 (m11 x) ^^^ m14 x ^^^ m9 x = 0 := u8_all (by decide +kernel)
theorem p4 : ∀ x : UInt8, m2 (m9 x) ^^^ m3 (m13 x) ^^^ m11 x ^^^ m14 x = 0 := u8_all (by decide +kernel)
theorem mix_un (a b c d : UInt8) : mixA (unA a b c d) (unA b c d a) (unA c d a b) (unA d a b c) = a := by
  unfold unA mixA
  simp only [m2_xor, m3_xor]
  have e : ∀ a1 a2 a3 a4 b1 b2 b3 b4 c1 c2 c3 c4 d1 d2 d3 d4 : UInt8, (a1 ^^^ b1 ^^^ c1 ^^^ d1) ^^^ (b2 ^^^ c2 ^^^ d2 ^^^ a2) ^^^ (c3 ^^^ d3 ^^^ a3 ^^^ b3) ^^^ (d4 ^^^ a4 ^^^ b4 ^^^ c4) = (a1 ^^^ a2 ^^^ a3 ^^^ a4) ^^^ (b1 ^^^ b2 ^^^ b3 ^^^ b4) ^^^ (c1 ^^^ c2 ^^^ c3 ^^^ c4) ^^^ (d1 ^^^ d2 ^^^ d3 ^^^ d4) := by
    intros; ac_rfl
  rw [e, p1, p2, p3, p4]
  simp
/-- The product, not yet made shorter, by the k lowest bits of b. -/
def tp (a b : Nat) : Nat → Nat
  | 0 => 0
  | k + 1 => if (b >>> k) % 2 = 1 then tp a b k ^^^ (a <<< k) else tp a b k
/-- Made shorter by the k highest bits. -/
def tr (p : Nat) : Nat → Nat
  | 0 => p
  | k + 1 => if (tr p k >>> (14 - k)) % 2 = 1 then tr p k ^^^ (283 <<< (6 - k)) else tr p k
def times (a b : Nat) : Nat := tr (tp a b 8) 7
theorem tp_lt (a b : Nat) (ha : a < 256) : ∀ k, k ≤ 8 → tp a b k < 2 ^ (7 + k)
  | 0, _ => by simp [tp]
  | k + 1, hk => by
    have ih := tp_lt a b ha k (by omega)
    have h1 : tp a b k < 2 ^ (7 + (k + 1)) := Nat.lt_of_lt_of_le ih (Nat.pow_le_pow_right (by omega) (by omega))
    have h2 : a <<< k < 2 ^ (7 + (k + 1)) := by
      rw [Nat.shiftLeft_eq, show 7 + (k + 1) = 8 + k by omega, Nat.pow_add]
      exact Nat.mul_lt_mul_of_pos_right (by omega) (Nat.two_pow_pos k)
    unfold tp
    split
    · exact Nat.xor_lt_two_pow h1 h2
    · exact h1
theorem tr_lt (p : Nat) (hp : p < 2 ^ 15) : ∀ k, k ≤ 7 → tr p k < 2 ^ 15
  | 0, _ => hp
  | k + 1, hk => by
    have ih := tr_lt p hp k (by omega)
    have h2 : 283 <<< (6 - k) < 2 ^ 15 := by
      obtain rfl | rfl | rfl | rfl | rfl | rfl | rfl : k = 0 ∨ k = 1 ∨ k = 2 ∨ k = 3 ∨ k = 4 ∨ k = 5 ∨ k = 6 := by omega
      all_goals decide
    unfold tr
    split
    · exact Nat.xor_lt_two_pow ih h2
    · exact ih
/-- 1, then squared and taken with b, k times. -/
def ci (b : Nat) : Nat → Nat
  | 0 => 1
  | k + 1 => times (times (ci b k) (ci b k)) b
def sx (c i : Nat) : Nat := c >>> i ^^^ c >>> ((i + 4) % 8) ^^^ c >>> ((i + 5) % 8) ^^^ c >>> ((i + 6) % 8) ^^^ c >>> ((i + 7) % 8) ^^^ 99 >>> i
def sv (c : Nat) : Nat → Nat
  | 0 => 0
  | i + 1 => sv c i ||| (sx c i % 2) <<< i
def sbox (b : Nat) : Nat := sv (times (ci b 7) (ci b 7)) 8
def stab : List Nat := (List.range 256).map sbox
theorem sbox_lt : ∀ b, b < 256 → sbox b < 256 := by decide +kernel
theorem times2 : ∀ x, x < 256 → times 2 x = (m2 (UInt8.ofNat x)).toNat := by decide +kernel
theorem times3 : ∀ x, x < 256 → times 3 x = (m3 (UInt8.ofNat x)).toNat := by decide +kernel
theorem ci_lt : ∀ b, b < 256 → ∀ k, k < 8 → ci b k < 256 := by decide +kernel
theorem cc_lt : ∀ b, b < 256 → ∀ k, k < 8 → times (ci b k) (ci b k) < 256 := by decide +kernel
/-- S, on bytes, and its contrary. -/
def sb (x : UInt8) : UInt8 := UInt8.ofNat (sbox x.toNat)
def unsbox (x : Nat) : Nat := ((List.range 256).find? fun b => sbox b == x).getD 0
def usb (x : UInt8) : UInt8 := UInt8.ofNat (unsbox x.toNat)
theorem usb_sb : ∀ x : UInt8, usb (sb x) = x := u8_all (by decide +kernel)
theorem sb_usb : ∀ x : UInt8, sb (usb x) = x := u8_all (by decide +kernel)
/-- A state: 16 bytes by their places. -/
def State := Fin 16 → UInt8
/-- Byte r + 4c of the turned rows comes from byte r + 4((c + r) % 4). -/
def rowFrom (i : Fin 16) : Fin 16 := ⟨(i.val + 4 * (i.val % 4)) % 16, Nat.mod_lt _ (by decide)⟩
def rowTo (i : Fin 16) : Fin 16 := ⟨(i.val + 12 * (i.val % 4)) % 16, Nat.mod_lt _ (by decide)⟩
theorem row_to_from : ∀ i, rowTo (rowFrom i) = i := by decide
theorem row_from_to : ∀ i, rowFrom (rowTo i) = i := by decide
/-- The byte q places below, in its column. -/
def below (q : Nat) (i : Fin 16) : Fin 16 := ⟨i.val / 4 * 4 + (i.val + q) % 4, by omega⟩
def subS (s : State) : State := fun i => sb (s i)
def unsubS (s : State) : State := fun i => usb (s i)
def rowS (s : State) : State := fun i => s (rowFrom i)
def unrowS (s : State) : State := fun i => s (rowTo i)
def mixS (s : State) : State := fun i => mixA (s i) (s (below 1 i)) (s (below 2 i)) (s (below 3 i))
def unmixS (s : State) : State := fun i => unA (s i) (s (below 1 i)) (s (below 2 i)) (s (below 3 i))
def keyS (k s : State) : State := fun i => s i ^^^ k i
theorem below_below : ∀ p, p < 4 → ∀ q, q < 4 → ∀ i, below p (below q i) = below ((p + q) % 4) i := by decide
theorem below_zero : ∀ i, below 0 i = i := by decide
theorem unsub_sub (s : State) : unsubS (subS s) = s := funext fun i => usb_sb (s i)
theorem sub_unsub (s : State) : subS (unsubS s) = s := funext fun i => sb_usb (s i)
theorem unrow_row (s : State) : unrowS (rowS s) = s := funext fun i => congrArg s (row_from_to i)
theorem row_unrow (s : State) : rowS (unrowS s) = s := funext fun i => congrArg s (row_to_from i)
theorem key_key (k s : State) : keyS k (keyS k s) = s := funext fun i => by
  unfold keyS
  rw [UInt8.xor_assoc, UInt8.xor_self, UInt8.xor_zero]
theorem unmix_mix (s : State) : unmixS (mixS s) = s := funext fun i => by
  unfold unmixS mixS
  simp only [below_below 1 (by decide) 1 (by decide), below_below 1 (by decide) 2 (by decide), below_below 1 (by decide) 3 (by decide), below_below 2 (by decide) 1 (by decide), below_below 2 (by decide) 2 (by decide), below_below 2 (by decide) 3 (by decide), below_below 3 (by decide) 1 (by decide), below_below 3 (by decide) 2 (by decide), below_below 3 (by decide) 3 (by decide)]
  simp only [Nat.reduceAdd, Nat.reduceMod, below_zero]
  exact un_mix _ _ _ _
theorem mix_unmix (s : State) : mixS (unmixS s) = s := funext fun i => by
  unfold unmixS mixS
  simp only [below_below 1 (by decide) 1 (by decide), below_below 1 (by decide) 2 (by decide), below_below 1 (by decide) 3 (by decide), below_below 2 (by decide) 1 (by decide), below_below 2 (by decide) 2 (by decide), below_below 2 (by decide) 3 (by decide), below_below 3 (by decide) 1 (by decide), below_below 3 (by decide) 2 (by decide), below_below 3 (by decide) 3 (by decide)]
  simp only [Nat.reduceAdd, Nat.reduceMod, below_zero]
  exact mix_un _ _ _ _
/-- So many whole rounds, with the round keys 1, 2, .. -/
def rounds (k : Nat → State) (s : State) : Nat → State
  | 0 => keyS (k 0) s
  | n + 1 => keyS (k (n + 1)) (mixS (rowS (subS (rounds k s n))))
def lockS (k : Nat → State) (s : State) : State := keyS (k 14) (rowS (subS (rounds k s 13)))
/-- Backwards from behind round n to the block. -/
def unrounds (k : Nat → State) : Nat → State → State
  | 0, s => keyS (k 0) s
  | n + 1, s => unrounds k n (unsubS (unrowS (unmixS (keyS (k (n + 1)) s))))
def unlockS (k : Nat → State) (s : State) : State := unrounds k 13 (unsubS (unrowS (keyS (k 14) s)))
theorem unrounds_rounds (k : Nat → State) (s : State) : ∀ n, unrounds k n (rounds k s n) = s
  | 0 => key_key _ _
  | n + 1 => by rw [rounds, unrounds, key_key, unmix_mix, unrow_row, unsub_sub, unrounds_rounds k s n]
theorem rounds_unrounds (k : Nat → State) : ∀ n s, rounds k (unrounds k n s) n = s
  | 0, s => key_key _ _
  | n + 1, s => by rw [rounds, unrounds, rounds_unrounds k n, sub_unsub, row_unrow, mix_unmix, key_key]
theorem unlock_lock (k : Nat → State) (s : State) : unlockS k (lockS k s) = s := by
  unfold unlockS lockS
  rw [key_key, unrow_row, unsub_sub, unrounds_rounds]
theorem lock_unlock (k : Nat → State) (s : State) : lockS k (unlockS k s) = s := by
  unfold unlockS lockS
  rw [rounds_unrounds, sub_unsub, row_unrow, key_key]
/-- What lies in row r and column k. -/
def at_ (s : State) (r k : Nat) : Nat := (s ⟨(r + 4 * k) % 16, Nat.mod_lt _ (by decide)⟩).toNat
/-- Byte r of word n. -/
def wb (ws : List (List Nat)) (n r : Nat) : Nat := (ws.getD n []).getD r 0
/-- The round key n. -/
def rk (ws : List (List Nat)) (n : Nat) : State := fun i => UInt8.ofNat (wb ws (4 * n + i.val / 4) (i.val % 4))
theorem at_lt (s : State) (r k : Nat) : at_ s r k < 256 := UInt8.toNat_lt _
theorem sb_at (s : State) (r k : Nat) (hr : r < 4) (hk : k < 4) : at_ (rowS (subS s)) r k = sbox (at_ s r ((k + r) % 4)) := by
  have e : ∀ r, r < 4 → ∀ k, k < 4 → rowFrom ⟨(r + 4 * k) % 16, Nat.mod_lt _ (by decide)⟩ = ⟨(r + 4 * ((k + r) % 4)) % 16, Nat.mod_lt _ (by decide)⟩ := by decide
  unfold at_ rowS
  rw [e r hr k hk]
  unfold subS sb
  rw [UInt8.toNat_ofNat', Nat.mod_eq_of_lt]
  exact sbox_lt _ (UInt8.toNat_lt _)
theorem rk_at (ws : List (List Nat)) (n r k : Nat) (hr : r < 4) (hk : k < 4) (hw : wb ws (4 * n + k) r < 256) : at_ (rk ws n) r k = wb ws (4 * n + k) r := by
  unfold at_ rk
  have e1 : (r + 4 * k) % 16 / 4 = k := by omega
  have e2 : (r + 4 * k) % 16 % 4 = r := by omega
  simp only [e1, e2]
  rw [UInt8.toNat_ofNat', Nat.mod_eq_of_lt hw]
theorem key_at (ws : List (List Nat)) (s : State) (n r k : Nat) (hr : r < 4) (hk : k < 4) (hw : wb ws (4 * n + k) r < 256) : at_ (keyS (rk ws n) s) r k = at_ s r k ^^^ wb ws (4 * n + k) r := by
  rw [← rk_at ws n r k hr hk hw]
  exact UInt8.toNat_xor _ _
theorem m2_at (x : UInt8) : (m2 x).toNat = times 2 x.toNat := by rw [times2 _ x.toNat_lt, UInt8.ofNat_toNat]
theorem m3_at (x : UInt8) : (m3 x).toNat = times 3 x.toNat := by rw [times3 _ x.toNat_lt, UInt8.ofNat_toNat]
theorem mix_at (s : State) (r k : Nat) (hr : r < 4) (hk : k < 4) : at_ (mixS s) r k = times 2 (at_ s r k) ^^^ times 3 (at_ s ((r + 1) % 4) k) ^^^ at_ s ((r + 2) % 4) k ^^^ at_ s ((r + 3) % 4) k := by
  have e : ∀ q, q < 4 → ∀ r, r < 4 → ∀ k, k < 4 → below q ⟨(r + 4 * k) % 16, Nat.mod_lt _ (by decide)⟩ = ⟨((r + q) % 4 + 4 * k) % 16, Nat.mod_lt _ (by decide)⟩ := by decide
  unfold at_ mixS
  rw [e 1 (by decide) r hr k hk, e 2 (by decide) r hr k hk, e 3 (by decide) r hr k hk]
  unfold mixA
  rw [UInt8.toNat_xor, UInt8.toNat_xor, UInt8.toNat_xor, m2_at, m3_at]
theorem out_at (s : State) (i : Fin 16) : UInt8.ofNat (at_ s (i.val % 4) (i.val / 4)) = s i := by
  unfold at_
  rw [UInt8.ofNat_toNat]
  congr 1
  apply Fin.ext
  show (i.val % 4 + 4 * (i.val / 4)) % 16 = i.val
  omega
/-- x to the q, in the field. -/
def pw : Nat → Nat
  | 0 => 1
  | q + 1 => times (pw q) 2
theorem pw_lt : ∀ q, q < 8 → pw q < 256 := by decide +kernel
/-- Byte k of what word i-1 is turned into ahead of word i. -/
def tw (ws : List (List Nat)) (i k : Nat) : Nat :=
  if i % 8 = 0 then (if k = 0 then sbox (wb ws (i - 1) 1) ^^^ pw (i / 8 - 1) else sbox (wb ws (i - 1) ((k + 1) % 4)))
  else if i % 8 = 4 then sbox (wb ws (i - 1) k) else wb ws (i - 1) k
def nw (key : List Nat) (ws : List (List Nat)) (i : Nat) : List Nat :=
  if i < 8 then [key.getD (4 * i) 0, key.getD (4 * i + 1) 0, key.getD (4 * i + 2) 0, key.getD (4 * i + 3) 0]
  else [tw ws i 0 ^^^ wb ws (i - 8) 0, tw ws i 1 ^^^ wb ws (i - 8) 1, tw ws i 2 ^^^ wb ws (i - 8) 2, tw ws i 3 ^^^ wb ws (i - 8) 3]
/-- The i first words. -/
def kws (key : List Nat) : Nat → List (List Nat)
  | 0 => []
  | i + 1 => kws key i ++ [nw key (kws key i) i]
theorem kws_length (key : List Nat) : ∀ i, (kws key i).length = i
  | 0 => rfl
  | i + 1 => by rw [kws, List.length_append, kws_length key i]; rfl
theorem nw_length (key : List Nat) (ws : List (List Nat)) (i : Nat) : (nw key ws i).length = 4 := by
  unfold nw
  split <;> rfl
theorem kws_last (key : List Nat) (i : Nat) : (kws key (i + 1)).getD i [] = nw key (kws key i) i := by
  have hl := kws_length key i
  rw [kws, List.getD_eq_getElem?_getD, List.getElem?_append_right (by omega), hl, Nat.sub_self]
  rfl
theorem kws_old (key : List Nat) (i j : Nat) (h : j < i) : ∀ d, (kws key (i + d)).getD j [] = (kws key i).getD j []
  | 0 => rfl
  | d + 1 => by
    rw [← kws_old key i j h d, ← Nat.add_assoc, kws, List.getD_eq_getElem?_getD, List.getElem?_append_left (by rw [kws_length]; omega), ← List.getD_eq_getElem?_getD]
theorem kws_get (key : List Nat) (n j : Nat) (h : j < n) : (kws key n).getD j [] = nw key (kws key j) j := by
  obtain ⟨d, rfl⟩ : ∃ d, n = j + 1 + d := ⟨n - (j + 1), by omega⟩
  rw [kws_old key (j + 1) j (by omega) d, kws_last]
theorem wb_kws (key : List Nat) (n j k : Nat) (h : j < n) : wb (kws key n) j k = (nw key (kws key j) j).getD k 0 := by
  unfold wb
  rw [kws_get key n j h]
theorem xor_lt (a b : Nat) (ha : a < 256) (hb : b < 256) : a ^^^ b < 256 := Nat.xor_lt_two_pow (n := 8) ha hb
theorem nw_lt (key : List Nat) (hk : ∀ j, key.getD j 0 < 256) (i : Nat) (hi : i < 60) (ws : List (List Nat)) (hw : ∀ n r, wb ws n r < 256) (k : Nat) : (nw key ws i).getD k 0 < 256 := by
  have hs : ∀ n r, sbox (wb ws n r) < 256 := fun n r => sbox_lt _ (hw n r)
  have ht : ∀ k, tw ws i k < 256 := fun k => by
    unfold tw
    split
    · split
      · exact xor_lt _ _ (hs _ _) (pw_lt _ (by omega))
      · exact hs _ _
    · split
      · exact hs _ _
      · exact hw _ _
  unfold nw
  split
  · match k with
    | 0 => exact hk _
    | 1 => exact hk _
    | 2 => exact hk _
    | 3 => exact hk _
    | k + 4 => simp
  · match k with
    | 0 => exact xor_lt _ _ (ht _) (hw _ _)
    | 1 => exact xor_lt _ _ (ht _) (hw _ _)
    | 2 => exact xor_lt _ _ (ht _) (hw _ _)
    | 3 => exact xor_lt _ _ (ht _) (hw _ _)
    | k + 4 => simp
theorem kws_lt (key : List Nat) (hk : ∀ j, key.getD j 0 < 256) : ∀ i, i ≤ 60 → ∀ n r, wb (kws key i) n r < 256
  | 0, _, n, r => by simp [kws, wb]
  | i + 1, hi, n, r => by
    have ih := kws_lt key hk i (by omega)
    rcases Nat.lt_trichotomy n i with h | h | h
    · unfold wb
      rw [kws_old key i n h 1]
      exact ih n r
    · subst h
      unfold wb
      rw [kws_last]
      exact nw_lt key hk n (by omega) _ ih r
    · have e : (kws key (i + 1)).getD n [] = [] := by
        rw [List.getD_eq_getElem?_getD, List.getElem?_eq_none (by rw [kws_length]; omega)]
        rfl
      unfold wb
      rw [e]
      simp
/-- AES: a block, locked and unlocked by a key. -/
def aesLock (key : List Nat) (s : State) : State := lockS (rk (kws key 60)) s
def aesUnlock (key : List Nat) (s : State) : State := unlockS (rk (kws key 60)) s
theorem aes_back (key : List Nat) (s : State) : aesUnlock key (aesLock key s) = s := unlock_lock _ s
theorem aes_forth (key : List Nat) (s : State) : aesLock key (aesUnlock key s) = s := lock_unlock _ s
/-- Turned to the right. -/
def ror8 (x : UInt8) (k : Nat) : UInt8 := UInt8.ofNat ((x.toNat <<< (8 - k)) % 256 ||| x.toNat >>> k)
/-- S out of an inverse, k of its turned forms in it. -/
def aff (c : UInt8) : Nat → UInt8
  | 0 => c ^^^ 99
  | k + 1 => aff c k ^^^ ror8 c (k + 4)
/-- The powers of 3. -/
def pws : List Nat := [1, 3, 5, 15, 17, 51, 85, 255, 26, 46, 114, 150, 161, 248, 19, 53, 95, 225, 56, 72, 216, 115, 149, 164, 247, 2, 6, 10, 30, 34, 102, 170, 229, 52, 92, 228, 55, 89, 235, 38, 106, 190, 217, 112, 144, 171, 230, 49, 83, 245, 4, 12, 20, 60, 68, 204, 79, 209, 104, 184, 211, 110, 178, 205, 76, 212, 103, 169, 224, 59, 77, 215, 98, 166, 241, 8, 24, 40, 120, 136, 131, 158, 185, 208, 107, 189, 220, 127, 129, 152, 179, 206, 73, 219, 118, 154, 181, 196, 87, 249, 16, 48, 80, 240, 11, 29, 39, 105, 187, 214, 97, 163, 254, 25, 43, 125, 135, 146, 173, 236, 47, 113, 147, 174, 233, 32, 96, 160, 251, 22, 58, 78, 210, 109, 183, 194, 93, 231, 50, 86, 250, 21, 63, 65, 195, 94, 226, 61, 71, 201, 64, 192, 91, 237, 44, 116, 156, 191, 218, 117, 159, 186, 213, 100, 172, 239, 42, 126, 130, 157, 188, 223, 122, 142, 137, 128, 155, 182, 193, 88, 232, 35, 101, 175, 234, 37, 111, 177, 200, 67, 197, 84, 252, 31, 33, 99, 165, 244, 7, 9, 27, 45, 119, 153, 176, 203, 70, 202, 69, 207, 74, 222, 121, 139, 134, 145, 168, 227, 62, 66, 198, 81, 243, 14, 18, 54, 90, 238, 41, 123, 141, 140, 143, 138, 133, 148, 167, 242, 13, 23, 57, 75, 221, 124, 132, 151, 162, 253, 28, 36, 108, 180, 199, 82, 246, 1]
def pow3 (i : Nat) : UInt8 := UInt8.ofNat (pws.getD i 0)
theorem pow3_next : ∀ i, i < 255 → pow3 (i + 1) = pow3 i ^^^ xt (pow3 i) := by decide +kernel
theorem aff_pow : ∀ i, i < 255 → aff (pow3 (255 - i)) 4 = sb (pow3 i) := by decide +kernel
theorem aff_zero : aff 0 4 = sb 0 := by decide +kernel
/-- The bytes in the order in which they are put into the tables. -/
def elt : Nat → UInt8
  | 0 => 0
  | n + 1 => pow3 n
def tabS : Nat → List UInt8
  | 0 => List.replicate 256 0
  | n + 1 => (tabS n).set (elt n).toNat (sb (elt n))
def tabB : Nat → List UInt8
  | 0 => List.replicate 256 0
  | n + 1 => (tabB n).set (sb (elt n)).toNat (elt n)
theorem tabS_length : ∀ n, (tabS n).length = 256
  | 0 => List.length_replicate
  | n + 1 => by rw [tabS, List.length_set, tabS_length n]
theorem tabB_length : ∀ n, (tabB n).length = 256
  | 0 => List.length_replicate
  | n + 1 => by rw [tabB, List.length_set, tabB_length n]
set_option maxRecDepth 100000 in
theorem tabS_all : ∀ x, x < 256 → (tabS 256).getD x 0 = sb (UInt8.ofNat x) := by decide +kernel
set_option maxRecDepth 100000 in
theorem tabB_all : ∀ x, x < 256 → (tabB 256).getD x 0 = usb (UInt8.ofNat x) := by decide +kernel
theorem tabS_get (x : UInt8) : (tabS 256).getD x.toNat 0 = sb x := by rw [tabS_all _ x.toNat_lt, UInt8.ofNat_toNat]
theorem tabB_get (x : UInt8) : (tabB 256).getD x.toNat 0 = usb x := by rw [tabB_all _ x.toNat_lt, UInt8.ofNat_toNat]
theorem xor_again (a b : UInt8) : a ^^^ (a ^^^ b) = b := by rw [← UInt8.xor_assoc, UInt8.xor_self, UInt8.zero_xor]
theorem mix_by (a b c d : UInt8) : a ^^^ (a ^^^ b ^^^ c ^^^ d ^^^ xt (a ^^^ b)) = mixA a b c d := by
  rw [xt_xor]
  unfold mixA m2 m3
  rw [show a ^^^ b ^^^ c ^^^ d ^^^ (xt a ^^^ xt b) = a ^^^ (b ^^^ c ^^^ d ^^^ (xt a ^^^ xt b)) by ac_rfl, xor_again]
  ac_rfl
theorem mix_by1 (a b c d : UInt8) : b ^^^ (a ^^^ b ^^^ c ^^^ d ^^^ xt (b ^^^ c)) = mixA b c d a := by
  rw [← mix_by]; congr 2; ac_rfl
theorem mix_by2 (a b c d : UInt8) : c ^^^ (a ^^^ b ^^^ c ^^^ d ^^^ xt (c ^^^ d)) = mixA c d a b := by
  rw [← mix_by]; congr 2; ac_rfl
theorem mix_by3 (a b c d : UInt8) : d ^^^ (a ^^^ b ^^^ c ^^^ d ^^^ xt (d ^^^ a)) = mixA d a b c := by
  rw [← mix_by]; congr 2; ac_rfl
/-- What unmix makes of a byte and of the one two below it, ahead of mix. -/
def half (a c : UInt8) : UInt8 := a ^^^ xt (xt (a ^^^ c))
theorem h1 : ∀ x : UInt8, m2 (x ^^^ xt (xt x)) ^^^ xt (xt x) = m14 x := u8_all (by decide +kernel)
theorem h2 : ∀ x : UInt8, m3 (x ^^^ xt (xt x)) ^^^ xt (xt x) = m11 x := u8_all (by decide +kernel)
theorem h3 : ∀ x : UInt8, m2 (xt (xt x)) ^^^ (x ^^^ xt (xt x)) = m13 x := u8_all (by decide +kernel)
theorem h4 : ∀ x : UInt8, m3 (xt (xt x)) ^^^ (x ^^^ xt (xt x)) = m9 x := u8_all (by decide +kernel)
theorem unmix_by (a b c d : UInt8) : mixA (half a c) (half b d) (half c a) (half d b) = unA a b c d := by
  unfold unA
  rw [← h1 a, ← h2 b, ← h3 c, ← h4 d]
  unfold mixA half
  simp only [xt_xor, m2_xor, m3_xor]
  ac_rfl
end Go.Proofs.YtkbffponemihoaaGreatDoor.C
