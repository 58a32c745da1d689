/- The state of AES as the reference lays it: row by row, in numbers. Conditions: none. -/
import Derived.Test.YtngfldlfoniklaaAesPlain
namespace Go.Proofs.Ytngfldlfoniklaa
/-- What lies in row r and column k. -/
def at_ (s : State) (r k : Nat) : Nat := (s ⟨(r + 4 * k) % 16, Nat.mod_lt _ (by decide)⟩).toNat
/-- Byte r of word n. -/
def wb (ws : List (List Nat)) (n r : Nat) : Nat := (ws.getD n []).getD r 0
/-- The round key n. -/
def rk (ws : List (List Nat)) (n : Nat) : State := fun i => UInt8.ofNat (wb ws (4 * n + i.val / 4) (i.val % 4))
theorem at_lt (s : State) (r k : Nat) : at_ s r k < 256 := UInt8.toNat_lt _
theorem sb_at (s : State) (r k : Nat) (hr : r < 4) (hk : k < 4) : at_ (rowS (subS s)) r k = sbox (at_ s r ((k + r) % 4)) := by
  have e : ∀ r, r < 4 → ∀ k, k < 4 → rowFrom ⟨(r + 4 * k) % 16, Nat.mod_lt _ (by decide)⟩ = ⟨(r + 4 * ((k + r) % 4)) % 16, Nat.mod_lt _ (by decide)⟩ := by decide
  unfold at_ rowS
  rw [e r hr k hk]
  unfold subS sb
  rw [UInt8.toNat_ofNat', Nat.mod_eq_of_lt]
  exact sbox_lt _ (UInt8.toNat_lt _)
theorem rk_at (ws : List (List Nat)) (n r k : Nat) (hr : r < 4) (hk : k < 4) (hw : wb ws (4 * n + k) r < 256) : at_ (rk ws n) r k = wb ws (4 * n + k) r := by
  unfold at_ rk
  have e1 : (r + 4 * k) % 16 / 4 = k := by omega
  have e2 : (r + 4 * k) % 16 % 4 = r := by omega
  simp only [e1, e2]
  rw [UInt8.toNat_ofNat', Nat.mod_eq_of_lt hw]
theorem key_at (ws : List (List Nat)) (s : State) (n r k : Nat) (hr : r < 4) (hk : k < 4) (hw : wb ws (4 * n + k) r < 256) : at_ (keyS (rk ws n) s) r k = at_ s r k ^^^ wb ws (4 * n + k) r := by
  rw [← rk_at ws n r k hr hk hw]
  exact UInt8.toNat_xor _ _
theorem m2_at (x : UInt8) : (m2 x).toNat = times 2 x.toNat := by rw [times2 _ x.toNat_lt, UInt8.ofNat_toNat]
theorem m3_at (x : UInt8) : (m3 x).toNat = times 3 x.toNat := by rw [times3 _ x.toNat_lt, UInt8.ofNat_toNat]
theorem mix_at (s : State) (r k : Nat) (hr : r < 4) (hk : k < 4) : at_ (mixS s) r k = times 2 (at_ s r k) ^^^ times 3 (at_ s ((r + 1) % 4) k) ^^^ at_ s ((r + 2) % 4) k ^^^ at_ s ((r + 3) % 4) k := by
  have e : ∀ q, q < 4 → ∀ r, r < 4 → ∀ k, k < 4 → below q ⟨(r + 4 * k) % 16, Nat.mod_lt _ (by decide)⟩ = ⟨((r + q) % 4 + 4 * k) % 16, Nat.mod_lt _ (by decide)⟩ := by decide
  unfold at_ mixS
  rw [e 1 (by decide) r hr k hk, e 2 (by decide) r hr k hk, e 3 (by decide) r hr k hk]
  unfold mixA
  rw [UInt8.toNat_xor, UInt8.toNat_xor, UInt8.toNat_xor, m2_at, m3_at]
theorem out_at (s : State) (i : Fin 16) : UInt8.ofNat (at_ s (i.val % 4) (i.val / 4)) = s i := by
  unfold at_
  rw [UInt8.ofNat_toNat]
  congr 1
  apply Fin.ext
  show (i.val % 4 + 4 * (i.val / 4)) % 16 = i.val
  omega
/-- Two states with the same numbers are the same. -/
theorem state_ext {s t : State} (h : ∀ r, r < 4 → ∀ k, k < 4 → at_ s r k = at_ t r k) : s = t := funext fun i => by
  rw [← out_at s i, ← out_at t i, h _ (Nat.mod_lt _ (by decide)) _ (by omega)]
end Go.Proofs.Ytngfldlfoniklaa
