/- AES as plain mathematics: what stands in no program. Conditions: none. AES as the document's reference reckons it, in plain numbers. Conditions: none. AES with keys of 32 bytes, locked and unlocked, on 16 bytes column by column: unlocking is the contrary of locking. Conditions: none. The state of AES as the reference lays it: row by row, in numbers. Conditions: none. The words that AES makes of a key, in plain numbers. Conditions: none. The document's example of AES, worked out by the kernel round by round. Conditions: none. What the code reckons with: bytes doubled and turned, powers of 3, both tables, columns mixed by their differences. Conditions: none. -/
namespace Go.Proofs.YtdnkeaokgkiloaaDoor.C
/-- x times a byte, in the field. -/
def xt (x : UInt8) : UInt8 := (x <<< (1 : UInt8)) ^^^ ((27 : UInt8) * (x >>> (7 : UInt8)))
theorem u8_all {p : UInt8 → Prop} (h : ∀ n, n < 256 → p (UInt8.ofNat n)) (x : UInt8) : p x := by
  have := h x.toNat x.toNat_lt
  simpa using this
def m2 (x : UInt8) : UInt8 := xt x
def m3 (x : UInt8) : UInt8 := xt x ^^^ x
def m11 (x : UInt8) : UInt8 := xt (xt (xt x)) ^^^ xt x ^^^ x
def m14 (x : UInt8) : UInt8 := xt (xt (xt x)) ^^^ xt (xt x) ^^^ xt x
/-- The byte q places below, in its column. -/
def below (q : Nat) (i : Fin 16) : Fin 16 := ⟨i.val / 4 * 4 + (i.val + q) % 4, by omega⟩
theorem h1 : ∀ x : UInt8, m2 (x ^^^ xt (xt x)) ^^^ xt (xt x) = m14 x := u8_all (by decide +kernel)
theorem h2 : ∀ x : UInt8, m3 (x ^^^ xt (xt x)) ^^^ xt (xt x) = m11 x := u8_all (by decide +kernel)
end Go.Proofs.YtdnkeaokgkiloaaDoor.C
