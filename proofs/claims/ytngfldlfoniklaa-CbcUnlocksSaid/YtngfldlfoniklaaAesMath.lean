/- AES as plain mathematics: what stands in no program. Conditions: none. -/
namespace Go.Proofs.Ytngfldlfoniklaa
/-- x times a byte, in the field. -/
def xt (x : UInt8) : UInt8 := (x <<< (1 : UInt8)) ^^^ ((27 : UInt8) * (x >>> (7 : UInt8)))
theorem u8_all {p : UInt8 → Prop} (h : ∀ n, n < 256 → p (UInt8.ofNat n)) (x : UInt8) : p x := by
  have := h x.toNat x.toNat_lt
  simpa using this
theorem top_bit : ∀ x : UInt8, x >>> (7 : UInt8) = 0 ∨ x >>> (7 : UInt8) = 1 := u8_all (by decide +kernel)
theorem xt_xor (x y : UInt8) : xt (x ^^^ y) = xt x ^^^ xt y := by
  unfold xt
  have h1 : (x ^^^ y) <<< (1 : UInt8) = (x <<< (1 : UInt8)) ^^^ (y <<< (1 : UInt8)) := UInt8.shiftLeft_xor ..
  have h2 : (x ^^^ y) >>> (7 : UInt8) = (x >>> (7 : UInt8)) ^^^ (y >>> (7 : UInt8)) := UInt8.shiftRight_xor ..
  have h3 : (27 : UInt8) * ((x >>> (7 : UInt8)) ^^^ (y >>> (7 : UInt8))) = (27 * (x >>> (7 : UInt8))) ^^^ (27 * (y >>> (7 : UInt8))) := by
    rcases top_bit x with e | e <;> rcases top_bit y with f | f <;> rw [e, f] <;> decide
  rw [h1, h2, h3]
  ac_rfl
def m2 (x : UInt8) : UInt8 := xt x
def m3 (x : UInt8) : UInt8 := xt x ^^^ x
def m9 (x : UInt8) : UInt8 := xt (xt (xt x)) ^^^ x
def m11 (x : UInt8) : UInt8 := xt (xt (xt x)) ^^^ xt x ^^^ x
def m13 (x : UInt8) : UInt8 := xt (xt (xt x)) ^^^ xt (xt x) ^^^ x
def m14 (x : UInt8) : UInt8 := xt (xt (xt x)) ^^^ xt (xt x) ^^^ xt x
theorem m2_xor (x y : UInt8) : m2 (x ^^^ y) = m2 x ^^^ m2 y := xt_xor x y
theorem m3_xor (x y : UInt8) : m3 (x ^^^ y) = m3 x ^^^ m3 y := by unfold m3; rw [xt_xor]; ac_rfl
theorem m9_xor (x y : UInt8) : m9 (x ^^^ y) = m9 x ^^^ m9 y := by unfold m9; simp only [xt_xor]; ac_rfl
theorem m11_xor (x y : UInt8) : m11 (x ^^^ y) = m11 x ^^^ m11 y := by unfold m11; simp only [xt_xor]; ac_rfl
theorem m13_xor (x y : UInt8) : m13 (x ^^^ y) = m13 x ^^^ m13 y := by unfold m13; simp only [xt_xor]; ac_rfl
theorem m14_xor (x y : UInt8) : m14 (x ^^^ y) = m14 x ^^^ m14 y := by unfold m14; simp only [xt_xor]; ac_rfl
def mixA (a b c d : UInt8) : UInt8 := m2 a ^^^ m3 b ^^^ c ^^^ d
def unA (a b c d : UInt8) : UInt8 := m14 a ^^^ m11 b ^^^ m13 c ^^^ m9 d
theorem q1 : ∀ x : UInt8, m14 (m2 x) ^^^ m11 x ^^^ m13 x ^^^ m9 (m3 x) = x := u8_all (by decide +kernel)
theorem q2 : ∀ x : UInt8, m14 (m3 x) ^^^ m11 (m2 x) ^^^ m13 x ^^^ m9 x = 0 := u8_all (by decide +kernel)
theorem q3 : ∀ x : UInt8, m14 x ^^^ m11 (m3 x) ^^^ m13 (m2 x) ^^^ m9 x = 0 := u8_all (by decide +kernel)
theorem q4 : ∀ x : UInt8, m14 x ^^^ m11 x ^^^ m13 (m3 x) ^^^ m9 (m2 x) = 0 := u8_all (by decide +kernel)
theorem un_mix (a b c d : UInt8) : unA (mixA a b c d) (mixA b c d a) (mixA c d a b) (mixA d a b c) = a := by
  unfold unA mixA
  simp only [m14_xor, m11_xor, m13_xor, m9_xor]
  have e : ∀ a1 a2 a3 a4 b1 b2 b3 b4 c1 c2 c3 c4 d1 d2 d3 d4 : UInt8, (a1 ^^^ b1 ^^^ c1 ^^^ d1) ^^^ (b2 ^^^ c2 ^^^ d2 ^^^ a2) ^^^ (c3 ^^^ d3 ^^^ a3 ^^^ b3) ^^^ (d4 ^^^ a4 ^^^ b4 ^^^ c4) = (a1 ^^^ a2 ^^^ a3 ^^^ a4) ^^^ (b1 ^^^ b2 ^^^ b3 ^^^ b4) ^^^ (c1 ^^^ c2 ^^^ c3 ^^^ c4) ^^^ (d1 ^^^ d2 ^^^ d3 ^^^ d4) := by
    intros; ac_rfl
  rw [e, q1, q2, q3, q4]
  simp
theorem p1 : ∀ x : UInt8, m2 (m14 x) ^^^ m3 (m9 x) ^^^ m13 x ^^^ m11 x = x := u8_all (by decide +kernel)
theorem p2 : ∀ x : UInt8, m2 (m11 x) ^^^ m3 (m14 x) ^^^ m9 x ^^^ m13 x = 0 := u8_all (by decide +kernel)
theorem p3 : ∀ x : UInt8, m2 (m13 x) ^^^ m3 (m11 x) ^^^ m14 x ^^^ m9 x = 0 := u8_all (by decide +kernel)
theorem p4 : ∀ x : UInt8, m2 (m9 x) ^^^ m3 (m13 x) ^^^ m11 x ^^^ m14 x = 0 := u8_all (by decide +kernel)
theorem mix_un (a b c d : UInt8) : mixA (unA a b c d) (unA b c d a) (unA c d a b) (unA d a b c) = a := by
  unfold unA mixA
  simp only [m2_xor, m3_xor]
  have e : ∀ a1 a2 a3 a4 b1 b2 b3 b4 c1 c2 c3 c4 d1 d2 d3 d4 : UInt8, (a1 ^^^ b1 ^^^ c1 ^^^ d1) ^^^ (b2 ^^^ c2 ^^^ d2 ^^^ a2) ^^^ (c3 ^^^ d3 ^^^ a3 ^^^ b3) ^^^ (d4 ^^^ a4 ^^^ b4 ^^^ c4) = (a1 ^^^ a2 ^^^ a3 ^^^ a4) ^^^ (b1 ^^^ b2 ^^^ b3 ^^^ b4) ^^^ (c1 ^^^ c2 ^^^ c3 ^^^ c4) ^^^ (d1 ^^^ d2 ^^^ d3 ^^^ d4) := by
    intros; ac_rfl
  rw [e, p1, p2, p3, p4]
  simp
end Go.Proofs.Ytngfldlfoniklaa
