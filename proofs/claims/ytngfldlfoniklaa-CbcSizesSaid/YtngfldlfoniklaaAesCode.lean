/- What the code reckons with: bytes doubled and turned, powers of 3, both tables, columns mixed by their differences. Conditions: none. -/
import Derived.Test.YtngfldlfoniklaaAesKeys
namespace Go.Proofs.Ytngfldlfoniklaa
/-- Turned to the right. -/
def ror8 (x : UInt8) (k : Nat) : UInt8 := UInt8.ofNat ((x.toNat <<< (8 - k)) % 256 ||| x.toNat >>> k)
/-- S out of an inverse, k of its turned forms in it. -/
def aff (c : UInt8) : Nat → UInt8
  | 0 => c ^^^ 99
  | k + 1 => aff c k ^^^ ror8 c (k + 4)
/-- The powers of 3. -/
def pws : List Nat := [1, 3, 5, 15, 17, 51, 85, 255, 26, 46, 114, 150, 161, 248, 19, 53, 95, 225, 56, 72, 216, 115, 149, 164, 247, 2, 6, 10, 30, 34, 102, 170, 229, 52, 92, 228, 55, 89, 235, 38, 106, 190, 217, 112, 144, 171, 230, 49, 83, 245, 4, 12, 20, 60, 68, 204, 79, 209, 104, 184, 211, 110, 178, 205, 76, 212, 103, 169, 224, 59, 77, 215, 98, 166, 241, 8, 24, 40, 120, 136, 131, 158, 185, 208, 107, 189, 220, 127, 129, 152, 179, 206, 73, 219, 118, 154, 181, 196, 87, 249, 16, 48, 80, 240, 11, 29, 39, 105, 187, 214, 97, 163, 254, 25, 43, 125, 135, 146, 173, 236, 47, 113, 147, 174, 233, 32, 96, 160, 251, 22, 58, 78, 210, 109, 183, 194, 93, 231, 50, 86, 250, 21, 63, 65, 195, 94, 226, 61, 71, 201, 64, 192, 91, 237, 44, 116, 156, 191, 218, 117, 159, 186, 213, 100, 172, 239, 42, 126, 130, 157, 188, 223, 122, 142, 137, 128, 155, 182, 193, 88, 232, 35, 101, 175, 234, 37, 111, 177, 200, 67, 197, 84, 252, 31, 33, 99, 165, 244, 7, 9, 27, 45, 119, 153, 176, 203, 70, 202, 69, 207, 74, 222, 121, 139, 134, 145, 168, 227, 62, 66, 198, 81, 243, 14, 18, 54, 90, 238, 41, 123, 141, 140, 143, 138, 133, 148, 167, 242, 13, 23, 57, 75, 221, 124, 132, 151, 162, 253, 28, 36, 108, 180, 199, 82, 246, 1]
def pow3 (i : Nat) : UInt8 := UInt8.ofNat (pws.getD i 0)
theorem pow3_zero : pow3 0 = 1 := by decide
theorem pow3_next : ∀ i, i < 255 → pow3 (i + 1) = pow3 i ^^^ xt (pow3 i) := by decide +kernel
theorem aff_pow : ∀ i, i < 255 → aff (pow3 (255 - i)) 4 = sb (pow3 i) := by decide +kernel
theorem aff_zero : aff 0 4 = sb 0 := by decide +kernel
/-- The bytes in the order in which they are put into the tables. -/
def elt : Nat → UInt8
  | 0 => 0
  | n + 1 => pow3 n
def tabS : Nat → List UInt8
  | 0 => List.replicate 256 0
  | n + 1 => (tabS n).set (elt n).toNat (sb (elt n))
def tabB : Nat → List UInt8
  | 0 => List.replicate 256 0
  | n + 1 => (tabB n).set (sb (elt n)).toNat (elt n)
theorem tabS_length : ∀ n, (tabS n).length = 256
  | 0 => List.length_replicate
  | n + 1 => by rw [tabS, List.length_set, tabS_length n]
theorem tabB_length : ∀ n, (tabB n).length = 256
  | 0 => List.length_replicate
  | n + 1 => by rw [tabB, List.length_set, tabB_length n]
set_option maxRecDepth 100000 in
theorem tabS_all : ∀ x, x < 256 → (tabS 256).getD x 0 = sb (UInt8.ofNat x) := by decide +kernel
set_option maxRecDepth 100000 in
theorem tabB_all : ∀ x, x < 256 → (tabB 256).getD x 0 = usb (UInt8.ofNat x) := by decide +kernel
theorem tabS_get (x : UInt8) : (tabS 256).getD x.toNat 0 = sb x := by rw [tabS_all _ x.toNat_lt, UInt8.ofNat_toNat]
theorem tabB_get (x : UInt8) : (tabB 256).getD x.toNat 0 = usb x := by rw [tabB_all _ x.toNat_lt, UInt8.ofNat_toNat]
theorem xor_again (a b : UInt8) : a ^^^ (a ^^^ b) = b := by rw [← UInt8.xor_assoc, UInt8.xor_self, UInt8.zero_xor]
theorem mix_by (a b c d : UInt8) : a ^^^ (a ^^^ b ^^^ c ^^^ d ^^^ xt (a ^^^ b)) = mixA a b c d := by
  rw [xt_xor]
  unfold mixA m2 m3
  rw [show a ^^^ b ^^^ c ^^^ d ^^^ (xt a ^^^ xt b) = a ^^^ (b ^^^ c ^^^ d ^^^ (xt a ^^^ xt b)) by ac_rfl, xor_again]
  ac_rfl
theorem mix_by1 (a b c d : UInt8) : b ^^^ (a ^^^ b ^^^ c ^^^ d ^^^ xt (b ^^^ c)) = mixA b c d a := by
  rw [← mix_by]; congr 2; ac_rfl
theorem mix_by2 (a b c d : UInt8) : c ^^^ (a ^^^ b ^^^ c ^^^ d ^^^ xt (c ^^^ d)) = mixA c d a b := by
  rw [← mix_by]; congr 2; ac_rfl
theorem mix_by3 (a b c d : UInt8) : d ^^^ (a ^^^ b ^^^ c ^^^ d ^^^ xt (d ^^^ a)) = mixA d a b c := by
  rw [← mix_by]; congr 2; ac_rfl
/-- What unmix makes of a byte and of the one two below it, ahead of mix. -/
def half (a c : UInt8) : UInt8 := a ^^^ xt (xt (a ^^^ c))
theorem h1 : ∀ x : UInt8, m2 (x ^^^ xt (xt x)) ^^^ xt (xt x) = m14 x := u8_all (by decide +kernel)
theorem h2 : ∀ x : UInt8, m3 (x ^^^ xt (xt x)) ^^^ xt (xt x) = m11 x := u8_all (by decide +kernel)
theorem h3 : ∀ x : UInt8, m2 (xt (xt x)) ^^^ (x ^^^ xt (xt x)) = m13 x := u8_all (by decide +kernel)
theorem h4 : ∀ x : UInt8, m3 (xt (xt x)) ^^^ (x ^^^ xt (xt x)) = m9 x := u8_all (by decide +kernel)
theorem unmix_by (a b c d : UInt8) : mixA (half a c) (half b d) (half c a) (half d b) = unA a b c d := by
  unfold unA
  rw [← h1 a, ← h2 b, ← h3 c, ← h4 d]
  unfold mixA half
  simp only [xt_xor, m2_xor, m3_xor]
  ac_rfl
end Go.Proofs.Ytngfldlfoniklaa
