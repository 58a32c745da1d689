/- The document's example of HMAC, worked out by the kernel. Conditions: none. -/
import Derived.Test.YtgphopahlgfogaaDoorRefMac
namespace Go.Proofs.YtgphopahlgfogaaDoor
def exKey : List UInt8 := [107, 101, 121]
def exText : List UInt8 := [84, 104, 101, 32, 113, 117, 105, 99, 107, 32, 98, 114, 111, 119, 110, 32, 102, 111, 120, 32, 106, 117, 109, 112, 115, 32, 111, 118, 101, 114, 32, 116, 104, 101, 32, 108, 97, 122, 121, 32, 100, 111, 103]
set_option maxRecDepth 1000000 in
theorem known : (hmac exKey exText).getD 0 0 = 247 ∧ (hmac exKey exText).getD 3 0 = 244 := by decide +kernel
end Go.Proofs.YtgphopahlgfogaaDoor
