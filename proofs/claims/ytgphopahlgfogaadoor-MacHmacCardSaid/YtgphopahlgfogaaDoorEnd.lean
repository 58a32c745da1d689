/- MacHmac: HMAC of any key and text is the document's. MacHkdf: HKDF is the document's, whatever it is made of; a shorter one is its beginning. Conditions: none. -/
import Derived.Test.YtgphopahlgfogaaDoorLawHkdf
import Derived.Test.YtgphopahlgfogaaDoorHash
namespace Go.Proofs.YtgphopahlgfogaaDoor
theorem hmac_holds : Rows.MacHmacCardSaid := hmac_card hash_any
theorem hkdf_holds : Rows.MacHkdfCardSaid := hkdf_card hash_any
#print axioms hmac_holds
#print axioms hkdf_holds
end Go.Proofs.YtgphopahlgfogaaDoor
