/- Whether bytes are the same, as the program and the reference tell it. Conditions: none. HKDF, as the program tells it. Conditions: none. -/
import Derived.Test.YtdnkeaokgkiloaaDoorSe
namespace Go.Proofs.YtdnkeaokgkiloaaDoor.S
open Go.RowKit
theorem bool_end {a b : Bool} (h : a = b) : Ending.returned (.bool a) = .returned (.bool b) := by rw [h]
theorem bytes_any {w : World} {ok ok' : Nat → Prop} {A B : Option Addr} {xs ys : List UInt8} {c d : Nat} (ha : Byt w ok A xs) (hb : Byt w ok' B ys) :
    Calls Tryd.prog 51 #[.slice A xs.length c, .slice B ys.length d] w fun e w' => e = .returned (.bool (decide (xs = ys))) ∧ w = w' := by
  have r1 := ha.str c
  have r2 := hb.str d
  go_enter Tryd.func51, Tryd.ntmps51
  go_wp2
  go_ret
  exact ⟨bool_end (by rw [Bool.eq_iff_iff]; simp), rfl⟩
theorem bytes_n {w : World} {ok ok' : Nat → Prop} {A B : Option Addr} {xs ys : List UInt8} {c d n m : Nat} (ha : Byt w ok A xs) (hb : Byt w ok' B ys) (hn : xs.length = n) (hm : ys.length = m) :
    Calls Tryd.prog 51 #[.slice A n c, .slice B m d] w fun e w' => e = .returned (.bool (decide (xs = ys))) ∧ w = w' := by
  subst hn hm; exact bytes_any ha hb
open Go.RowKit
theorem lst_three {w : World} {ok : Nat → Prop} {g : Nat} {ty : TypeId} {A B C : Option Addr} {n1 c1 n2 c2 n3 c3 : Nat} {x y z : List UInt8} (hb : Blk w g ty [.slice A n1 c1, .slice B n2 c2, .slice C n3 c3]) (hg : ok g) (h1 : x.length = n1) (h2 : y.length = n2) (h3 : z.length = n3)
    (l1 : n1 ≤ c1) (l2 : n2 ≤ c2) (l3 : n3 ≤ c3) (m1 : c1 ≤ maxLen) (m2 : c2 ≤ maxLen) (m3 : c3 ≤ maxLen) (hx : Byt w ok A x) (hy : Byt w ok B y) (hz : Byt w ok C z) : Lst w ok (some ⟨g, 0, none⟩) [x, y, z] := by
  subst h1 h2 h3
  refine lst_of_blk hb hg fun j hj => ?_
  have hj3 : j < 3 := by simpa using hj
  obtain rfl | rfl | rfl : j = 0 ∨ j = 1 ∨ j = 2 := by omega
  · exact ⟨A, c1, rfl, l1, m1, hx⟩
  · exact ⟨B, c2, rfl, l2, m2, hy⟩
  · exact ⟨C, c3, rfl, l3, m3, hz⟩
theorem blk_one (w : World) (x : UInt8) : Blk (w.alloc (.cells #[.int .u8 (x.toNat : Int)] 5)) w.heap.size 5 (u8s [x]) := Blk.of_alloc w #[.int .u8 (x.toNat : Int)] 5
end Go.Proofs.YtdnkeaokgkiloaaDoor.S
