/- The reference's small calls: its first words, its rounds' words, turnings. Conditions: none. -/
import Derived.Test.YtgphopahlgfogaaDoorSum
namespace Go.Proofs.YtgphopahlgfogaaDoor
open Go.RowKit
/-- Words of 32 bits, in cells of 64. -/
def d64 (l : List UInt32) : List Value := l.map fun x => Value.int .u64 (x.toNat : Int)
theorem d64_length (l : List UInt32) : (d64 l).length = l.length := by simp [d64]
theorem d64_set (xs : List UInt32) (j : Nat) (x : UInt32) : (d64 xs).set j (.int .u64 (x.toNat : Int)) = d64 (xs.set j x) := by simp [d64, List.map_set]
theorem d64_get (xs : List UInt32) (j : Nat) (h : j < xs.length) : (d64 xs)[j]? = some (.int .u64 (xs.getD j 0).toNat) := by
  unfold d64
  rw [List.getElem?_map, List.getElem?_eq_getElem h, List.getD_eq_getElem?_getD, List.getElem?_eq_getElem h]
  rfl
/-- The rounds' words of SHA-256. -/
def k256 : List UInt32 := (List.range 64).map kw
theorem k256_get (i : Nat) (h : i < 64) : k256.getD i 0 = kw i := by
  rw [List.getD_eq_getElem?_getD, k256, List.getElem?_map, List.getElem?_range h]; rfl
theorem turn_eq (x : UInt32) (n : Nat) (h1 : 1 ≤ n) (h2 : n < 32) :
    bits .and .u64 (bits .or .u64 ((x.toNat : Int) / 2 ^ n) (IntKind.u64.wrap ((x.toNat : Int) * 2 ^ (32 - n)))) 4294967295 = ((rotr x n).toNat : Int) := by
  have hp : ∀ k : Nat, (2 : Int) ^ k = ((2 ^ k : Nat) : Int) := fun k => by rw [Int.natCast_pow]; rfl
  have hx := lt32 x
  have hb : x.toNat * 2 ^ (32 - n) < 18446744073709551616 := by
    have h3 : 2 ^ (32 - n) ≤ 2 ^ 31 := Nat.pow_le_pow_right (by omega) (by omega)
    have h4 := Nat.mul_le_mul (Nat.le_of_lt hx) h3
    omega
  have e1 : IntKind.u64.wrap ((x.toNat : Int) * 2 ^ (32 - n)) = ((x.toNat * 2 ^ (32 - n) : Nat) : Int) := by
    rw [IntKind.wrap_u64, hp, ← Int.natCast_mul]
    generalize x.toNat * 2 ^ (32 - n) = q at hb
    omega
  have e2 : (x.toNat : Int) / 2 ^ n = ((x.toNat / 2 ^ n : Nat) : Int) := by rw [hp]; rfl
  have hd : x.toNat / 2 ^ n < 18446744073709551616 := Nat.lt_of_le_of_lt (Nat.div_le_self _ _) (by omega)
  rw [e1, e2, u64_or_nat _ _ hd hb, d_mask _ (Nat.or_lt_two_pow (n := 64) hd hb), w_ofNat, rotr_nat, or_mod, Nat.mod_eq_of_lt (Nat.lt_of_le_of_lt (Nat.div_le_self _ _) hx)]
theorem turn_any (x : UInt32) (n : Nat) (w : World) (h1 : 1 ≤ n) (h2 : n < 32) :
    Calls Tryd.prog 34 #[.int .u64 x.toNat, .int .u64 n, .int .u64 32] w fun e w' => e = .returned (.int .u64 (rotr x n).toNat) ∧ w = w' := by
  have h5 := turn_eq x n h1 h2
  go_enter Tryd.func34, Tryd.ntmps34
  go_wp2
  go_ret
  exact ⟨rfl, rfl⟩
theorem first512_any (w : World) : Calls Tryd.prog 26 #[] w fun e w' => e = .returned (.slice (some ⟨w.heap.size, 0, none⟩) 8 8) ∧ w.grownBy w' none ∧ w'.heap.size = w.heap.size + 1 := by
  go_enter Tryd.func26, Tryd.ntmps26
  go_wp2
  go_ret
  exact ⟨rfl, World.grownBy_alloc w _ none, World.size_alloc w _⟩
theorem first256_any (w : World) : Calls Tryd.prog 28 #[] w fun e w' => e = .returned (.slice (some ⟨w.heap.size, 0, none⟩) 8 8) ∧ Blk w' w.heap.size 47 (d64 H0.list) ∧ w.grownBy w' none ∧ w'.heap.size = w.heap.size + 1 := by
  go_enter Tryd.func28, Tryd.ntmps28
  go_wp2
  go_ret
  exact ⟨rfl, Blk.of_alloc w _ 47, World.grownBy_alloc w _ none, World.size_alloc w _⟩
set_option maxRecDepth 100000 in
set_option maxHeartbeats 4000000 in
theorem rounds512_any (w : World) : Calls Tryd.prog 27 #[] w fun e w' => e = .returned (.slice (some ⟨w.heap.size, 0, none⟩) 80 80) ∧ w.grownBy w' none ∧ w'.heap.size = w.heap.size + 1 := by
  go_enter Tryd.func27, Tryd.ntmps27
  go_wp2
  go_ret
  exact ⟨rfl, World.grownBy_alloc w _ none, World.size_alloc w _⟩
set_option maxRecDepth 100000 in
set_option maxHeartbeats 4000000 in
theorem rounds256_any (w : World) : Calls Tryd.prog 29 #[] w fun e w' => e = .returned (.slice (some ⟨w.heap.size, 0, none⟩) 64 64) ∧ Blk w' w.heap.size 47 (d64 k256) ∧ w.grownBy w' none ∧ w'.heap.size = w.heap.size + 1 := by
  go_enter Tryd.func29, Tryd.ntmps29
  go_wp2
  go_ret
  exact ⟨rfl, (Blk.of_alloc w _ 47).to (by kernel_rfl), World.grownBy_alloc w _ none, World.size_alloc w _⟩
/-- Three turnings, or two and a mere move. -/
def three (x : UInt32) (a b c : Nat) (t : Bool) : UInt32 := if t then rotr x a ^^^ rotr x b ^^^ shr x c else rotr x a ^^^ rotr x b ^^^ rotr x c
theorem three_any (x : UInt32) (a b c : Nat) (t : Bool) (w : World) (ha : 1 ≤ a) (ha2 : a < 32) (hb : 1 ≤ b) (hb2 : b < 32) (hc : 1 ≤ c) (hc2 : c < 32) :
    Calls Tryd.prog 30 #[.int .u64 x.toNat, .int .u64 a, .int .u64 b, .int .u64 c, .int .u64 32, .bool t] w fun e w' => e = .returned (.int .u64 (three x a b c t).toNat) ∧ w' = w := by
  have A : ∀ W, Calls Tryd.prog 34 #[.int .u64 x.toNat, .int .u64 a, .int .u64 32] W fun e w' => e = .returned (.int .u64 (rotr x a).toNat) ∧ W = w' := fun W => turn_any x a W ha ha2
  have B : ∀ W, Calls Tryd.prog 34 #[.int .u64 x.toNat, .int .u64 b, .int .u64 32] W fun e w' => e = .returned (.int .u64 (rotr x b).toNat) ∧ W = w' := fun W => turn_any x b W hb hb2
  have C : ∀ W, Calls Tryd.prog 34 #[.int .u64 x.toNat, .int .u64 c, .int .u64 32] W fun e w' => e = .returned (.int .u64 (rotr x c).toNat) ∧ W = w' := fun W => turn_any x c W hc hc2
  have hc64 : (c : Int) ≤ 64 := by omega
  cases t
  · go_enter Tryd.func30, Tryd.ntmps30
    go_wp2_with (go_at_call 34; (first | (with_reducible refine (A _).mono ?_) | (with_reducible refine (B _).mono ?_) | (with_reducible refine (C _).mono ?_)); rintro _ _ ⟨rfl, rfl⟩)
    go_ret
    refine ⟨?_, rfl⟩
    change Ending.returned (.int .u64 (bits .xor .u64 (bits .xor .u64 ((rotr x a).toNat : Int) ((rotr x b).toNat : Int)) ((rotr x c).toNat : Int))) = _
    rw [d_xor, d_xor]
    rfl
  · go_enter Tryd.func30, Tryd.ntmps30
    go_wp2_with (go_at_call 34; (first | (with_reducible refine (A _).mono ?_) | (with_reducible refine (B _).mono ?_) | (with_reducible refine (C _).mono ?_)); rintro _ _ ⟨rfl, rfl⟩)
    go_ret
    refine ⟨?_, rfl⟩
    change Ending.returned (.int .u64 (bits .xor .u64 (bits .xor .u64 ((rotr x a).toNat : Int) ((rotr x b).toNat : Int)) ((x.toNat : Int) / 2 ^ c))) = _
    have hsh : (x.toNat : Int) / 2 ^ c = ((shr x c).toNat : Int) := by
      rw [w_shr, Int.natCast_pow]; rfl
    rw [hsh, d_xor, d_xor]
    rfl
end Go.Proofs.YtgphopahlgfogaaDoor
