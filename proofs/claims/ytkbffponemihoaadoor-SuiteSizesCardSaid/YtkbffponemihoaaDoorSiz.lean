/- The law of sizes, walked through. Conditions: the tables of the hash lie where the program lays them. -/
import Derived.Test.YtkbffponemihoaaDoorV6
namespace Go.Proofs.YtkbffponemihoaaDoor
open Go.RowKit T
theorem rsiz_any (w : World) (n : Int) : Calls Tryd.prog 16 #[.int .i64 n] w fun e w' => e = .returned (.int .i64 (sizeN n)) ∧ w' = w := by
  by_cases h0 : n < 0
  · have e : sizeN n = 0 := if_pos (.inl h0)
    rw [e]
    have d0 : decide (n < 0) = true := decide_eq_true h0
    go_enter Tryd.func16, Tryd.ntmps16
    go_wp2
    go_ret
    exact ⟨rfl, rfl⟩
  · have d0 : decide (n < 0) = false := decide_eq_false h0
    by_cases h1 : 1024 < n
    · have e : sizeN n = 0 := if_pos (.inr h1)
      rw [e]
      have d1 : decide (1024 < n) = true := decide_eq_true h1
      go_enter Tryd.func16, Tryd.ntmps16
      go_wp2
      go_ret
      exact ⟨rfl, rfl⟩
    · have e : sizeN n = n - n % 16 + 32 := if_neg (by omega)
      rw [e]
      have d1 : decide (1024 < n) = false := decide_eq_false h1
      obtain ⟨k, rfl⟩ : ∃ k : Nat, n = k := ⟨n.toNat, by omega⟩
      have d2 : IntKind.i64.wrap (((k : Int)).tdiv 16) = (k : Int) / 16 := by rw [Int.tdiv_eq_ediv_of_nonneg (by omega), IntKind.wrap_i64]; omega
      have d3 : IntKind.i64.wrap ((k : Int) / 16 * 16) = (k : Int) - (k : Int) % 16 := by rw [IntKind.wrap_i64]; omega
      have d4 : IntKind.i64.wrap ((k : Int) - (k : Int) % 16 + 32) = (k : Int) - (k : Int) % 16 + 32 := by rw [IntKind.wrap_i64]; omega
      go_enter Tryd.func16, Tryd.ntmps16
      go_wp2
      go_ret
      exact ⟨rfl, rfl⟩
set_option maxRecDepth 100000 in
theorem sizes_walk {w : World} (n : Int) (hT : S.Tab w) : Calls Tryd.prog 5 #[.int .i64 n] w fun e w' => e = .returned (.bool true) ∧ w.grownBy w' none := by
  obtain ⟨z, hz⟩ : ∃ z, sizeN n = z := ⟨_, rfl⟩
  have hal := alive_any hT
  have R1 : Hid (∀ W, Calls Tryd.prog 15 #[.int .i64 n] W fun e w' => e = .returned (.int .i64 z) ∧ W.grownBy w' none) := fun W => by rw [← hz]; exact siz_any W n
  have R2 : Hid (∀ W, Calls Tryd.prog 16 #[.int .i64 n] W fun e w' => e = .returned (.int .i64 z) ∧ w' = W) := fun W => by rw [← hz]; exact rsiz_any W n
  clear hz hT
  go_enter Tryd.func5, Tryd.ntmps5
  go_wp2_with fail
  go_at_call 6
  refine hal.mono ?_
  rintro _ w1 ⟨rfl, g1⟩
  have G1 := Lib.hid g1
  clear hal g1
  go_wp2_with fail
  go_at_call 15
  refine (R1.out _).mono ?_
  rintro _ w2 ⟨rfl, g2⟩
  have G2 := Lib.hid (G1.out.trans g2)
  clear g2 G1
  go_wp2_with fail
  go_at_call 16
  refine (R2.out _).mono ?_
  rintro _ w3 ⟨rfl, rfl⟩
  clear R1 R2
  go_wp2
  go_ret
  exact ⟨rfl, G2.out⟩
end Go.Proofs.YtkbffponemihoaaDoor
