/- Small calls: a word is turned to the right; eight words are told one by one. Conditions: none. -/
import Derived.Test.YtgphopahlgfogaaDoorMem
import Derived.Test.YtgphopahlgfogaaDoorWord
import Derived.BigQuiet
namespace Go.Proofs.YtgphopahlgfogaaDoor
open Go.RowKit
theorem rot_eq (x : UInt32) (n : Nat) (h1 : 1 ≤ n) (h2 : n < 32) :
    bits .or .u32 ((x.toNat : Int) * 2 ^ (32 - n) % 4294967296) ((x.toNat : Int) / 2 ^ (32 - (32 - n))) = ((rotr x n).toNat : Int) := by
  have hp : ∀ k : Nat, (2 : Int) ^ k = ((2 ^ k : Nat) : Int) := fun k => by rw [Int.natCast_pow]; rfl
  have e1 : (x.toNat : Int) * 2 ^ (32 - n) % 4294967296 = ((x.toNat * 2 ^ (32 - n) % 4294967296 : Nat) : Int) := by
    rw [hp, ← Int.natCast_mul]
    generalize x.toNat * 2 ^ (32 - n) = q
    omega
  have e2 : (x.toNat : Int) / 2 ^ (32 - (32 - n)) = ((x.toNat / 2 ^ n : Nat) : Int) := by
    rw [show 32 - (32 - n) = n by omega, hp]
    rfl
  rw [e1, e2, u32_or_nat _ _ (Nat.mod_lt _ (by omega)) (Nat.lt_of_le_of_lt (Nat.div_le_self _ _) (lt32 x)), rotr_nat, Nat.or_comm]
theorem rot_any (x : UInt32) (n : Nat) (w : World) (h1 : 1 ≤ n) (h2 : n < 32) :
    Calls Tryd.prog 35 #[.int .u32 x.toNat, .int .i64 (-(n : Int))] w fun e w' => e = .returned (.int .u32 (rotr x n).toNat) ∧ w = w' := by
  have hs : bits BinOp.and IntKind.u64 (IntKind.u64.wrap (-(n : Int))) 31 = ((32 - n : Nat) : Int) := by
    rw [show IntKind.u64.wrap (-(n : Int)) = ((18446744073709551616 - n : Nat) : Int) by rw [IntKind.wrap_u64]; omega, show (31 : Int) = ((31 : Nat) : Int) from rfl, u64_and_nat _ _ (by omega) (by omega), nat_mask5]
    omega
  have h3 : ((32 - n : Nat) : Int) ≤ 64 := by omega
  have h4 : (0 : Int) ≤ ((32 - n : Nat) : Int) := by omega
  have h5 := rot_eq x n h1 h2
  go_enter Tryd.func35, Tryd.ntmps35
  go_wp2
  go_ret
  exact ⟨rfl, rfl⟩
theorem rotr_any (x : UInt32) (n : Nat) (w : World) (h1 : 1 ≤ n) (h2 : n < 32) :
    Calls Tryd.prog 32 #[.int .u32 x.toNat, .int .i64 n] w fun e w' => e = .returned (.int .u32 (rotr x n).toNat) ∧ w = w' := by
  go_enter Tryd.func32, Tryd.ntmps32
  go_wp2_with (go_at_call 35; refine (rot_any x n _ h1 h2).mono ?_; rintro _ _ ⟨rfl, rfl⟩)
  go_ret
  exact ⟨rfl, rfl⟩
theorem results_8 {fn : Func} {t0 t1 t2 t3 t4 t5 t6 t7 : Tmp} (h : fn.results = #[.tmp t0, .tmp t1, .tmp t2, .tmp t3, .tmp t4, .tmp t5, .tmp t6, .tmp t7]) (tmps : Array Value) (P : Program) (w : World) :
    (results fn tmps).run P w = .ok (.tuple #[tmps.getD t0 undef, tmps.getD t1 undef, tmps.getD t2 undef, tmps.getD t3 undef, tmps.getD t4 undef, tmps.getD t5 undef, tmps.getD t6 undef, tmps.getD t7 undef]) w := by
  simp [results, h]
theorem each_any (w : World) (g : Nat) (a b c d e f g' h : UInt32) (hc0 : w.cell? ⟨g, 0, none⟩ = some (.int .u32 a.toNat)) (hc1 : w.cell? ⟨g, 1, none⟩ = some (.int .u32 b.toNat)) (hc2 : w.cell? ⟨g, 2, none⟩ = some (.int .u32 c.toNat)) (hc3 : w.cell? ⟨g, 3, none⟩ = some (.int .u32 d.toNat))
     (hc4 : w.cell? ⟨g, 4, none⟩ = some (.int .u32 e.toNat)) (hc5 : w.cell? ⟨g, 5, none⟩ = some (.int .u32 f.toNat)) (hc6 : w.cell? ⟨g, 6, none⟩ = some (.int .u32 g'.toNat)) (hc7 : w.cell? ⟨g, 7, none⟩ = some (.int .u32 h.toNat)) :
    Calls Tryd.prog 33 #[.pointer (some ⟨g, 0, none⟩)] w fun e' w' => e' = .returned (.tuple #[.int .u32 a.toNat, .int .u32 b.toNat, .int .u32 c.toNat, .int .u32 d.toNat, .int .u32 e.toNat, .int .u32 f.toNat, .int .u32 g'.toNat, .int .u32 h.toNat]) ∧ ∃ m, w' = w.drewN m := by
  go_enter Tryd.func33, Tryd.ntmps33
  go_wp2
  go_quiet (fail)
  go_wp2
  exact bodyPost_ret (results_8 rfl _ _ _) rfl ⟨rfl, _, rfl⟩
end Go.Proofs.YtgphopahlgfogaaDoor
