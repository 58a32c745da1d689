/- What the document's reference answers as the n-th spot. Conditions: none. -/
import Derived.Test.YtaobbhihjeggiaaRef
import Derived.Deep.QuietTactic
import Derived.BigQuiet
namespace Go.Proofs.Ytaobbhihjeggiaa
open Go.RowKit

set_option maxHeartbeats 400000 in
theorem point_any (a b : Int) (w : World) : Calls Try.prog 14 #[.int .i64 a, .int .i64 b] w fun e w' => e = .returned (.complex .f64 (F a) (F b)) ∧ w = w' := by
  go_enter Try.func14, Try.ntmps14
  go_wp2
  go_ret
  exact ⟨rfl, rfl⟩

theorem below_draws {B : Nat} {a w : World} (h : Below B a w) (n : Nat) : Below B a (w.drewN n) := h.trans ⟨rfl, rfl, rfl, Nat.le_refl _, fun _ _ => rfl⟩

theorem XS_get {k : Nat} (h : k < 4096) : (XS 4096)[k]? = some (.int .i64 (px k)) := by simp [XS, h]
theorem YS_get {k : Nat} (h : k < 4096) : (YS 4096)[k]? = some (.int .i64 (py k)) := by simp [YS, h]

set_option maxHeartbeats 400000 in
theorem refspot_in (k : Nat) (hk : k < 4096) (w : World) : Calls Try.prog 7 #[.int .i64 (k : Int)] w fun e w' => e = .returned (.tuple #[.complex .f64 (F (px k)) (F (py k)), .bool true]) ∧ Below w.heap.size w w' := by
  have d1 : decide ((k : Int) < 0) = false := by simp
  have d2 : decide (4095 < (k : Int)) = false := by simp; omega
  go_enter Try.func7, Try.ntmps7
  go_wp2_with fail
  go_at_call 13
  refine (spots_any _).mono ?_
  rintro e w1 ⟨vx, vy, rfl, hT⟩
  obtain ⟨_, _, hrx, hry, _, hbl, _⟩ := hT
  obtain ⟨gx, cx, rfl⟩ := ownsRow_succ (k := 4095) hrx
  obtain ⟨gy, cy, rfl⟩ := ownsRow_succ (k := 4095) hry
  have c1 : w1.cell? ⟨gx, k, none⟩ = some (.int .i64 (px k)) := by have h := hrx.cells (g := gx) rfl k _ (XS_get hk); rw [Addr.add_lit, Nat.zero_add] at h; exact h
  have c2 : w1.cell? ⟨gy, k, none⟩ = some (.int .i64 (py k)) := by have h := hry.cells (g := gy) rfl k _ (YS_get hk); rw [Addr.add_lit, Nat.zero_add] at h; exact h
  have b1 : (k : Int) < 4096 := by omega
  have b0 : 0 ≤ (k : Int) := by omega
  clear hrx hry
  go_wp2
  go_quiet ((go_at_call 14; exact Calls.quiet_of_same ((point_any _ _ _).mono fun _ _ h => ⟨h.1, h.2.symm⟩)))
  go_wp2
  go_ret2
  exact ⟨rfl, below_draws hbl _⟩

set_option maxHeartbeats 400000 in
theorem refspot_out (n : Int) (h : n < 0 ∨ 4095 < n) (w : World) : Calls Try.prog 7 #[.int .i64 n] w fun e w' => e = .returned (.tuple #[.complex .f64 0 0, .bool false]) ∧ w = w' := by
  by_cases hn : n < 0
  · have d1 : decide (n < 0) = true := by simpa using hn
    go_enter Try.func7, Try.ntmps7
    go_wp2
    go_ret2
    exact ⟨rfl, rfl⟩
  · have d1 : decide (n < 0) = false := by simpa using hn
    have d2 : decide (4095 < n) = true := by simp; omega
    go_enter Try.func7, Try.ntmps7
    go_wp2
    go_ret2
    exact ⟨rfl, rfl⟩

end Go.Proofs.Ytaobbhihjeggiaa
