/- fedq.Take, and its reference. Conditions: the numbers are of two bytes. -/
import Derived.Test.YtklcjjmeknajlaaA
import Derived.OwnWalk
namespace Go.Proofs.Ytklcjjmeknajlaa
open Go.RowKit
/-- The last number then; whether it is to be done; whether it is to be acknowledged. -/
def tkL (l i : Nat) : Nat := if i = l + 1 then i else l
def tkD (l i : Nat) : Bool := decide (i = l + 1)
def tkT (l i : Nat) : Bool := decide (i = l + 1 ∨ (1 ≤ i ∧ i ≤ l))
def TakE (w : World) (l i : Nat) (e : Ending) (w' : World) : Prop := e = .returned (.tuple #[.int .u16 (tkL l i : Int), .bool (tkD l i), .bool (tkT l i)]) ∧ w = w'
theorem tk_new {l i : Nat} (h : i = l + 1) : tkL l i = i ∧ tkD l i = true ∧ tkT l i = true := by simp [tkL, tkD, tkT, h]
theorem tk_old {l i : Nat} (h : ¬ i = l + 1) (h1 : 1 ≤ i) (h2 : i ≤ l) : tkL l i = l ∧ tkD l i = false ∧ tkT l i = true := by simp [tkL, tkD, tkT, h, h1, h2]
theorem tk_no {l i : Nat} (h : ¬ i = l + 1) (h1 : ¬ (1 ≤ i ∧ i ≤ l)) : tkL l i = l ∧ tkD l i = false ∧ tkT l i = false := by
  refine ⟨by simp [tkL, h], by simp [tkD, h], ?_⟩
  simp only [tkT, decide_eq_false_iff_not]
  rintro (h2 | h2)
  · exact h h2
  · exact h1 h2
theorem take_any (w : World) (l i : Nat) (hl : l < 65536) (hi : i < 65536) : Calls Try.prog 5 #[.int .u16 (l : Int), .int .u16 (i : Int)] w (TakE w l i) := by
  by_cases h : i = l + 1
  · obtain ⟨e1, e2, e3⟩ := tk_new h
    unfold TakE
    rw [e1, e2, e3]
    clear e1 e2 e3
    have d1 : (i : Int) = (l : Int) + 1 := by omega
    clear h
    go_enter Try.func5, Try.ntmps5
    go_wp2
    go_ret3
    exact ⟨rfl, rfl⟩
  · have d1 : ¬ (i : Int) = (l : Int) + 1 := by omega
    by_cases h1 : 1 ≤ i
    · have d2 : (1 : Int) ≤ (i : Int) := by omega
      by_cases h2 : i ≤ l
      · obtain ⟨e1, e2, e3⟩ := tk_old h h1 h2
        unfold TakE
        rw [e1, e2, e3]
        clear e1 e2 e3
        have d3 : (i : Int) ≤ (l : Int) := by omega
        clear h h1 h2
        go_enter Try.func5, Try.ntmps5
        go_wp2
        go_ret3
        exact ⟨rfl, rfl⟩
      · obtain ⟨e1, e2, e3⟩ := tk_no h (by omega)
        unfold TakE
        rw [e1, e2, e3]
        clear e1 e2 e3
        have d3 : ¬ (i : Int) ≤ (l : Int) := by omega
        clear h h1 h2
        go_enter Try.func5, Try.ntmps5
        go_wp2
        go_ret3
        exact ⟨rfl, rfl⟩
    · obtain ⟨e1, e2, e3⟩ := tk_no h (by omega)
      unfold TakE
      rw [e1, e2, e3]
      clear e1 e2 e3
      have d2 : ¬ (1 : Int) ≤ (i : Int) := by omega
      clear h h1
      go_enter Try.func5, Try.ntmps5
      go_wp2
      go_ret3
      exact ⟨rfl, rfl⟩
theorem rtake_any (w : World) (l i : Nat) (hl : l < 65536) (hi : i < 65536) : Calls Try.prog 6 #[.int .u16 (l : Int), .int .u16 (i : Int)] w (TakE w l i) := by
  by_cases h : i = l + 1
  · obtain ⟨e1, e2, e3⟩ := tk_new h
    unfold TakE
    rw [e1, e2, e3]
    clear e1 e2 e3
    have d1 : (i : Int) = (l : Int) + 1 := by omega
    clear h
    go_enter Try.func6, Try.ntmps6
    go_wp2
    go_ret3
    exact ⟨rfl, rfl⟩
  · have d1 : ¬ (i : Int) = (l : Int) + 1 := by omega
    by_cases h1 : 1 ≤ i
    · have d2 : (1 : Int) ≤ (i : Int) := by omega
      by_cases h2 : i ≤ l
      · obtain ⟨e1, e2, e3⟩ := tk_old h h1 h2
        unfold TakE
        rw [e1, e2, e3]
        clear e1 e2 e3
        have d3 : (i : Int) ≤ (l : Int) := by omega
        clear h h1 h2
        go_enter Try.func6, Try.ntmps6
        go_wp2
        go_ret3
        exact ⟨rfl, rfl⟩
      · obtain ⟨e1, e2, e3⟩ := tk_no h (by omega)
        unfold TakE
        rw [e1, e2, e3]
        clear e1 e2 e3
        have d3 : ¬ (i : Int) ≤ (l : Int) := by omega
        clear h h1 h2
        go_enter Try.func6, Try.ntmps6
        go_wp2
        go_ret3
        exact ⟨rfl, rfl⟩
    · obtain ⟨e1, e2, e3⟩ := tk_no h (by omega)
      unfold TakE
      rw [e1, e2, e3]
      clear e1 e2 e3
      have d2 : ¬ (1 : Int) ≤ (i : Int) := by omega
      clear h h1
      go_enter Try.func6, Try.ntmps6
      go_wp2
      go_ret3
      exact ⟨rfl, rfl⟩
end Go.Proofs.Ytklcjjmeknajlaa
