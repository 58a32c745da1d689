/- Arguments that are structs, or keys, by value. Conditions: none. -/
import Derived.Test.YtbhfjjlfpgineaaOpe
import Derived.Lib.SmallJoins
namespace Go.Proofs.Ytbhfjjlfpgineaa
open Go.RowKit Go.ChangeShapes Go.WideShapes Go.ChangeAt Go.Joins

section
variable {H : Type} {enc : TypeId × Value → H} {W : World} {base : Nat} {v : Value} {d : DataW H} {p : List MemPlace}
set_option maxRecDepth 100000 in
theorem open_opn (hval : Value.okWide Try.prog W .any base 61 v) (h : DataW.Trod enc Try.prog W 0 (fun _ => true) true 61 v d p) :
    ∃ k A ps c, v = .agg #[.int .i64 k, .slice A (ps : List Prt).length c] ∧ ps.length ≤ maxLen ∧ Prts W (fun b => b < W.heap.size) A ps := by
  obtain ⟨v0, v1, y0, y1, n, rfl, _, _, h0, h1⟩ := open_agg2 Try.underlying61 (by kernel_rfl) Try.cells61 hval h
  obtain ⟨z, e1, _⟩ := DataW.trod_int Try.underlying3 h0
  obtain ⟨A, ps, c, e2, q1, q2⟩ := trod_prts h1
  simp only [List.cons.injEq, and_true] at e1 e2
  subst e1 e2
  exact ⟨z, A, ps, c, rfl, q1, q2⟩
set_option maxRecDepth 100000 in
theorem open_prt (hval : Value.okWide Try.prog W .any base 44 v) (h : DataW.Trod enc Try.prog W 0 (fun _ => true) true 44 v d p) :
    ∃ A ns c B bs cb, v = .agg #[.slice A (ns : List Int).length c, .slice B (bs : List UInt8).length cb] ∧ Ints W (fun b => b < W.heap.size) A ns ∧ bs.length ≤ cb ∧ cb ≤ maxLen ∧ Byt W (fun b => b < W.heap.size) B bs := by
  obtain ⟨v0, v1, y0, y1, n, rfl, _, _, h0, h1⟩ := open_agg2 Try.underlying44 (by kernel_rfl) Try.cells44 hval h
  obtain ⟨A, ns, c, e1, q1⟩ := trod_ints h0
  obtain ⟨B, bs, cb, e2, q2, q3, q4⟩ := trod_byt h1
  simp only [List.cons.injEq, and_true] at e1 e2
  subst e1 e2
  exact ⟨A, ns, c, B, bs, cb, rfl, q1, q2, q3, q4⟩
end
end Go.Proofs.Ytbhfjjlfpgineaa
