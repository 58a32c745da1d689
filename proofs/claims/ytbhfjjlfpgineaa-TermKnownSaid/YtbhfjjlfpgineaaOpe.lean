/- How the laws' arguments lie in memory; and that they read as they did where nothing old has turned. Conditions: none. -/
import Derived.Test.YtbhfjjlfpgineaaPre
import Derived.Deep.SlicePairs
import Derived.Deep.Matrix
import Derived.Carry
import Derived.HandedShaped
import Derived.ProofKit
import Derived.OpenShut
namespace Go.Proofs.Ytbhfjjlfpgineaa
open Go.RowKit Go.ChangeShapes Go.WideShapes Go.ChangeAt

theorem Try.cells3 : Try.prog.cellsOf 3 = 1 := by kernel_rfl
theorem Try.cells5 : Try.prog.cellsOf 5 = 1 := by kernel_rfl
theorem Try.cells41 : Try.prog.cellsOf 41 = 1 := by kernel_rfl
theorem Try.cells42 : Try.prog.cellsOf 42 = 1 := by kernel_rfl
theorem Try.cells40 : Try.prog.cellsOf 40 = 1 := by kernel_rfl
theorem Try.cells44 : Try.prog.cellsOf 44 = 2 := by kernel_rfl
theorem Try.cells61 : Try.prog.cellsOf 61 = 2 := by kernel_rfl
theorem own_knob : ownKnob Try.prog.godebug = none := by kernel_rfl
theorem laid_out : laidOutB Try.prog = true := by kernel_rfl
theorem read22 : Try.prog.readableRec 22 = true := by kernel_rfl
theorem read40 : Try.prog.readableRec 40 = true := by kernel_rfl
theorem read44 : Try.prog.readableRec 44 = true := by kernel_rfl
theorem read61 : Try.prog.readableRec 61 = true := by kernel_rfl
theorem read34 : Try.prog.readableRec 34 = true := by kernel_rfl
theorem row22 : 22 < Try.prog.types.size := of_decide_eq_true (by kernel_rfl)
theorem row40 : 40 < Try.prog.types.size := of_decide_eq_true (by kernel_rfl)
theorem row44 : 44 < Try.prog.types.size := of_decide_eq_true (by kernel_rfl)
theorem row61 : 61 < Try.prog.types.size := of_decide_eq_true (by kernel_rfl)
theorem row34 : 34 < Try.prog.types.size := of_decide_eq_true (by kernel_rfl)
theorem mx_of {w : World} (h : w.ShapedOpen Try.prog) : Mx w := Try.laysM185.s1_3 w h

def byteOf (z : Int) : UInt8 := UInt8.ofNat z.toNat
theorem byteOf_nat {z : Int} (h : (Lit.int .u8 z).wf = true) : ((byteOf z).toNat : Int) = z := by
  simp [Lit.wf, IntKind.min, IntKind.max, IntKind.bits, IntKind.signed] at h
  unfold byteOf
  rw [u8_ofNat]
  omega
theorem list_of {α : Type} {Q : Nat → α → Prop} : ∀ n, (∀ i, i < n → ∃ a, Q i a) → ∃ l : List α, l.length = n ∧ ∀ i (h : i < l.length), Q i l[i]
  | 0, _ => ⟨[], rfl, fun i h => by simp at h⟩
  | n + 1, h => by
    obtain ⟨l, hl, hq⟩ := list_of n fun i hi => h i (by omega)
    obtain ⟨a, ha⟩ := h n (by omega)
    refine ⟨l ++ [a], by simp [hl], fun i hi => ?_⟩
    by_cases hn : i < l.length
    · rw [List.getElem_append_left hn]
      exact hq i hn
    · have hin : i = n := by simp at hi; omega
      subst hin
      simp [hl, ha]

section
variable {H : Type} {enc : TypeId × Value → H} {W : World} {fuel : Nat}
theorem trod_byt {cs : List Value} {x : DataW H × List MemPlace} (h : DataW.trod enc Try.prog W 0 (fun _ => true) true fuel 41 cs = some x) :
    ∃ A xs c, cs = [.slice A (xs : List UInt8).length c] ∧ xs.length ≤ c ∧ c ≤ maxLen ∧ Byt W (fun b => b < W.heap.size) A xs := by
  rcases open_ints Try.underlying41 Try.underlying5 Try.cells5 h with ⟨rfl, _⟩ | ⟨a, len, cap, zs, rfl, _, hl, hm, hz, _, hcell, hwz⟩
  · exact ⟨none, [], 0, rfl, Nat.le_refl _, Nat.zero_le _, Byt.nil⟩
  · simp only [if_true] at hz
    have hlen : ((zs.take len).map byteOf).length = len := by simp; omega
    refine ⟨some a, (zs.take len).map byteOf, cap, by rw [hlen], by omega, hm, fun j hj => ?_⟩
    have hj' : j < len ∧ j < zs.length := by omega
    have hc := hcell j hj'.2
    have e : zs.getD j 0 = zs[j] := by simp [List.getD, hj'.2]
    rw [e] at hc
    refine ⟨a, rfl, ?_, ?_⟩
    · have := World.block_lt_of_cell? W _ hc
      rwa [block_of_plus] at this
    · rw [hc]
      have := byteOf_nat (hwz zs[j] (List.getElem_mem _))
      simp [this]
theorem trod_ints {cs : List Value} {x : DataW H × List MemPlace} (h : DataW.trod enc Try.prog W 0 (fun _ => true) true fuel 42 cs = some x) :
    ∃ A ns c, cs = [.slice A (ns : List Int).length c] ∧ Ints W (fun b => b < W.heap.size) A ns := by
  rcases open_ints Try.underlying42 Try.underlying3 Try.cells3 h with ⟨rfl, _⟩ | ⟨a, len, cap, zs, rfl, _, hl, hm, hz, _, hcell, hwz⟩
  · exact ⟨none, [], 0, rfl, fun j hj => by simp at hj⟩
  · simp only [if_true] at hz
    have hlen : (zs.take len).length = len := by simp; omega
    refine ⟨some a, zs.take len, cap, by rw [hlen], fun j hj => ?_⟩
    have hj' : j < len ∧ j < zs.length := by omega
    have hc := hcell j hj'.2
    have e : zs.getD j 0 = zs[j] := by simp [List.getD, hj'.2]
    rw [e] at hc
    refine ⟨a, rfl, ?_, ?_⟩
    · have := World.block_lt_of_cell? W _ hc
      rwa [block_of_plus] at this
    · rw [hc]
      simp
theorem trod_prts {cs : List Value} {x : DataW H × List MemPlace} (h : DataW.trod enc Try.prog W 0 (fun _ => true) true fuel 40 cs = some x) :
    ∃ A ps c, cs = [.slice A (ps : List Prt).length c] ∧ ps.length ≤ maxLen ∧ Prts W (fun b => b < W.heap.size) A ps := by
  rcases Go.Deep.open_slice_pairs Try.underlying40 Try.underlying44 Try.cells44 rfl rfl Try.cells42 Try.cells41 h with ⟨rfl, _⟩ | ⟨a, len, cap, m, n, V0, V1, D0, D1, P0, P1, rfl, _, hl, hm, hmm, _, hx⟩
  · exact ⟨none, [], 0, rfl, Nat.zero_le _, fun j hj => by simp at hj⟩
  · simp only [if_true] at hmm
    obtain ⟨ps, hpl, hp⟩ := list_of (α := Prt) (Q := fun j p => ∃ An cn Ab cb, W.cell? (a.add (j * 2)) = some (.slice An p.1.length cn) ∧ W.cell? (a.add (j * 2 + 1)) = some (.slice Ab p.2.length cb) ∧
      p.2.length ≤ cb ∧ cb ≤ maxLen ∧ Ints W (fun b => b < W.heap.size) An p.1 ∧ Byt W (fun b => b < W.heap.size) Ab p.2) len fun i hi => by
      obtain ⟨h1, h2, h3, h4⟩ := hx i (by omega)
      obtain ⟨An, ns, cn, e1, q1⟩ := trod_ints h3
      obtain ⟨Ab, bs, cb, e2, q2, q3, q4⟩ := trod_byt h4
      simp only [List.cons.injEq, and_true] at e1 e2
      rw [e1] at h1
      rw [e2] at h2
      exact ⟨(ns, bs), An, cn, Ab, cb, h1, h2, q2, q3, q1, q4⟩
    refine ⟨some a, ps, cap, by rw [hpl], by omega, fun j hj => ?_⟩
    obtain ⟨An, cn, Ab, cb, h1, h2, h3, h4, h5, h6⟩ := hp j hj
    refine ⟨a, An, cn, Ab, cb, rfl, ?_, h1, h2, h3, h4, h5, h6⟩
    have := World.block_lt_of_cell? W _ h1
    rwa [block_of_plus] at this
set_option maxRecDepth 100000 in
theorem open_opns {base : Nat} {v : Value} {d : DataW H} {p : List MemPlace} (hval : Value.okWide Try.prog W .any base 22 v) (h : DataW.Trod enc Try.prog W 0 (fun _ => true) true 22 v d p) :
    ∃ A l c, v = .slice A (l : List Opn).length c ∧ l.length ≤ maxLen ∧ Opns W (fun b => b < W.heap.size) A l := by
  obtain ⟨a1, len, cap, rfl⟩ := okWide_slice Try.underlying22 hval
  obtain ⟨fuel, hf⟩ := h
  rcases Go.Deep.open_slice_pairs Try.underlying22 Try.underlying61 Try.cells61 rfl rfl Try.cells3 Try.cells40 hf with ⟨hcs, _⟩ | ⟨a, len', cap', m, n, V0, V1, D0, D1, P0, P1, hcs, _, hl, hm, hmm, _, hx⟩
  · simp [Value.cells] at hcs
    obtain ⟨rfl, rfl, rfl⟩ := hcs
    exact ⟨none, [], 0, rfl, Nat.zero_le _, fun j hj => by simp at hj⟩
  · simp [Value.cells] at hcs
    obtain ⟨rfl, rfl, rfl⟩ := hcs
    simp only [if_true] at hmm
    obtain ⟨l, hpl, hp⟩ := list_of (α := Opn) (Q := fun i x => ∃ Ap cp, W.cell? (a.add (i * 2)) = some (.int .i64 x.1) ∧ W.cell? (a.add (i * 2 + 1)) = some (.slice Ap x.2.length cp) ∧ x.2.length ≤ maxLen ∧ Prts W (fun b => b < W.heap.size) Ap x.2) len fun i hi => by
      obtain ⟨h1, h2, h3, h4⟩ := hx i (by omega)
      obtain ⟨z, e1, _⟩ := DataW.trod_int Try.underlying3 h3
      obtain ⟨Ap, ps, cp, e2, q2, q3⟩ := trod_prts h4
      simp only [List.cons.injEq, and_true] at e1 e2
      rw [e1] at h1
      rw [e2] at h2
      exact ⟨(z, ps), Ap, cp, h1, h2, q2, q3⟩
    refine ⟨some a, l, cap, by rw [hpl], by omega, fun j hj => ?_⟩
    obtain ⟨Ap, cp, h1, h2, h3, h4⟩ := hp j hj
    refine ⟨a, Ap, cp, rfl, ?_, h1, h2, h3, h4⟩
    have := World.block_lt_of_cell? W _ h1
    rwa [block_of_plus] at this
set_option maxRecDepth 100000 in
theorem open_prts {base : Nat} {v : Value} {d : DataW H} {p : List MemPlace} (hval : Value.okWide Try.prog W .any base 40 v) (h : DataW.Trod enc Try.prog W 0 (fun _ => true) true 40 v d p) :
    ∃ A ps c, v = .slice A (ps : List Prt).length c ∧ ps.length ≤ maxLen ∧ Prts W (fun b => b < W.heap.size) A ps := by
  obtain ⟨a1, len, cap, rfl⟩ := okWide_slice Try.underlying40 hval
  obtain ⟨fuel, hf⟩ := h
  obtain ⟨A, ps, c, e, h1, h2⟩ := trod_prts hf
  simp [Value.cells] at e
  obtain ⟨rfl, rfl, rfl⟩ := e
  exact ⟨_, ps, _, rfl, h1, h2⟩
end
end Go.Proofs.Ytbhfjjlfpgineaa
