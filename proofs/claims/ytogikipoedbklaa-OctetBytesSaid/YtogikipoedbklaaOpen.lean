/- How arguments of bytes, and of slices of bytes, lie in memory; and that they read as they did where nothing old has turned. Conditions: none. -/
import Derived.Test.YtogikipoedbklaaNumbers
import Derived.Deep.Matrix
import Derived.Carry
namespace Go.Proofs.Ytogikipoedbklaa
open Go.RowKit Go.ChangeShapes Go.WideShapes Go.ChangeAt

theorem Try.cells5 : Try.prog.cellsOf 5 = 1 := by kernel_rfl
theorem Try.cells24 : Try.prog.cellsOf 24 = 1 := by kernel_rfl

def byteOf (z : Int) : UInt8 := UInt8.ofNat z.toNat
theorem byteOf_nat {z : Int} (h : (Lit.int .u8 z).wf = true) : ((byteOf z).toNat : Int) = z := by
  simp [Lit.wf, IntKind.min, IntKind.max, IntKind.bits, IntKind.signed] at h
  unfold byteOf
  rw [u8_ofNat]
  omega

section
variable {H : Type} {enc : TypeId × Value → H} {W : World} {base : Nat}
theorem open_byt {v : Value} {d : DataW H} {p : List MemPlace} (hval : Value.okWide Try.prog W .any base 24 v) (h : DataW.Trod enc Try.prog W 0 (fun _ => true) true 24 v d p) :
    ∃ A xs c, v = .slice A (xs : List UInt8).length c ∧ xs.length ≤ c ∧ c ≤ maxLen ∧ Byt W (fun b => b < W.heap.size) A xs := by
  obtain ⟨a1, len, cap, rfl⟩ := okWide_slice Try.underlying24 hval
  obtain ⟨fuel, hf⟩ := h
  rcases open_ints Try.underlying24 Try.underlying5 Try.cells5 hf with ⟨hcs, hx⟩ | ⟨a, len', cap', zs, hcs, _, hl, hm, hz, hx, hcell, hwz⟩
  · simp [Value.cells] at hcs
    obtain ⟨rfl, rfl, rfl⟩ := hcs
    exact ⟨none, [], 0, rfl, Nat.le_refl _, Nat.zero_le _, Byt.nil⟩
  · simp [Value.cells] at hcs
    obtain ⟨rfl, rfl, rfl⟩ := hcs
    simp only [if_true] at hz
    refine ⟨some a, (zs.take len).map byteOf, cap, by simp; omega, by simp; omega, hm, fun j hj => ?_⟩
    have hj' : j < len ∧ j < zs.length := by simp at hj; omega
    have hc := hcell j hj'.2
    have e : zs.getD j 0 = zs[j] := by simp [List.getD, hj'.2]
    rw [e] at hc
    refine ⟨a, rfl, ?_, ?_⟩
    · have := World.block_lt_of_cell? W _ hc
      rwa [block_of_plus] at this
    · rw [hc]
      have := byteOf_nat (hwz zs[j] (List.getElem_mem _))
      simp [this]

theorem open_lst {v : Value} {d : DataW H} {p : List MemPlace} (hval : Value.okWide Try.prog W .any base 36 v) (h : DataW.Trod enc Try.prog W 0 (fun _ => true) true 36 v d p) :
    ∃ A ps c, v = .slice A (ps : List (List UInt8)).length c ∧ ps.length ≤ maxLen ∧ Lst W (fun b => b < W.heap.size) A ps := by
  obtain ⟨a1, len, cap, rfl⟩ := okWide_slice Try.underlying36 hval
  obtain ⟨fuel, hf⟩ := h
  rcases Go.Deep.open_int_rows Try.underlying36 Try.underlying24 Try.underlying5 Try.cells24 Try.cells5 hf with ⟨hcs, hx⟩ | ⟨a, len', cap', A, L, C, Z, hcs, _, hl, hm, hx, hrow⟩
  · simp [Value.cells] at hcs
    obtain ⟨rfl, rfl, rfl⟩ := hcs
    exact ⟨none, [], 0, rfl, Nat.zero_le _, Lst.nil⟩
  · simp [Value.cells] at hcs
    obtain ⟨rfl, rfl, rfl⟩ := hcs
    refine ⟨some a, (List.range len).map fun r => ((Z r).take (L r)).map byteOf, cap, by simp, by simp; omega, fun j hj => ?_⟩
    have hj' : j < len := by simpa using hj
    obtain ⟨h1, h2, h3, h4, h5, h6, h7⟩ := hrow j (by omega)
    have hlen : (((Z j).take (L j)).map byteOf).length = L j := by simp; omega
    refine ⟨a, A j, C j, rfl, ?_, ?_, ?_, h3, ?_⟩
    · have := World.block_lt_of_cell? W _ h1
      rwa [block_of_plus] at this
    · simp only [List.getElem_map, List.getElem_range, hlen]
      exact h1
    · simp only [List.getElem_map, List.getElem_range, hlen]
      exact h2
    · simp only [List.getElem_map, List.getElem_range]
      intro i hi
      rw [hlen] at hi
      have hA : ∃ a', A j = some a' := by
        cases hAj : A j with
        | none => have := h6 hAj; omega
        | some a' => exact ⟨a', rfl⟩
      obtain ⟨a', ha'⟩ := hA
      have hc := (h7 a' ha').2 i (by omega)
      have hiz : i < (Z j).length := by omega
      have e : (Z j).getD i 0 = (Z j)[i] := by simp [List.getD, hiz]
      rw [e] at hc
      refine ⟨a', ha', ?_, ?_⟩
      · have := World.block_lt_of_cell? W _ hc
        rwa [block_of_plus] at this
      · rw [hc]
        have := byteOf_nat (h5 (Z j)[i] (List.getElem_mem _))
        simp [this]

theorem laid_out : laidOutB Try.prog = true := by kernel_rfl
theorem read24 : Try.prog.readableRec 24 = true := by kernel_rfl
theorem read36 : Try.prog.readableRec 36 = true := by kernel_rfl
theorem row24 : 24 < Try.prog.types.size := of_decide_eq_true (by kernel_rfl)
theorem row36 : 36 < Try.prog.types.size := of_decide_eq_true (by kernel_rfl)
end
end Go.Proofs.Ytogikipoedbklaa
