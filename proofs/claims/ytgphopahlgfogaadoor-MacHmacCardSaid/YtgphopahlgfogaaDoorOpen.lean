/- How arguments of bytes lie in memory, that they read as they did where nothing old has turned, and what the listed tables are. Conditions: none. -/
import Derived.Test.YtgphopahlgfogaaDoorAlive
import Derived.Deep.Matrix
import Derived.Carry
import Derived.ProofKit
import Derived.LaidMore
import Derived.OpenShut
import Derived.Stop.Joined
import Derived.Lib.LaidTab
import Derived.Stop.LaidErr
namespace Go.Proofs.YtgphopahlgfogaaDoor
open Go.RowKit Go.ChangeShapes Go.WideShapes Go.ChangeAt

theorem Tryd.cells5 : Tryd.prog.cellsOf 5 = 1 := by kernel_rfl
theorem own_knob : ownKnob Tryd.prog.godebug = none := by kernel_rfl
def byteOf (z : Int) : UInt8 := UInt8.ofNat z.toNat
theorem byteOf_nat {z : Int} (h : (Lit.int .u8 z).wf = true) : ((byteOf z).toNat : Int) = z := by
  simp [Lit.wf, IntKind.min, IntKind.max, IntKind.bits, IntKind.signed] at h
  unfold byteOf
  rw [u8_ofNat]
  omega
section
variable {H : Type} {enc : TypeId × Value → H} {W : World} {base : Nat}
theorem open_byt {v : Value} {d : DataW H} {p : List MemPlace} (hval : Value.okWide Tryd.prog W .any base 22 v) (h : DataW.Trod enc Tryd.prog W 0 (fun _ => true) true 22 v d p) :
    ∃ A xs c, v = .slice A (xs : List UInt8).length c ∧ xs.length ≤ c ∧ c ≤ maxLen ∧ Byt W (fun b => b < W.heap.size) A xs := by
  obtain ⟨a1, len, cap, rfl⟩ := okWide_slice Tryd.underlying22 hval
  obtain ⟨fuel, hf⟩ := h
  rcases open_ints Tryd.underlying22 Tryd.underlying5 Tryd.cells5 hf with ⟨hcs, hx⟩ | ⟨a, len', cap', zs, hcs, _, hl, hm, hz, hx, hcell, hwz⟩
  · simp [Value.cells] at hcs
    obtain ⟨rfl, rfl, rfl⟩ := hcs
    exact ⟨none, [], 0, rfl, Nat.le_refl _, Nat.zero_le _, Byt.nil⟩
  · simp [Value.cells] at hcs
    obtain ⟨rfl, rfl, rfl⟩ := hcs
    simp only [if_true] at hz
    refine ⟨some a, (zs.take len).map byteOf, cap, by simp; omega, by simp; omega, hm, fun j hj => ?_⟩
    have hj' : j < len ∧ j < zs.length := by simp at hj; omega
    have hc := hcell j hj'.2
    have e : zs.getD j 0 = zs[j] := by simp [List.getD, hj'.2]
    rw [e] at hc
    refine ⟨a, rfl, ?_, ?_⟩
    · have := World.block_lt_of_cell? W _ hc
      rwa [block_of_plus] at this
    · rw [hc]
      have := byteOf_nat (hwz zs[j] (List.getElem_mem _))
      simp [this]
theorem laid_out : laidOutB Tryd.prog = true := by kernel_rfl
theorem read22 : Tryd.prog.readableRec 22 = true := by kernel_rfl
theorem row22 : 22 < Tryd.prog.types.size := of_decide_eq_true (by kernel_rfl)
end
theorem below_of_grown {w w' : World} (hg : w.grownBy w' none) : Below w.heap.size w w' := (Below.refl w.heap.size w).grown hg (Nat.le_refl _) (fun _ h => by cases h)

/-- The listed variables. -/
def laid2 : List (String × DataW Unit) := [("missive/sha.squares", Rows.laid_missive_sha_squares), ("missive/sha.cubes", Rows.laid_missive_sha_cubes)]
theorem g0 : Tryd.prog.globalNamed "missive/sha.squares" = some 0 := by kernel_rfl
theorem g1 : Tryd.prog.globalNamed "missive/sha.cubes" = some 1 := by kernel_rfl
theorem type0 : (Tryd.prog.globals[0]?).map (·.type) = some 50 := by kernel_rfl
theorem type1 : (Tryd.prog.globals[1]?).map (·.type) = some 64 := by kernel_rfl
theorem under64 : Tryd.prog.underlying 64 = some (.array 80 47) := by kernel_rfl
theorem cells47 : Tryd.prog.cellsOf 47 = 1 := by kernel_rfl
theorem cells50 : Tryd.prog.cellsOf 50 = 8 := by kernel_rfl
theorem cells64 : Tryd.prog.cellsOf 64 = 80 := by kernel_rfl
theorem sq_data : (Rows.laid_missive_sha_squares : DataW Unit) = Lib.tabData .u64 (sqN.map fun n : Nat => (n : Int)) := by rfl
theorem cu_data : (Rows.laid_missive_sha_cubes : DataW Unit) = Lib.tabData .u64 (cuN.map fun n : Nat => (n : Int)) := by rfl
theorem tab_of_laid {W : World} (h : laidMetH Tryd.prog laid2 W) : Tab W := by
  rw [MakeChecks.laidMetH_plain _ _ _ (by kernel_rfl)] at h
  unfold laid2 at h
  rw [sq_data, cu_data] at h
  have h1 := Lib.tabIs_of_head g0 type0 Tryd.underlying50 Tryd.underlying47 cells47 cells50 h
  have h2 := Lib.tabIs_of_head g1 type1 under64 Tryd.underlying47 cells47 cells64 h.tail
  refine ⟨fun i hi => ?_, fun i hi => ?_⟩
  · have hs : sqN.length = 8 := rfl
    rw [h1.cell g0 i (by simp [hs]; exact hi)]
    simp [List.getD_eq_getElem?_getD, hs, hi]
  · have hs : cuN.length = 80 := rfl
    rw [h2.cell g1 i (by simp [hs]; exact hi)]
    simp [List.getD_eq_getElem?_getD, hs, hi]
set_option maxRecDepth 100000 in
theorem door_met (os : Os) (args : Array Value) : laidMetH Tryd.prog laid2 ((World.doorLaid Tryd.prog 400 os).forCall (fun _ _ => 0) ⟨#[], args, []⟩).memory :=
  laidMetH_of_parts3 (fuel := 81) (laidMet_of_run' 8 (by kernel_rfl) (by kernel_rfl)) (by kernel_rfl) (by kernel_rfl)
end Go.Proofs.YtgphopahlgfogaaDoor
