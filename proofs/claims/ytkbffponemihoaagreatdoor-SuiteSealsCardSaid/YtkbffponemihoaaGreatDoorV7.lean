/- How the laws' arguments lie in memory, that they read as they did where nothing old has turned, and what the listed tables are. Conditions: none. -/
import Derived.Test.YtkbffponemihoaaGreatDoorV6
import Derived.Test.YtkbffponemihoaaGreatDoorTie
import Derived.Test.YtkbffponemihoaaGreatDoorCards
import Derived.Deep.Matrix
import Derived.Carry
import Derived.ProofKit
import Derived.LaidMore
import Derived.OpenShut
import Derived.Stop.Joined
import Derived.Lib.LaidTab
import Derived.Stop.LaidErr
namespace Go.Proofs.YtkbffponemihoaaGreatDoor
open Go.RowKit Go.ChangeShapes Go.WideShapes Go.ChangeAt T
theorem cellsOf5 : Tryz.prog.cellsOf 5 = 1 := by kernel_rfl
theorem cellsOf25 : Tryz.prog.cellsOf 22 = 32 := by kernel_rfl
theorem cellsOf40 : Tryz.prog.cellsOf 23 = 1 := by kernel_rfl
theorem und22 : Tryz.prog.underlying 46 = some (.slice 23) := by kernel_rfl
theorem und40 : Tryz.prog.underlying 23 = some (.slice 5) := by kernel_rfl
theorem und25 : Tryz.prog.underlying 22 = some (.array 32 5) := by kernel_rfl
theorem und5 : Tryz.prog.underlying 5 = some (.int .u8) := by kernel_rfl
theorem und4 : Tryz.prog.underlying 4 = some .bool := by kernel_rfl
theorem und3 : Tryz.prog.underlying 3 = some (.int .i64) := by kernel_rfl
theorem own_knob : ownKnob Tryz.prog.godebug = none := by kernel_rfl
def byteOf (z : Int) : UInt8 := UInt8.ofNat z.toNat
theorem byteOf_nat {z : Int} (h : (Lit.int .u8 z).wf = true) : ((byteOf z).toNat : Int) = z := by
  simp [Lit.wf, IntKind.min, IntKind.max, IntKind.bits, IntKind.signed] at h
  unfold byteOf
  rw [u8_ofNat']
  omega
def vnum : Value → Int
  | .int _ z => z
  | _ => 0
section
variable {H : Type} {enc : TypeId × Value → H} {W : World} {base : Nat} {v : Value} {d : DataW H} {p : List MemPlace}
set_option maxRecDepth 100000 in
theorem open_byt (hval : Value.okWide Tryz.prog W .any base 23 v) (h : DataW.Trod enc Tryz.prog W 0 (fun _ => true) true 23 v d p) :
    ∃ A xs c, v = .slice A (xs : List UInt8).length c ∧ xs.length ≤ c ∧ c ≤ maxLen ∧ Byt W (fun b => b < W.heap.size) A xs := by
  obtain ⟨a1, len, cap, rfl⟩ := okWide_slice und40 hval
  obtain ⟨fuel, hf⟩ := h
  rcases open_ints und40 und5 cellsOf5 hf with ⟨hcs, hx⟩ | ⟨a, len', cap', zs, hcs, _, hl, hm, hz, hx, hcell, hwz⟩
  · simp [Value.cells] at hcs
    obtain ⟨rfl, rfl, rfl⟩ := hcs
    exact ⟨none, [], 0, rfl, Nat.le_refl _, Nat.zero_le _, Byt.nil⟩
  · simp [Value.cells] at hcs
    obtain ⟨rfl, rfl, rfl⟩ := hcs
    simp only [if_true] at hz
    refine ⟨some a, (zs.take len).map byteOf, cap, by simp; omega, by simp; omega, hm, fun j hj => ?_⟩
    have hj' : j < len ∧ j < zs.length := by simp at hj; omega
    have hc := hcell j hj'.2
    have e : zs.getD j 0 = zs[j] := by simp [List.getD, hj'.2]
    rw [e] at hc
    refine ⟨a, rfl, ?_, ?_⟩
    · have := World.block_lt_of_cell? W _ hc
      rwa [block_of_plus] at this
    · rw [hc]
      have := byteOf_nat (hwz zs[j] (List.getElem_mem _))
      simp [this]
set_option maxRecDepth 100000 in
theorem open_lst (hval : Value.okWide Tryz.prog W .any base 46 v) (h : DataW.Trod enc Tryz.prog W 0 (fun _ => true) true 46 v d p) :
    ∃ A ps c, v = .slice A (ps : List (List UInt8)).length c ∧ ps.length ≤ maxLen ∧ Lst W (fun b => b < W.heap.size) A ps := by
  obtain ⟨a1, len, cap, rfl⟩ := okWide_slice und22 hval
  obtain ⟨fuel, hf⟩ := h
  rcases Go.Deep.open_int_rows und22 und40 und5 cellsOf40 cellsOf5 hf with ⟨hcs, hx⟩ | ⟨a, len', cap', A, L, C, Z, hcs, _, hl, hm, hx, hrow⟩
  · simp [Value.cells] at hcs
    obtain ⟨rfl, rfl, rfl⟩ := hcs
    exact ⟨none, [], 0, rfl, Nat.zero_le _, Lst.nil⟩
  · simp [Value.cells] at hcs
    obtain ⟨rfl, rfl, rfl⟩ := hcs
    refine ⟨some a, (List.range len).map fun r => ((Z r).take (L r)).map byteOf, cap, by simp, by simp; omega, fun j hj => ?_⟩
    have hj' : j < len := by simpa using hj
    obtain ⟨h1, h2, h3, h4, h5, h6, h7⟩ := hrow j (by omega)
    have hlen : (((Z j).take (L j)).map byteOf).length = L j := by simp; omega
    refine ⟨a, A j, C j, rfl, ?_, ?_, ?_, h3, ?_⟩
    · have := World.block_lt_of_cell? W _ h1
      rwa [block_of_plus] at this
    · simp only [List.getElem_map, List.getElem_range, hlen]
      exact h1
    · simp only [List.getElem_map, List.getElem_range, hlen]
      exact h2
    · simp only [List.getElem_map, List.getElem_range]
      intro i hi
      rw [hlen] at hi
      have hA : ∃ a', A j = some a' := by
        cases hAj : A j with
        | none => have := h6 hAj; omega
        | some a' => exact ⟨a', rfl⟩
      obtain ⟨a', ha'⟩ := hA
      have hc := (h7 a' ha').2 i (by omega)
      have hiz : i < (Z j).length := by omega
      have e : (Z j).getD i 0 = (Z j)[i] := by simp [List.getD, hiz]
      rw [e] at hc
      refine ⟨a', ha', ?_, ?_⟩
      · have := World.block_lt_of_cell? W _ hc
        rwa [block_of_plus] at this
      · rw [hc]
        have := byteOf_nat (h5 (Z j)[i] (List.getElem_mem _))
        simp [this]
set_option maxRecDepth 100000 in
theorem open_key (hval : Value.okWide Tryz.prog W .any base 22 v) (h : DataW.Trod enc Tryz.prog W 0 (fun _ => true) true 22 v d p) :
    ∃ ks : List UInt8, v = .agg (u8s ks).toArray ∧ ks.length = 32 := by
  unfold Value.okWide at hval
  rw [und25] at hval
  obtain ⟨cs, rfl, _, _⟩ := hval
  obtain ⟨fuel, hf⟩ := h
  obtain ⟨l⟩ := cs
  obtain ⟨xs, m, _, _, hl, _, hel⟩ := DataW.trod_array und25 hf
  simp only [Value.cells] at hl hel
  rw [cellsOf25] at hl
  have hat : ∀ i, i < 32 → ∃ z, l[i]? = some (.int .u8 z) ∧ (Lit.int .u8 z).wf = true := fun i hi => by
    have h1 := hel i hi
    rw [cellsOf5, Nat.mul_one, List.getElem?_eq_getElem (by omega)] at h1
    obtain ⟨z, e, _, hw⟩ := DataW.trod_int und5 h1
    refine ⟨z, ?_, hw⟩
    have e2 : ((l.drop i).take 1)[0]? = some (.int .u8 z) := by rw [e]; rfl
    rw [List.getElem?_take, if_pos (by omega), List.getElem?_drop, Nat.add_zero] at e2
    exact e2
  refine ⟨l.map fun v => byteOf (vnum v), ?_, by simpa using hl⟩
  congr 1
  apply Array.ext'
  show l = u8s (l.map fun v => byteOf (vnum v))
  unfold u8s
  apply List.ext_getElem?
  intro j
  by_cases hj : j < 32
  · obtain ⟨z, e, hw⟩ := hat j hj
    rw [List.map_map, List.getElem?_map, e]
    simp [vnum, byteOf_nat hw]
  · rw [List.getElem?_eq_none (by omega), List.getElem?_eq_none (by simp; omega)]
set_option maxRecDepth 100000 in
theorem open_u8 (hval : Value.okWide Tryz.prog W .any base 5 v) (h : DataW.Trod enc Tryz.prog W 0 (fun _ => true) true 5 v d p) : ∃ x : UInt8, v = .int .u8 (x.toNat : Int) := by
  obtain ⟨z, rfl⟩ := okWide_int und5 hval
  obtain ⟨fuel, hf⟩ := h
  obtain ⟨z', e, _, hw⟩ := DataW.trod_int und5 hf
  simp [Value.cells] at e
  subst e
  exact ⟨byteOf z, by rw [byteOf_nat hw]⟩
end
set_option maxRecDepth 100000 in
theorem laid_out : laidOutB Tryz.prog = true := by kernel_rfl
theorem read3 : Tryz.prog.readableRec 3 = true := by kernel_rfl
theorem read4 : Tryz.prog.readableRec 4 = true := by kernel_rfl
theorem read5 : Tryz.prog.readableRec 5 = true := by kernel_rfl
theorem read22 : Tryz.prog.readableRec 46 = true := by kernel_rfl
theorem read25 : Tryz.prog.readableRec 22 = true := by kernel_rfl
theorem read40 : Tryz.prog.readableRec 23 = true := by kernel_rfl
theorem row3 : 3 < Tryz.prog.types.size := of_decide_eq_true (by kernel_rfl)
theorem row4 : 4 < Tryz.prog.types.size := of_decide_eq_true (by kernel_rfl)
theorem row5 : 5 < Tryz.prog.types.size := of_decide_eq_true (by kernel_rfl)
theorem row46 : 46 < Tryz.prog.types.size := of_decide_eq_true (by kernel_rfl)
theorem row22 : 22 < Tryz.prog.types.size := of_decide_eq_true (by kernel_rfl)
theorem row23 : 23 < Tryz.prog.types.size := of_decide_eq_true (by kernel_rfl)
/-- The listed variables. -/
def laid2 : List (String × DataW Unit) := [("missive/sha.squares", Rows.laid_missive_sha_squares), ("missive/sha.cubes", Rows.laid_missive_sha_cubes)]
theorem glob0 : Tryz.prog.globalNamed "missive/sha.squares" = some 1 := by kernel_rfl
theorem glob1 : Tryz.prog.globalNamed "missive/sha.cubes" = some 2 := by kernel_rfl
theorem type0 : (Tryz.prog.globals[1]?).map (·.type) = some 148 := by kernel_rfl
theorem type1 : (Tryz.prog.globals[2]?).map (·.type) = some 158 := by kernel_rfl
theorem und124 : Tryz.prog.underlying 148 = some (.array 8 113) := by kernel_rfl
theorem und147 : Tryz.prog.underlying 158 = some (.array 80 113) := by kernel_rfl
theorem und88 : Tryz.prog.underlying 113 = some (.int .u64) := by kernel_rfl
theorem cellsOf88 : Tryz.prog.cellsOf 113 = 1 := by kernel_rfl
theorem cellsOf124 : Tryz.prog.cellsOf 148 = 8 := by kernel_rfl
theorem cellsOf147 : Tryz.prog.cellsOf 158 = 80 := by kernel_rfl
theorem sq_data : (Rows.laid_missive_sha_squares : DataW Unit) = Lib.tabData .u64 (S.sqN.map fun n : Nat => (n : Int)) := by rfl
theorem cu_data : (Rows.laid_missive_sha_cubes : DataW Unit) = Lib.tabData .u64 (S.cuN.map fun n : Nat => (n : Int)) := by rfl
theorem tab_of_laid {W : World} (h : laidMetH Tryz.prog laid2 W) : S.Tab W := by
  rw [MakeChecks.laidMetH_plain _ _ _ (by kernel_rfl)] at h
  unfold laid2 at h
  rw [sq_data, cu_data] at h
  have h1 := Lib.tabIs_of_head glob0 type0 und124 und88 cellsOf88 cellsOf124 h
  have h2 := Lib.tabIs_of_head glob1 type1 und147 und88 cellsOf88 cellsOf147 h.tail
  refine ⟨fun i hi => ?_, fun i hi => ?_⟩
  · have hs : S.sqN.length = 8 := rfl
    rw [h1.cell glob0 i (by simp [hs]; exact hi)]
    simp [List.getD_eq_getElem?_getD, hs, hi]
  · have hs : S.cuN.length = 80 := rfl
    rw [h2.cell glob1 i (by simp [hs]; exact hi)]
    simp [List.getD_eq_getElem?_getD, hs, hi]
set_option maxRecDepth 100000 in
theorem door_met (os : Os) (args : Array Value) : laidMetH Tryz.prog laid2 ((World.doorLaid Tryz.prog 400 os).forCall (fun _ _ => 0) ⟨#[], args, []⟩).memory :=
  laidMetH_of_parts3 (fuel := 81) (laidMet_of_run' 8 (by kernel_rfl) (by kernel_rfl)) (by kernel_rfl) (by kernel_rfl)
end Go.Proofs.YtkbffponemihoaaGreatDoor
