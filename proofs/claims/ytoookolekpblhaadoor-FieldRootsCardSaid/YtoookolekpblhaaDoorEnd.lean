/- How arrays of 32 bytes lie in memory, what the listed tables are, and what the code's field is. Conditions: none. -/
import Derived.Test.YtoookolekpblhaaDoorFsq
import Derived.Test.YtoookolekpblhaaDoorRoo
import Derived.Test.YtoookolekpblhaaDoorCards
import Derived.Test.YtoookolekpblhaaDoorTie
import Derived.Carry
import Derived.ProofKit
import Derived.LaidMore
import Derived.OpenShut
import Derived.Stop.Joined
import Derived.Lib.LaidTab
import Derived.Stop.LaidErr
import Derived.Deep.Slices
namespace Go.Proofs.YtoookolekpblhaaDoor
open Go.RowKit Go.ChangeShapes Go.WideShapes Go.ChangeAt
/-- The code's numbers, told by their cells. -/
def Fe5 (cs : List Value) (x : Nat) : Prop := x < fq ∧ cs = ls x
theorem fe5_says : FeSays Fe5 where
  len := by rintro cs x ⟨_, rfl⟩; exact cl_length _
  one := by rintro cs x ⟨_, rfl⟩; exact cl_one _
  lt := by rintro cs x ⟨h, _⟩; exact h
  of := fun w k => (of5_any w k).mono fun _ _ h => ⟨_, ⟨val_lt k, rfl⟩, h.1, h.2⟩
  bytes := by rintro w cs x ⟨h, rfl⟩; exact bytes5_any w x h
  add := by rintro w cs ds x y ⟨hx, rfl⟩ ⟨hy, rfl⟩; exact (add5_any w x y hx hy).mono fun _ _ h => ⟨_, ⟨Nat.mod_lt _ fq_pos, rfl⟩, h.1, h.2⟩
  sub := by rintro w cs ds x y ht ⟨hx, rfl⟩ ⟨hy, rfl⟩; exact (sub5_any ht x y hx hy).mono fun _ _ h => ⟨_, ⟨Nat.mod_lt _ fq_pos, rfl⟩, h.1, h.2⟩
  neg := by rintro w cs x ht ⟨hx, rfl⟩; exact (neg5_any ht x hx).mono fun _ _ h => ⟨_, ⟨ng_lt x, rfl⟩, h.1, h.2⟩
  mul := by rintro w cs ds x y ⟨hx, rfl⟩ ⟨hy, rfl⟩; exact (mul5_any w x y hx hy).mono fun _ _ h => ⟨_, ⟨Nat.mod_lt _ fq_pos, rfl⟩, h.1, h.2⟩
  inv := by rintro w cs x ⟨hx, rfl⟩; exact (inv5_any w x hx).mono fun _ _ h => ⟨_, ⟨iv_lt x, rfl⟩, h.1, h.2⟩
  root := by
    rintro w cs x ht ⟨hx, rfl⟩
    refine (root5_any ht x hx).mono fun _ _ h => ⟨_, _, ?_, h.1, h.2⟩
    unfold RootIs
    cases hr : rootN x with
    | none => exact .inl ⟨rfl, rfl, by decide, rfl⟩
    | some s => exact .inr ⟨s, rfl, rfl, by have := (rootN_some (by rw [← fq_fp]; exact hx) hr).1; rwa [← fq_fp] at this, rfl⟩
theorem own_knob : ownKnob Tryd.prog.godebug = none := by kernel_rfl
theorem laid_out : laidOutB Tryd.prog = true := by kernel_rfl
theorem read22 : Tryd.prog.readableRec 22 = true := by kernel_rfl
theorem row22 : 22 < Tryd.prog.types.size := of_decide_eq_true (by kernel_rfl)
theorem below_of_grown {w w' : World} (hg : w.grownBy w' none) : Below w.heap.size w w' := (Below.refl w.heap.size w).grown hg (Nat.le_refl _) (fun _ h => by cases h)
theorem cells5 : Tryd.prog.cellsOf 5 = 1 := by kernel_rfl
theorem cells22 : Tryd.prog.cellsOf 22 = 32 := by kernel_rfl
theorem cells2 : Tryd.prog.cellsOf 2 = 1 := by kernel_rfl
theorem cells25 : Tryd.prog.cellsOf 25 = 5 := by kernel_rfl
/-- The listed variables. -/
def laid2 : List (String × DataW Unit) := [("missive/field.prime", Rows.laid_missive_field_prime), ("missive/field.turn", Rows.laid_missive_field_turn)]
theorem g0 : Tryd.prog.globalNamed "missive/field.turn" = some 0 := by kernel_rfl
theorem g1 : Tryd.prog.globalNamed "missive/field.prime" = some 1 := by kernel_rfl
theorem type0 : (Tryd.prog.globals[0]?).map (·.type) = some 27 := by kernel_rfl
theorem type1 : (Tryd.prog.globals[1]?).map (·.type) = some 25 := by kernel_rfl
def prL : List Int := [2251799813685229, 2251799813685247, 2251799813685247, 2251799813685247, 2251799813685247]
def tuL : List Int := [1718705420411056, 234908883556509, 2233514472574048, 2117202627021982, 765476049583133]
theorem pr_data : (Rows.laid_missive_field_prime : DataW Unit) = Lib.tabData .i64 prL := by rfl
theorem tu_data : (Rows.laid_missive_field_turn : DataW Unit) = .agg [Lib.tabData .i64 tuL] := by rfl
theorem pr_cells : (prL.map fun z => Value.int .i64 z) = cl pr5 := by rfl
theorem tu_lf : ∀ i, i < 5 → tuL.getD i 0 = lf im i := by decide +kernel
theorem tu_cells : (tuL.map fun z => Value.int .i64 z) = ls im := by
  have h : (tuL.map fun z => Value.int .i64 z) = cl (fun i => tuL.getD i 0) := by rfl
  rw [h, ls]
  exact cl_congr tu_lf
/-- What a listed variable's cells are. -/
theorem tab_of_laid {W : World} (h : laidMetH Tryd.prog laid2 W) : Tab W := by
  rw [MakeChecks.laidMetH_plain _ _ _ (by kernel_rfl)] at h
  unfold laid2 at h
  rw [pr_data, tu_data] at h
  have h1 := Lib.tabIs_of_head g1 type1 Tryd.underlying25 Tryd.underlying2 cells2 cells25 h
  have c1 : ∀ i, i < 5 → W.cell? ⟨1, i, none⟩ = some (.int .i64 (prL.getD i 0)) := fun i hi => h1.cell g1 i hi
  obtain ⟨ps, ⟨g', t', cs, fuel, p, q, hg', ht', hvar, hd, _, _⟩, _⟩ := h.tail
  obtain rfl := Option.some.inj (g0.symm.trans hg')
  obtain rfl := Option.some.inj (type0.symm.trans ht')
  obtain ⟨y0, n, hx, hl, hf⟩ := trod_struct1 Tryd.underlying27 hd
  have hl5 : cs.toList.length = 5 := hl.trans (by kernel_rfl)
  obtain ⟨z0, zp⟩ := y0
  have e0 : z0 = Lib.tabData .i64 tuL := by
    have := congrArg Prod.fst hx
    simp only [DataW.agg.injEq, List.cons.injEq, and_true] at this
    exact this.symm
  rw [e0] at hf
  have hc := Lib.cells_of_tab Tryd.underlying25 Tryd.underlying2 cells2 cells25 hf
  have e1 : cs = (ls im).toArray := by
    have e2 : cs.toList = ls im := by
      rw [← tu_cells, ← hc, cells25]
      show cs.toList = List.take 5 (List.drop 0 cs.toList)
      rw [List.drop_zero, List.take_of_length_le (by omega)]
    rw [← e2]
  have c0 : ∀ j v, (ls im)[j]? = some v → W.cell? ⟨0, j, none⟩ = some v := fun j v hv => by
    rw [e1] at hvar
    have hj : j < (ls im).toArray.size := by
      rcases Nat.lt_or_ge j (ls im).length with h | h
      · simpa using h
      · rw [List.getElem?_eq_none h] at hv; cases hv
    have := World.var?_cell g0 hvar j
    rw [this]
    simpa using hv
  have hlt : 1 < W.heap.size := World.block_lt_of_cell? W _ (c1 0 (by omega))
  refine ⟨fun j v hv => by rw [Nat.zero_add]; exact c0 j v hv, fun j v hv => ?_, hlt⟩
  rw [Nat.zero_add]
  by_cases hj : j < 5
  · rw [cl_get _ j hj] at hv
    rw [c1 j hj, ← hv]
    have : ∀ i, i < 5 → prL.getD i 0 = pr5 i := by decide
    rw [this j hj]
  · rw [List.getElem?_eq_none (by rw [cl_length]; omega)] at hv
    cases hv
set_option maxRecDepth 100000 in
theorem door_met (os : Os) (args : Array Value) : laidMetH Tryd.prog laid2 ((World.doorLaid Tryd.prog 400 os).forCall (fun _ _ => 0) ⟨#[], args, []⟩).memory :=
  laidMetH_of_parts3 (fuel := 81) (laidMet_of_run' 8 (by kernel_rfl) (by kernel_rfl)) (by kernel_rfl) (by kernel_rfl)
def byteOf (z : Int) : UInt8 := UInt8.ofNat z.toNat
theorem byteOf_nat {z : Int} (h : (Lit.int .u8 z).wf = true) : ((byteOf z).toNat : Int) = z := by
  simp [Lit.wf, IntKind.min, IntKind.max, IntKind.bits, IntKind.signed] at h
  unfold byteOf
  rw [UInt8.toNat_ofNat', Nat.mod_eq_of_lt (by omega)]
  omega
def numOf : Value → Int
  | .int _ z => z
  | _ => 0
section
variable {H : Type} {enc : TypeId × Value → H} {W : World} {base b0 : Nat} {spare : Nat → Bool} {held : Bool}
theorem open_cells {t n : Nat} (ht : Tryd.prog.underlying t = some (.array n 5)) (hc : Tryd.prog.cellsOf t = n) {fuel : Nat} {cs : List Value} {x : DataW H × List MemPlace} (h : DataW.trod enc Tryd.prog W base spare held fuel t cs = some x) :
    ∃ f : Fin n → UInt8, cs = (List.finRange n).map fun i => Value.int .u8 ((f i).toNat : Int) := by
  obtain ⟨xs, m, _, _, hl, hx, hel⟩ := DataW.trod_array ht h
  rw [hc] at hl
  have hat : ∀ i, i < n → ∃ z, cs[i]? = some (.int .u8 z) ∧ (Lit.int .u8 z).wf = true := fun i hi => by
    have h1 := hel i hi
    rw [cells5, Nat.mul_one, List.getElem?_eq_getElem (by omega)] at h1
    obtain ⟨z, e, _, hw⟩ := DataW.trod_int Tryd.underlying5 h1
    refine ⟨z, ?_, hw⟩
    have e2 : ((cs.drop i).take 1)[0]? = some (.int .u8 z) := by rw [e]; rfl
    rw [List.getElem?_take, if_pos (by omega), List.getElem?_drop, Nat.add_zero] at e2
    exact e2
  refine ⟨fun i => byteOf (numOf (cs.getD i.val undef)), ?_⟩
  apply List.ext_getElem?
  intro j
  by_cases hj : j < n
  · obtain ⟨z, e, hw⟩ := hat j hj
    rw [e, List.getElem?_map, List.getElem?_eq_getElem (by simpa using hj)]
    simp [List.getD_eq_getElem?_getD, e, numOf, byteOf_nat hw]
  · rw [List.getElem?_eq_none (by omega), List.getElem?_eq_none (by simp; omega)]
theorem open_key {v : Value} {d : DataW H} {p : List MemPlace} (hval : Value.okWide Tryd.prog W .any b0 22 v) (h : DataW.Trod enc Tryd.prog W base spare held 22 v d p) : ∃ k : Fin 32 → UInt8, v = .agg (u8s (k32 k)).toArray := by
  unfold Value.okWide at hval
  rw [Tryd.underlying22] at hval
  obtain ⟨cs, rfl, _, _⟩ := hval
  obtain ⟨fuel, hf⟩ := h
  obtain ⟨f, e⟩ := open_cells Tryd.underlying22 cells22 hf
  refine ⟨f, ?_⟩
  simp only [Value.cells] at e
  rw [show cs = _ from by rw [← Array.toArray_toList (xs := cs), e]]
  unfold u8s k32
  rw [List.map_map]
  rfl
end
end Go.Proofs.YtoookolekpblhaaDoor
