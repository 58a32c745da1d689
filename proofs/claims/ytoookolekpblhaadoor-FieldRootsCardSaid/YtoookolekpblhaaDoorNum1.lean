/- The reference's numbers: p, what is below, differences. Conditions: none but what is said. -/
import Derived.Test.YtoookolekpblhaaDoorBase
import Derived.Test.YtoookolekpblhaaDoorNumMath
namespace Go.Proofs.YtoookolekpblhaaDoor
open Go.RowKit
/-- Sixteen digits as a value's cells. -/
def num (f : Nat → Nat) : List Value := ints ((List.range 16).map f)
theorem num_dgs (a : Nat) : ints (dgs 16 a) = num (dgt a) := rfl
theorem num_length (f : Nat → Nat) : (num f).length = 16 := by simp [num, ints]
theorem num_get (f : Nat → Nat) (i : Nat) (h : i < 16) : (num f)[i]? = some (.int .i64 (f i : Int)) := by
  unfold num ints
  rw [List.map_map, List.getElem?_map, List.getElem?_range h]
  rfl
theorem num_one (f : Nat → Nat) : ∀ v ∈ num f, v.oneCell' = true := by
  intro v hv
  obtain ⟨n, _, rfl⟩ := List.mem_map.1 hv
  rfl
theorem ints_one (l : List Nat) : ∀ v ∈ ints l, v.oneCell' = true := by
  intro v hv
  obtain ⟨n, _, rfl⟩ := List.mem_map.1 hv
  rfl
theorem size32 : (Tryd.prog.info? 31).map (·.size) = some 16 := by kernel_rfl
theorem num_size (f : Nat → Nat) : (Tryd.prog.info? 31).map (·.size) = some (num f).toArray.size := by rw [size32, List.size_toArray, num_length]
theorem num_size' (f : Nat → Nat) : (Tryd.prog.info? 31).map (·.size) = some (num f).length := by rw [size32, num_length]
theorem num_same (f g : Nat → Nat) : (num g).toArray.size = (num f).toArray.size := by simp [num_length]
theorem run_box32 (w : World) (f : Nat → Nat) : (Instr.box 31 (.agg (num f).toArray)).run Tryd.prog w = .ok (.pointer (some ⟨w.heap.size, 0, none⟩)) (w.alloc (.cells (num f).toArray 31)) := by kernel_rfl
theorem run_alloc32 (w : World) : (Instr.alloc 31 true (.tuple #[])).run Tryd.prog w = .ok (.pointer (some ⟨w.heap.size, 0, none⟩)) (w.alloc (.cells (num (fun _ => 0)).toArray 31)) := by kernel_rfl
section
variable {w : World} {ops : Array Oper} {rest : List Oper} {o : Oper} {a : Act} {Q : Exit → Act → World → Prop}
theorem wpList_box32 (hgd : o.guard = none) (x : Operand) (f : Nat → Nat) (ho : o.op = .box 31 x) (hx : a.eval x = .agg (num f).toArray)
    (h : ∀ w', Blk w' w.heap.size 31 (num f) → w.grownBy w' none → w'.heap.size = w.heap.size + 1 → wpList Tryd.prog ops Q rest (a.put o.dst (.pointer (some ⟨w.heap.size, 0, none⟩))) w') : wpList Tryd.prog ops Q (o :: rest) a w := by
  refine wpList_plain hgd fun K hK => ?_
  have hrun := run_box32 w f
  generalize num f = z at hrun h hx
  unfold Oper.wp
  simp only [execOp, ho, hx, Sem.run_bind, hrun, Result.andThen_ok, Sem.run_pure]
  exact hK _ _ (h _ (Blk.of_alloc w _ 31) (World.grownBy_alloc w _ none) (World.size_alloc w _))
theorem wpList_alloc32 (hgd : o.guard = none) (ho : o.op = .alloc 31)
    (h : ∀ w', Blk w' w.heap.size 31 (num (fun _ => 0)) → w.grownBy w' none → w'.heap.size = w.heap.size + 1 → wpList Tryd.prog ops Q rest (a.put o.dst (.pointer (some ⟨w.heap.size, 0, none⟩))) w') : wpList Tryd.prog ops Q (o :: rest) a w := by
  refine wpList_plain hgd fun K hK => ?_
  have hrun := run_alloc32 w
  generalize num (fun _ => 0) = z at hrun h
  unfold Oper.wp
  simp only [execOp, ho, Sem.run_bind, hrun, Result.andThen_ok, Sem.run_pure]
  exact hK _ _ (h _ (Blk.of_alloc w _ 31) (World.grownBy_alloc w _ none) (World.size_alloc w _))
end
/-- p's digits. -/
def primeF (i : Nat) : Nat := if i = 0 then 65517 else if i = 15 then 32767 else 65535
theorem prime_dgs : num primeF = num (dgt fq) := by
  rw [← num_dgs, fq_digits]
  rfl
set_option maxRecDepth 100000 in
set_option maxHeartbeats 1600000 in
theorem prime_any (w : World) : Calls Tryd.prog 26 #[] w fun e w' => e = .returned (.agg (num (dgt fq)).toArray) ∧ w.grownBy w' none := by
  rw [← prime_dgs]
  go_enter Tryd.func26, Tryd.ntmps26
  go_wp2_with (first
    | (refine wpList_alloc32 rfl rfl ?_
       intro w1 hb1 hg1 hz1
       obtain ⟨g, hg⟩ : ∃ g, g = w.heap.size := ⟨_, rfl⟩
       rw [← hg] at hb1 ⊢
       have hgw : w.heap.size ≤ g := by omega
       have HB := Lib.hid hb1
       have HG := Lib.hid hg1
       have HW := Lib.hid hgw
       clear hb1 hg1 hz1 hg hgw)
    | (refine wpList_store_row rfl 31 _ _ rfl g (num primeF).toArray rfl rfl 31 _ HB.out (num_size _) (num_same _ _) (all_oneCell_toArray (num_one _)) ?_))
  exact bodyPost_ret (results_cell_row rfl _ _ g 31 (num primeF).toArray (0, 0) _ rfl (setRow_heap w1 g _ _ 31 (0, 0) HB.out) Tryd.underlying31 rfl (num_size _)) rfl ⟨rfl, World.grownBy.andThen HG.out (grown_setRow _ _ _) (by rintro _ ⟨⟩; exact .inl HW.out)⟩
end Go.Proofs.YtoookolekpblhaaDoor
