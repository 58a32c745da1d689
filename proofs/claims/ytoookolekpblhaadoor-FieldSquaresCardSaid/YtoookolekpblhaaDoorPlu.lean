/- A product taken into a number of 128 bits. Conditions: nothing goes beyond 128 bits. -/
import Derived.Test.YtoookolekpblhaaDoorWid
namespace Go.Proofs.YtoookolekpblhaaDoor
open Go.RowKit
/-- A number of 128 bits. -/
def wd (V : Nat) : List Value := [.int .u64 ((V / 18446744073709551616 : Nat) : Int), .int .u64 ((V % 18446744073709551616 : Nat) : Int)]
def wz : List Value := [.int .u64 0, .int .u64 0]
theorem run_box61 (w : World) (V : Nat) : (Instr.box 61 (.agg (wd V).toArray)).run Tryd.prog w = .ok (.pointer (some ⟨w.heap.size, 0, none⟩)) (w.alloc (.cells (wd V).toArray 61)) := by kernel_rfl
theorem run_new61 (w : World) : (Instr.alloc 61 true (.tuple #[])).run Tryd.prog w = .ok (.pointer (some ⟨w.heap.size, 0, none⟩)) (w.alloc (.cells wz.toArray 61)) := by kernel_rfl
theorem size61 : (Tryd.prog.info? 61).map (·.size) = some 2 := by kernel_rfl
theorem wd_size (V : Nat) : (Tryd.prog.info? 61).map (·.size) = some (wd V).toArray.size := by rw [size61]; rfl
theorem wd_size' (V : Nat) : (Tryd.prog.info? 61).map (·.size) = some (wd V).length := by rw [size61]; rfl
theorem wd_one (V : Nat) : ∀ v ∈ wd V, v.oneCell' = true := by
  intro v hv
  simp [wd] at hv
  rcases hv with rfl | rfl <;> rfl
section
variable {w : World} {ops : Array Oper} {rest : List Oper} {o : Oper} {a : Act} {Q : Exit → Act → World → Prop}
theorem wpList_box61 (hgd : o.guard = none) (x : Operand) (V : Nat) (ho : o.op = .box 61 x) (hx : a.eval x = .agg (wd V).toArray)
    (h : ∀ w', Blk w' w.heap.size 61 (wd V) → w.grownBy w' none → w'.heap.size = w.heap.size + 1 → wpList Tryd.prog ops Q rest (a.put o.dst (.pointer (some ⟨w.heap.size, 0, none⟩))) w') : wpList Tryd.prog ops Q (o :: rest) a w := by
  refine wpList_plain hgd fun K hK => ?_
  have hrun := run_box61 w V
  generalize wd V = z at hrun h hx
  unfold Oper.wp
  simp only [execOp, ho, hx, Sem.run_bind, hrun, Result.andThen_ok, Sem.run_pure]
  exact hK _ _ (h _ (Blk.of_alloc w _ 61) (World.grownBy_alloc w _ none) (World.size_alloc w _))
theorem wpList_new61 (hgd : o.guard = none) (ho : o.op = .alloc 61)
    (h : ∀ w', Blk w' w.heap.size 61 wz → w.grownBy w' none → w'.heap.size = w.heap.size + 1 → wpList Tryd.prog ops Q rest (a.put o.dst (.pointer (some ⟨w.heap.size, 0, none⟩))) w') : wpList Tryd.prog ops Q (o :: rest) a w := by
  refine wpList_plain hgd fun K hK => ?_
  have hrun := run_new61 w
  generalize wz = z at hrun h
  unfold Oper.wp
  simp only [execOp, ho, Sem.run_bind, hrun, Result.andThen_ok, Sem.run_pure]
  exact hK _ _ (h _ (Blk.of_alloc w _ 61) (World.grownBy_alloc w _ none) (World.size_alloc w _))
theorem run_build61 (w : World) (x y : Int) : (Instr.build 61 #[(0, .int .u64 x), (1, .int .u64 y)]).run Tryd.prog w = .ok (.agg #[.int .u64 x, .int .u64 y]) w := by kernel_rfl
end
set_option maxRecDepth 100000 in
set_option maxHeartbeats 1600000 in
theorem plus_any (w : World) (V a b : Nat) (ha : a < 9223372036854775808) (hb : b < 9223372036854775808) (hV : V + a * b < 340282366920938463463374607431768211456) :
    Calls Tryd.prog 35 #[.agg (wd V).toArray, .int .i64 (a : Int), .int .i64 (b : Int)] w fun e w' => e = .returned (.agg (wd (V + a * b)).toArray) ∧ w.grownBy w' none := by
  obtain ⟨m, hm⟩ : ∃ m, m = a * b := ⟨_, rfl⟩
  rw [← hm] at hV ⊢
  have h37 : ∀ W, Calls Tryd.prog 37 #[.int .u64 (a : Int), .int .u64 (b : Int)] W fun e w' => e = .returned (.tuple #[.int .u64 ((m / 18446744073709551616 : Nat) : Int), .int .u64 ((m % 18446744073709551616 : Nat) : Int)]) ∧ w' = W := fun W => by
    rw [hm]
    exact mul64_any W a b (by omega) (by omega)
  have h38 := call38 (V % 18446744073709551616) (m % 18446744073709551616) (Nat.mod_lt _ (by decide)) (Nat.mod_lt _ (by decide))
  clear hm
  obtain ⟨mh, hmh⟩ : ∃ n, n = m / 18446744073709551616 := ⟨_, rfl⟩
  obtain ⟨ml, hml⟩ : ∃ n, n = m % 18446744073709551616 := ⟨_, rfl⟩
  obtain ⟨vh, hvh⟩ : ∃ n, n = V / 18446744073709551616 := ⟨_, rfl⟩
  obtain ⟨vl, hvl⟩ : ∃ n, n = V % 18446744073709551616 := ⟨_, rfl⟩
  rw [← hmh, ← hml] at h37
  rw [← hml, ← hvl] at h38
  obtain ⟨lo, hlo⟩ : ∃ n, n = (vl + ml) % 18446744073709551616 := ⟨_, rfl⟩
  obtain ⟨on, hon⟩ : ∃ n, n = (vl + ml) / 18446744073709551616 := ⟨_, rfl⟩
  rw [← hlo, ← hon] at h38
  obtain ⟨s1, hs1⟩ : ∃ n, n = vh + mh := ⟨_, rfl⟩
  obtain ⟨s2, hs2⟩ : ∃ n, n = s1 + on := ⟨_, rfl⟩
  have e1 : IntKind.u64.wrap ((vh : Int) + (mh : Int)) = (s1 : Int) := by rw [← Int.natCast_add, ← hs1]; exact u64_in (by omega)
  have e2 : IntKind.u64.wrap ((s1 : Int) + (on : Int)) = (s2 : Int) := by rw [← Int.natCast_add, ← hs2]; exact u64_in (by omega)
  have e3 : IntKind.u64.wrap (a : Int) = (a : Int) := u64_in (by omega)
  have e4 : IntKind.u64.wrap (b : Int) = (b : Int) := u64_in (by omega)
  have hend : #[Value.int .u64 (s2 : Int), Value.int .u64 (lo : Int)] = (wd (V + m)).toArray := by
    unfold wd
    rw [show (V + m) / 18446744073709551616 = s2 by omega, show (V + m) % 18446744073709551616 = lo by omega]
  have H37 := Lib.hid h37
  have HEND := Lib.hid hend
  have hcells : wd V = [.int .u64 (vh : Int), .int .u64 (vl : Int)] := by rw [wd, hvh, hvl]
  have HCELLS := Lib.hid hcells
  have HRB := Lib.hid (fun W => run_build61 W (s2 : Int) (lo : Int))
  clear h37 hend hcells hmh hml hvh hvl hlo hon hs1 hs2 ha hb hV
  go_enter Tryd.func35, Tryd.ntmps35
  go_wp2_with (refine wpList_box61 rfl _ V rfl rfl ?_)
  intro w1 hb1 hg1 hz1
  go_wp2_with (refine wpList_new61 rfl rfl ?_)
  intro w2 hb2 hg2 hz2
  obtain ⟨ga, hga⟩ : ∃ g, g = w.heap.size := ⟨_, rfl⟩
  obtain ⟨gr, hgr⟩ : ∃ g, g = w.heap.size + 1 := ⟨_, rfl⟩
  rw [← hgr, ← hga]
  rw [← hga] at hb1
  rw [← hgr] at hb2
  have hA := hb1.grown hg2 (by simp)
  have c0 := hA.get 0 (.int .u64 (vh : Int)) (by rw [HCELLS.out]; rfl)
  have c1 := hA.get 1 (.int .u64 (vl : Int)) (by rw [HCELLS.out]; rfl)
  have HR : Hid (Blk w2 gr 61 wz) := Lib.hid hb2
  have HG : Hid (w.grownBy w2 none) := Lib.hid (World.grownBy.trans hg1 hg2)
  have HWR : Hid (w.heap.size ≤ gr) := Lib.hid (by omega)
  clear hb1 hg1 hz1 hb2 hg2 hz2 hA hga hgr
  go_wp2_with (first
    | (go_at_call 37
       refine (H37.out _).mono ?_
       rintro _ w5 ⟨rfl, hw5⟩
       rw [hw5]
       clear hw5)
    | (refine wpList_store_row rfl 61 _ _ rfl gr (wd (V + m)).toArray rfl (by rw [← HEND.out]; rfl) 61 _ HR.out (wd_size _) rfl (all_oneCell_toArray (wd_one _)) ?_))
  exact bodyPost_ret (results_cell_row rfl _ _ gr 61 (wd (V + m)).toArray (0, 0) _ rfl (setRow_heap w2 gr _ _ 61 (0, 0) HR.out) Tryd.underlying61 rfl (wd_size _)) rfl ⟨rfl, World.grownBy.andThen HG.out (grown_setRow _ _ _) (by rintro _ ⟨⟩; exact .inl HWR.out)⟩
end Go.Proofs.YtoookolekpblhaaDoor
