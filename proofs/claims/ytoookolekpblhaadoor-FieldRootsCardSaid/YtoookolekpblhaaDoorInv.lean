/- The code's Inv. Conditions: the number is below p. -/
import Derived.Test.YtoookolekpblhaaDoorPow
namespace Go.Proofs.YtoookolekpblhaaDoor
open Go.RowKit
/-- The bits that are none of those. -/
def nb42 (l : List Nat) (i : Nat) : Bool := !l.contains i
theorem ex_inv : ex (nb42 [4, 2]) 255 255 = fq - 2 := by decide +kernel
theorem ex_root : ex (nb42 [0]) 252 252 = (fp + 3) / 8 := by decide +kernel
theorem run_lit2 (w : World) : (Instr.buildSlice 43 2 #[(0, .int .i64 4), (1, .int .i64 2)]).run Tryd.prog w = .ok (sl w.heap.size 2) (w.alloc (.cells (ints [4, 2]).toArray 3)) := by kernel_rfl
theorem run_lit1 (w : World) : (Instr.buildSlice 43 1 #[(0, .int .i64 0)]).run Tryd.prog w = .ok (sl w.heap.size 1) (w.alloc (.cells (ints [0]).toArray 3)) := by kernel_rfl
section
variable {w : World} {o : Oper} {a : Act} {K : Act → World → Prop} {Q : Exit → Act → World → Prop}
theorem wp_lit2 (ho : o.op = .buildSlice 43 2 #[(0, .const (.int .i64 4)), (1, .const (.int .i64 2))])
    (h : ∀ w', Blk w' w.heap.size 3 (ints [4, 2]) → w.grownBy w' none → K (a.put o.dst (sl w.heap.size 2)) w') : o.wp Tryd.prog a w K Q := by
  have hrun := run_lit2 w
  generalize ints [4, 2] = z at hrun h
  unfold Oper.wp
  simp only [execOp, ho, List.map_toArray, List.map_cons, List.map_nil, Act.eval, hrun, Sem.run_bind, Sem.run_pure, Result.andThen_ok]
  exact h _ (Blk.of_alloc w _ 3) (World.grownBy_alloc w _ none)
theorem wp_lit1 (ho : o.op = .buildSlice 43 1 #[(0, .const (.int .i64 0))])
    (h : ∀ w', Blk w' w.heap.size 3 (ints [0]) → w.grownBy w' none → K (a.put o.dst (sl w.heap.size 1)) w') : o.wp Tryd.prog a w K Q := by
  have hrun := run_lit1 w
  generalize ints [0] = z at hrun h
  unfold Oper.wp
  simp only [execOp, ho, List.map_toArray, List.map_cons, List.map_nil, Act.eval, hrun, Sem.run_bind, Sem.run_pure, Result.andThen_ok]
  exact h _ (Blk.of_alloc w _ 3) (World.grownBy_alloc w _ none)
end
/-- The power whose bits the closure over l tells. -/
theorem power_but {w : World} {g gb : Nat} {l : List Nat} (hb : Blk w g 3 (ints l)) (hc : w.cell? ⟨gb, 0, none⟩ = some (sl g l.length)) (hl : l.length ≤ 1000) (x : Nat) (hx : x < fq) (n : Nat) (hn : n ≤ 1000) (y : Nat) (hy : y = x ^ ex (nb42 l) n n % fq) :
    Calls Tryd.prog 22 #[.agg (ls x).toArray, .int .i64 (n : Int), .func (.func 33) #[] #[.pointer (some ⟨gb, 0, none⟩)]] w fun e w' => e = .returned (.agg (ls y).toArray) ∧ w.grownBy w' none :=
  power5_any w x hx n hn gb (nb42 l) (fun _ hg i _ => bit_any (hb.grown hg (by simp)) (hg.cell hc (by simp)) i hl) y hy
set_option maxRecDepth 100000 in
set_option maxHeartbeats 3200000 in
theorem inv5_any (w : World) (x : Nat) (hx : x < fq) : Calls Tryd.prog 12 #[.agg (ls x).toArray] w fun e w' => e = .returned (.agg (ls (iv x)).toArray) ∧ w.grownBy w' none := by
  have hp : ∀ (W : World) (g gb : Nat), Blk W g 3 (ints [4, 2]) → W.cell? ⟨gb, 0, none⟩ = some (sl g 2) → Calls Tryd.prog 22 #[.agg (ls x).toArray, .int .i64 255, .func (.func 33) #[] #[.pointer (some ⟨gb, 0, none⟩)]] W fun e w' => e = .returned (.agg (ls (iv x)).toArray) ∧ W.grownBy w' none := fun W g gb h1 h2 =>
    power_but h1 h2 (by decide) x hx 255 (by omega) (iv x) (iv_is x _ ex_inv)
  obtain ⟨y, hy⟩ : ∃ y, y = iv x := ⟨_, rfl⟩
  rw [← hy] at hp ⊢
  have HP := Lib.hid hp
  clear hp hy hx
  unfold ls at HP ⊢
  go_enter Tryd.func12, Tryd.ntmps12
  go_wp2_with (refine wpList_box27 rfl _ (lf x) rfl rfl ?_)
  intro w1 hb1 hg1 hz1
  go_wp2_with (refine wpList_new27 rfl rfl ?_)
  intro w3 hb3 hg3 hz3
  obtain ⟨ga, hga⟩ : ∃ g, g = w.heap.size := ⟨_, rfl⟩
  obtain ⟨gr, hgr⟩ : ∃ g, g = w.heap.size + 1 := ⟨_, rfl⟩
  rw [← hgr, ← hga]
  rw [← hga] at hb1
  rw [← hgr] at hb3
  have n1 : ga ≠ gr := by omega
  have HA : Hid (Blk w3 ga 27 (cl (lf x))) := Lib.hid (hb1.grown hg3 (by simp))
  have hr3 : Blk w3.drew gr 27 (cl fun _ => 0) := hb3.keep rfl
  have hg3' : w.grownBy w3.drew none := grown_drew (World.grownBy.trans hg1 hg3)
  have HWR : Hid (w.heap.size ≤ gr) := Lib.hid (by omega)
  clear hb1 hg1 hz1 hb3 hg3 hz3 hga hgr
  go_wp2_with (fail)
  refine wp_region_held_drew (S := fun w' => Blk w' ga 27 (cl (lf x))) (by kernel_rfl) (HA.out.keep rfl) (fun hHeld => ?_)
  refine' wpAnyH_take (i := 0) (oi := { dst := some 3, op := Op.load 27 (Operand.tmp 1), type := 27, pos := "field.go:96", after := #[], guard := none }) (v := .agg (cl (lf x)).toArray) rfl (by kernel_rfl) (by kernel_rfl) (by kernel_rfl) (fun _ _ _ h => h) (yieldsIf_load_mid (by rfl) _ _ rfl ga 0 rfl (cl (lf x)) _ (fun w' hs => range_blk hs) Tryd.underlying27 rfl (cl_size' _)) (by assumption) ?q0
  try simp only [Act.put, List.setIfInBounds_toArray, List.set_cons_zero, List.set_cons_succ]
  refine wpAnyH_ready (rs := [1]) (by kernel_rfl) (by simp) ?_
  refine AllReadyH.cons rfl (fun K hK => ?_) AllReadyH.nil
  rw [if_pos (by rfl)]
  refine wp_lit2 rfl ?_
  intro w4 hb4 hg4
  obtain ⟨gs, hgs⟩ : ∃ g, g = w3.drew.heap.size := ⟨_, rfl⟩
  rw [← hgs] at hb4 ⊢
  clear hgs
  have hr4 := hr3.grown hg4 (by simp)
  have hgg4 := World.grownBy.trans hg3' hg4
  refine hK.out _ _ (hHeld.grown hg4 (by simp)) (fun hHeld => ?_)
  clear hK K
  try simp only [Act.put, List.setIfInBounds_toArray]
  refine wpAnyH_ready (rs := [2]) (by kernel_rfl) (by simp) ?_
  refine AllReadyH.cons rfl (fun K hK => ?_) AllReadyH.nil
  rw [if_pos (by rfl)]
  go_simp
  with_reducible refine (allBut_any _ _ _).mono ?_
  rintro _ w5 ⟨gb, rfl, hc5, _, hg5⟩
  have hb5 := hb4.grown hg5 (by simp)
  have hr5 := hr4.grown hg5 (by simp)
  have hgg5 := World.grownBy.trans hgg4 hg5
  refine hK.out _ _ (hHeld.grown hg5 (by simp)) (fun hHeld => ?_)
  clear hK K
  try simp only [Act.put, List.setIfInBounds_toArray, List.set_cons_zero, List.set_cons_succ]
  refine wpAnyH_ready (rs := [3]) (by kernel_rfl) (by simp) ?_
  refine AllReadyH.cons rfl (fun K hK => ?_) AllReadyH.nil
  rw [if_pos (by rfl)]
  go_simp
  with_reducible refine (HP.out _ _ _ hb5 hc5).mono ?_
  rintro _ w6 ⟨rfl, hg6⟩
  have hr6 := hr5.grown hg6 (by simp)
  have hgg6 := World.grownBy.trans hgg5 hg6
  refine hK.out _ _ (hHeld.grown hg6 (by simp)) (fun hHeld => ?_)
  clear hK K
  try simp only [Act.put, List.setIfInBounds_toArray, List.set_cons_zero, List.set_cons_succ]
  refine wpAnyH_ready (rs := [4]) (by kernel_rfl) (by simp) ?_
  refine AllReadyH.cons rfl (fun K hK => ?_) AllReadyH.nil
  rw [if_pos (by rfl)]
  refine wp_store_row 27 _ _ rfl gr (cl (lf y)).toArray rfl rfl 27 _ hr6 (cl_size _) (cl_same _ _) (all_oneCell_toArray (cl_one _)) ?_
  refine hK.out _ _ (hHeld.grown (grown_setRow _ _ _) (fun e => n1 (Option.some.inj e))) (fun hHeld => ?_)
  clear hK K
  dsimp only [Act.put]
  refine wpAnyH_done (by kernel_rfl) ?_ _
  go_wp2_with (fail)
  exact bodyPost_ret (results_cell_row rfl _ _ gr 27 (cl (lf y)).toArray (0, 0) _ rfl (setRow_heap _ gr _ _ 27 (0, 0) hr6) Tryd.underlying27 rfl (cl_size _)) rfl ⟨rfl, World.grownBy.andThen hgg6 (grown_setRow _ _ _) (by rintro _ ⟨⟩; exact .inl HWR.out)⟩
end Go.Proofs.YtoookolekpblhaaDoor
