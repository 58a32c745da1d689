/- The reference's contraries and differences. Conditions: the numbers have sixteen digits. -/
import Derived.Test.YtoookolekpblhaaDoorNum8
namespace Go.Proofs.YtoookolekpblhaaDoor
open Go.RowKit
theorem run_build0 (w : World) : (Instr.build 31 #[]).run Tryd.prog w = .ok (.agg (num (fun _ => 0)).toArray) w := by kernel_rfl
theorem num_zero : num (fun _ => 0) = num (dgt 0) := by
  congr 1
  funext i
  simp [dgt]
theorem wpList_build0 {w : World} {ops : Array Oper} {rest : List Oper} {o : Oper} {a : Act} {Q : Exit → Act → World → Prop} (hgd : o.guard = none) (ho : o.op = .build 31 #[])
    (h : wpList Tryd.prog ops Q rest (a.put o.dst (.agg (num (dgt 0)).toArray)) w) : wpList Tryd.prog ops Q (o :: rest) a w := by
  refine wpList_plain hgd fun K hK => ?_
  have hrun := run_build0 w
  rw [num_zero] at hrun
  generalize num (dgt 0) = z at hrun h
  unfold Oper.wp
  simp only [execOp, ho, List.map_toArray, List.map_nil, Sem.run_bind, hrun, Result.andThen_ok, Sem.run_pure]
  exact hK _ _ h
theorem b16_pos : 0 < 65536 ^ 16 := by decide +kernel
/-- The contrary. -/
def ng (x : Nat) : Nat := (fq - x) % fq
theorem ng_lt (x : Nat) : ng x < fq := Nat.mod_lt _ fq_pos
theorem lt16 {x : Nat} (h : x < fq) : x < 65536 ^ 16 := Nat.lt_trans h fq_lt16
set_option maxRecDepth 100000 in
set_option maxHeartbeats 1600000 in
theorem neg_any (w : World) (x : Nat) (hx : x < fq) : Calls Tryd.prog 31 #[.agg (num (dgt x)).toArray] w fun e w' => e = .returned (.agg (num (dgt (ng x))).toArray) ∧ w.grownBy w' none := by
  have HX := Lib.hid hx
  go_enter Tryd.func31, Tryd.ntmps31
  go_wp2_with (refine wpList_box32 rfl _ (dgt x) rfl rfl ?_)
  intro w1 hb1 hg1 hz1'
  go_wp2_with (refine wpList_alloc32 rfl rfl ?_)
  intro w3 hb3 hg3 hz3
  obtain ⟨ga, hga⟩ : ∃ g, g = w.heap.size := ⟨_, rfl⟩
  obtain ⟨gr, hgr⟩ : ∃ g, g = w.heap.size + 1 := ⟨_, rfl⟩
  rw [← hgr, ← hga]
  rw [← hga] at hb1
  rw [← hgr] at hb3
  have HA : Hid (Blk w3 ga 31 (num (dgt x))) := Lib.hid (hb1.grown hg3 (by simp))
  have HR : Hid (Blk w3 gr 31 (num fun _ => 0)) := Lib.hid hb3
  have HG : Hid (w.grownBy w3 none) := Lib.hid (World.grownBy.trans hg1 hg3)
  have HWR : Hid (w.heap.size ≤ gr) := Lib.hid (by omega)
  have HNE : Hid (ga ≠ gr) := Lib.hid (by omega)
  clear hb1 hg1 hz1' hb3 hg3 hz3 hga hgr
  by_cases h0 : x = 0
  · have HD : Hid (decide (x = 0) = true) := Lib.hid (by simpa using h0)
    have HV : Hid (ng x = x) := Lib.hid (by rw [h0]; unfold ng; rw [Nat.sub_zero, Nat.mod_self])
    clear h0
    go_wp2_with (first
      | (refine wpList_load_mid rfl 31 _ rfl ga 0 rfl (num (dgt x)) _ (range_blk HA.out) Tryd.underlying31 rfl (num_size' _) ?_)
      | (refine wpList_build0 rfl rfl ?_)
      | (refine wpList_eql32 rfl _ _ rfl (lt16 HX.out) b16_pos rfl rfl ?_; rw [HD.out])
      | (refine wpList_store_row rfl 31 _ _ rfl gr (num (dgt x)).toArray rfl rfl 31 _ HR.out (num_size _) (num_same _ _) (all_oneCell_toArray (num_one _)) ?_))
    exact bodyPost_ret (results_cell_row rfl _ _ gr 31 (num (dgt x)).toArray (0, 0) _ rfl (setRow_heap w3 gr _ _ 31 (0, 0) HR.out) Tryd.underlying31 rfl (num_size _)) rfl ⟨by rw [HV.out], World.grownBy.andThen HG.out (grown_setRow _ _ _) (by rintro _ ⟨⟩; exact .inl HWR.out)⟩
  · have HD : Hid (decide (x = 0) = false) := Lib.hid (by simpa using h0)
    have HV : Hid (ng x = fq - x) := Lib.hid (by unfold ng; rw [Nat.mod_eq_of_lt (by omega)])
    clear h0
    go_wp2_with (first
      | (refine wpList_load_mid rfl 31 _ rfl ga 0 rfl (num (dgt x)) _ (range_blk HA.out) Tryd.underlying31 rfl (num_size' _) ?_)
      | (refine wpList_build0 rfl rfl ?_)
      | (refine wpList_eql32 rfl _ _ rfl (lt16 HX.out) b16_pos rfl rfl ?_; rw [HD.out]))
    refine wp_region_held_drew (S := fun w' => Blk w' ga 31 (num (dgt x))) (by kernel_rfl) (HA.out.keep rfl) (fun hHeld => ?_)
    refine' wpAnyH_take (i := 1) (oi := { dst := some 8, op := Op.load 31 (Operand.tmp 1), type := 31, pos := "ref.go:110", after := #[], guard := none }) (v := _) rfl (by kernel_rfl) (by kernel_rfl) (by kernel_rfl) (fun _ _ _ h => h) (yieldsIf_load_mid (by rfl) _ _ rfl ga 0 rfl (num (dgt x)) _ (fun w' hs => range_blk hs) Tryd.underlying31 rfl (num_size' _)) (by assumption) ?z1
    try simp only [Act.put, List.setIfInBounds_toArray, List.set_cons_zero, List.set_cons_succ]
    refine wpAnyH_ready (rs := [0]) (by kernel_rfl) (by simp) ?_
    refine AllReadyH.cons (o := { dst := some 7, op := Op.call { callee := Callee.value (Operand.func 26), args := #[], argTypes := #[] }, type := 31, pos := "ref.go:110", after := #[], guard := none }) rfl (fun K hK => ?_) AllReadyH.nil
    rw [if_pos (by rfl)]
    go_simp
    refine (prime_any _).mono ?_
    rintro _ wp ⟨rfl, hgp⟩
    refine hK.out _ _ (hHeld.grown hgp (by simp)) (fun hHeld => ?_)
    clear hK K
    try simp only [Act.put, List.setIfInBounds_toArray, List.set_cons_zero, List.set_cons_succ]
    refine wpAnyH_ready (rs := [2]) (by kernel_rfl) (by simp) ?_
    refine AllReadyH.cons (o := { dst := some 9, op := Op.call { callee := Callee.value (Operand.func 25), args := #[Operand.tmp 7, Operand.tmp 8], argTypes := #[31, 31] }, type := 31, pos := "ref.go:110", after := #[{ on := 0, ground := Ground.data }, { on := 1, ground := Ground.data }, { on := 0, ground := Ground.chain }], guard := none }) rfl (fun K hK => ?_) AllReadyH.nil
    rw [if_pos (by rfl)]
    go_simp
    refine (minus_any _ fq x fq_lt16 (Nat.le_of_lt HX.out)).mono ?_
    rintro _ wm ⟨rfl, hgm⟩
    have hr8 : Blk wm gr 31 (num fun _ => 0) := ((HR.out.keep (w' := w3.drew) rfl).grown hgp (by simp)).grown hgm (by simp)
    have hg8 : w.grownBy wm none := World.grownBy.trans (World.grownBy.trans (grown_drew HG.out) hgp) hgm
    refine hK.out _ _ (hHeld.grown hgm (by simp)) (fun hHeld => ?_)
    clear hK K
    try simp only [Act.put, List.setIfInBounds_toArray, List.set_cons_zero, List.set_cons_succ]
    refine wpAnyH_ready (rs := [3]) (by kernel_rfl) (by simp) ?_
    refine AllReadyH.cons (o := { dst := none, op := Op.store 31 (Operand.tmp 2) (Operand.tmp 9), type := 0, pos := "ref.go:110", after := #[{ on := 2, ground := Ground.data }, { on := 2, ground := Ground.chain }, { on := 0, ground := Ground.phase }, { on := 1, ground := Ground.phase }, { on := 2, ground := Ground.phase }], guard := none }) rfl (fun K hK => ?_) AllReadyH.nil
    rw [if_pos (by rfl)]
    refine wp_store_row 31 _ _ rfl gr (num (dgt (fq - x))).toArray rfl rfl 31 _ hr8 (num_size _) (num_same _ _) (all_oneCell_toArray (num_one _)) ?_
    refine hK.out _ _ (hHeld.grown (grown_setRow _ _ _) (fun e => HNE.out (Option.some.inj e))) (fun _ => ?_)
    clear hK K
    refine wpAnyH_done (by kernel_rfl) ?_ _
    dsimp only [Act.put]
    go_wp2_with (fail)
    exact bodyPost_ret (results_cell_row rfl _ _ gr 31 (num (dgt (fq - x))).toArray (0, 0) _ rfl (setRow_heap wm gr _ _ 31 (0, 0) hr8) Tryd.underlying31 rfl (num_size _)) rfl ⟨by rw [HV.out], World.grownBy.andThen hg8 (grown_setRow _ _ _) (by rintro _ ⟨⟩; exact .inl HWR.out)⟩
/-- The difference. -/
def sb (x y : Nat) : Nat := (x + ng y) % fq
end Go.Proofs.YtoookolekpblhaaDoor
