/- The reference's inverses. Conditions: the number has sixteen digits. -/
import Derived.Test.YtoookolekpblhaaDoorNum11
namespace Go.Proofs.YtoookolekpblhaaDoor
open Go.RowKit
theorem run_build1 (w : World) (m : Nat) : (Instr.build 31 #[(0, .int .i64 (m : Int))]).run Tryd.prog w = .ok (.agg (num (fun i => if i = 0 then m else 0)).toArray) w := by kernel_rfl
theorem num_small (m : Nat) (h : m < 65536) : num (fun i => if i = 0 then m else 0) = num (dgt m) := by
  refine num_ext (num_length _) fun j hj => ?_
  rw [num_get _ j hj]
  by_cases h0 : j = 0
  · subst h0
    rw [if_pos rfl]
    simp [dgt]
    omega
  · rw [if_neg h0, dgt_over (k := 1) (by omega) (by omega)]
theorem build_small (w : World) (m : Nat) (h : m < 65536) : (Instr.build 31 #[(0, .int .i64 (m : Int))]).run Tryd.prog w = .ok (.agg (num (dgt m)).toArray) w := by
  rw [← num_small m h]
  exact run_build1 w m
section
variable {w : World} {ops : Array Oper} {rest : List Oper} {o : Oper} {a : Act} {Q : Exit → Act → World → Prop} {S : World → Prop}
theorem yieldsIf_build (hw : Region.wanted o (yielded ops a.tmps) = true) (m : Nat) (ho : o.op = .build 31 #[(0, .const (.int .i64 (m : Int)))]) (h : m < 65536) : YieldsIf Tryd.prog ops S o (.agg (num (dgt m)).toArray) a :=
  .inl ⟨hw, fun w _ => by
    have hrun := build_small w m h
    generalize num (dgt m) = z at hrun ⊢
    unfold execOp
    simp only [ho, List.map_toArray, List.map_cons, List.map_nil, Act.eval, hrun, Sem.run_bind, Sem.run_pure, Result.andThen_ok]⟩
theorem wpList_build (hgd : o.guard = none) (m : Nat) (ho : o.op = .build 31 #[(0, .const (.int .i64 (m : Int)))]) (h0 : m < 65536)
    (h : wpList Tryd.prog ops Q rest (a.put o.dst (.agg (num (dgt m)).toArray)) w) : wpList Tryd.prog ops Q (o :: rest) a w := by
  refine wpList_plain hgd fun K hK => ?_
  have hrun := build_small w m h0
  generalize num (dgt m) = z at hrun h
  unfold Oper.wp
  simp only [execOp, ho, List.map_toArray, List.map_cons, List.map_nil, Act.eval, hrun, Sem.run_bind, Sem.run_pure, Result.andThen_ok]
  exact hK _ _ h
end
set_option maxRecDepth 100000 in
set_option maxHeartbeats 1600000 in
theorem inv_any (w : World) (x e : Nat) (hx : x < fq) (he : e = fq - 2) : Calls Tryd.prog 13 #[.agg (num (dgt x)).toArray] w fun e' w' => e' = .returned (.agg (num (dgt (x ^ e % fq))).toArray) ∧ w.grownBy w' none := by
  have HX := Lib.hid hx
  have hm : ∀ W : World, Calls Tryd.prog 25 #[.agg (num (dgt fq)).toArray, .agg (num (dgt 2)).toArray] W fun e' w' => e' = .returned (.agg (num (dgt e)).toArray) ∧ W.grownBy w' none := fun W => by
    have := minus_any W fq 2 fq_lt16 (by decide)
    rwa [← he] at this
  have HM := Lib.hid hm
  have HE : Hid (e < 65536 ^ 16) := Lib.hid (Nat.lt_of_le_of_lt (by rw [he]; exact Nat.sub_le _ _) fq_lt16)
  clear hx he hm
  go_enter Tryd.func13, Tryd.ntmps13
  go_wp2_with (refine wpList_box32 rfl _ (dgt x) rfl rfl ?_)
  intro w1 hb1 hg1 hz1'
  go_wp2_with (refine wpList_alloc32 rfl rfl ?_)
  intro w3 hb3 hg3 hz3
  obtain ⟨ga, hga⟩ : ∃ g, g = w.heap.size := ⟨_, rfl⟩
  obtain ⟨gr, hgr⟩ : ∃ g, g = w.heap.size + 1 := ⟨_, rfl⟩
  rw [← hgr, ← hga]
  rw [← hga] at hb1
  rw [← hgr] at hb3
  have HA : Hid (Blk w3 ga 31 (num (dgt x))) := Lib.hid (hb1.grown hg3 (by simp))
  have HR : Hid (Blk w3 gr 31 (num fun _ => 0)) := Lib.hid hb3
  have HG : Hid (w.grownBy w3 none) := Lib.hid (World.grownBy.trans hg1 hg3)
  have HWR : Hid (w.heap.size ≤ gr) := Lib.hid (by omega)
  have HNE : Hid (ga ≠ gr) := Lib.hid (by omega)
  clear hb1 hg1 hz1' hb3 hg3 hz3 hga hgr
  go_wp2_with (fail)
  refine wp_region_held_drew (S := fun w' => Blk w' ga 31 (num (dgt x))) (by kernel_rfl) (HA.out.keep rfl) (fun hHeld => ?_)
  have hr0 := HR.out.keep (w' := w3.drew) rfl
  have hw0 := grown_drew HG.out
  refine' wpAnyH_take (i := 0) (oi := { dst := some 3, op := Op.load 31 (Operand.tmp 1), type := 31, pos := "ref.go:151", after := #[], guard := none }) (v := _) rfl (by kernel_rfl) (by kernel_rfl) (by kernel_rfl) (fun _ _ _ h => h) (yieldsIf_load_mid (by rfl) _ _ rfl ga 0 rfl (num (dgt x)) _ (fun w' hs => range_blk hs) Tryd.underlying31 rfl (num_size' _)) (by assumption) ?qz1
  try simp only [Act.put, List.setIfInBounds_toArray, List.set_cons_zero, List.set_cons_succ]
  refine' wpAnyH_take (i := 2) (oi := { dst := some 5, op := Op.build 31 #[(0, Operand.const (Value.int IntKind.i64 2))], type := 31, pos := "ref.go:151", after := #[], guard := none }) (v := _) rfl (by kernel_rfl) (by kernel_rfl) (by kernel_rfl) (fun _ _ _ h => h) (yieldsIf_build (by rfl) 2 rfl (by decide)) (by assumption) ?qz2
  try simp only [Act.put, List.setIfInBounds_toArray, List.set_cons_zero, List.set_cons_succ]
  refine wpAnyH_ready (rs := [1]) (by kernel_rfl) (by simp) ?_
  refine AllReadyH.cons (o := { dst := some 4, op := Op.call { callee := Callee.value (Operand.func 26), args := #[], argTypes := #[] }, type := 31, pos := "ref.go:151", after := #[], guard := none }) rfl (fun K hK => ?_) AllReadyH.nil
  rw [if_pos (by rfl)]
  go_simp
  with_reducible refine (prime_any _).mono ?_
  rintro _ wz3 ⟨rfl, hgz4⟩
  have hbz5 := Blk.grown hr0 hgz4 (by simp)
  have hwz6 := World.grownBy.trans hw0 hgz4
  refine hK.out _ _ (hHeld.grown hgz4 (by simp)) (fun hHeld => ?_)
  clear hK K
  try simp only [Act.put, List.setIfInBounds_toArray, List.set_cons_zero, List.set_cons_succ]
  refine wpAnyH_ready (rs := [3]) (by kernel_rfl) (by simp) ?_
  refine AllReadyH.cons (o := { dst := some 6, op := Op.call { callee := Callee.value (Operand.func 25), args := #[Operand.tmp 4, Operand.tmp 5], argTypes := #[31, 31] }, type := 31, pos := "ref.go:151", after := #[{ on := 1, ground := Ground.data }, { on := 2, ground := Ground.data }, { on := 1, ground := Ground.chain }], guard := none }) rfl (fun K hK => ?_) AllReadyH.nil
  rw [if_pos (by rfl)]
  go_simp
  with_reducible refine (HM.out _).mono ?_
  rintro _ wz7 ⟨rfl, hgz8⟩
  have hbz9 := Blk.grown hbz5 hgz8 (by simp)
  have hwz10 := World.grownBy.trans hwz6 hgz8
  refine hK.out _ _ (hHeld.grown hgz8 (by simp)) (fun hHeld => ?_)
  clear hK K
  try simp only [Act.put, List.setIfInBounds_toArray, List.set_cons_zero, List.set_cons_succ]
  refine wpAnyH_ready (rs := [4]) (by kernel_rfl) (by simp) ?_
  refine AllReadyH.cons (o := { dst := some 7, op := Op.call { callee := Callee.value (Operand.func 24), args := #[Operand.tmp 3, Operand.tmp 6], argTypes := #[31, 31] }, type := 31, pos := "ref.go:151", after := #[{ on := 0, ground := Ground.data }, { on := 3, ground := Ground.data }, { on := 3, ground := Ground.chain }], guard := none }) rfl (fun K hK => ?_) AllReadyH.nil
  rw [if_pos (by rfl)]
  go_simp
  with_reducible refine (power_any _ x e (lt16 HX.out) HE.out).mono ?_
  rintro _ wz11 ⟨rfl, hgz12⟩
  have hbz13 := Blk.grown hbz9 hgz12 (by simp)
  have hwz14 := World.grownBy.trans hwz10 hgz12
  refine hK.out _ _ (hHeld.grown hgz12 (by simp)) (fun hHeld => ?_)
  clear hK K
  try simp only [Act.put, List.setIfInBounds_toArray, List.set_cons_zero, List.set_cons_succ]
  refine wpAnyH_ready (rs := [5]) (by kernel_rfl) (by simp) ?_
  refine AllReadyH.cons (o := { dst := none, op := Op.store 31 (Operand.tmp 2) (Operand.tmp 7), type := 0, pos := "ref.go:151", after := #[{ on := 4, ground := Ground.data }, { on := 4, ground := Ground.chain }, { on := 0, ground := Ground.phase }, { on := 1, ground := Ground.phase }, { on := 2, ground := Ground.phase }, { on := 3, ground := Ground.phase }, { on := 4, ground := Ground.phase }], guard := none }) rfl (fun K hK => ?_) AllReadyH.nil
  rw [if_pos (by rfl)]
  refine wp_store_row 31 _ _ rfl gr (num (dgt (x ^ e % fq))).toArray rfl rfl 31 _ hbz13 (num_size _) (num_same _ _) (all_oneCell_toArray (num_one _)) ?_
  refine hK.out _ _ (hHeld.grown (grown_setRow _ _ _) (fun e => HNE.out (Option.some.inj e))) (fun hHeld => ?_)
  clear hK K
  dsimp only [Act.put]
  refine wpAnyH_done (by kernel_rfl) ?_ _

  go_wp2_with (fail)
  exact bodyPost_ret (results_cell_row rfl _ _ gr 31 (num (dgt (x ^ e % fq))).toArray (0, 0) _ rfl (setRow_heap wz11 gr _ _ 31 (0, 0) hbz13) Tryd.underlying31 rfl (num_size _)) rfl ⟨rfl, World.grownBy.andThen hwz14 (grown_setRow _ _ _) (by rintro _ ⟨⟩; exact .inl HWR.out)⟩
end Go.Proofs.YtoookolekpblhaaDoor
