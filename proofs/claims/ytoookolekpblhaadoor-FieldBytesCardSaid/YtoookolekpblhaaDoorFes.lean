/- Numbers of five limbs in memory: boxed, made, loaded, compared; the two tables; the sum. Conditions: none. -/
import Derived.Test.YtoookolekpblhaaDoorSet
import Derived.Laws.StructEq
namespace Go.Proofs.YtoookolekpblhaaDoor
open Go.RowKit
theorem run_box27 (w : World) (f : Nat → Int) : (Instr.box 27 (.agg (cl f).toArray)).run Tryd.prog w = .ok (.pointer (some ⟨w.heap.size, 0, none⟩)) (w.alloc (.cells (cl f).toArray 27)) := by kernel_rfl
theorem run_new27 (w : World) : (Instr.alloc 27 true (.tuple #[])).run Tryd.prog w = .ok (.pointer (some ⟨w.heap.size, 0, none⟩)) (w.alloc (.cells (cl fun _ => 0).toArray 27)) := by kernel_rfl
theorem size27 : (Tryd.prog.info? 27).map (·.size) = some 5 := by kernel_rfl
theorem size25 : (Tryd.prog.info? 25).map (·.size) = some 5 := by kernel_rfl
theorem cl_size (f : Nat → Int) : (Tryd.prog.info? 27).map (·.size) = some (cl f).toArray.size := by rw [size27, List.size_toArray, cl_length]
theorem cl_size' (f : Nat → Int) : (Tryd.prog.info? 27).map (·.size) = some (cl f).length := by rw [size27, cl_length]
theorem cl_size25 (f : Nat → Int) : (Tryd.prog.info? 25).map (·.size) = some (cl f).length := by rw [size25, cl_length]
theorem cl_same (f g : Nat → Int) : (cl f).toArray.size = (cl g).toArray.size := by simp [cl_length]
theorem idx25 (f : Nat → Int) (i : Nat) (h : i < 5) (w : World) : (Instr.index 25 (.agg (cl f).toArray) (.int .i64 (i : Int))).run Tryd.prog w = .ok (.int .i64 (f i)) w := by
  obtain rfl | rfl | rfl | rfl | rfl : i = 0 ∨ i = 1 ∨ i = 2 ∨ i = 3 ∨ i = 4 := by omega
  all_goals kernel_rfl
section
variable {w : World} {ops : Array Oper} {rest : List Oper} {o : Oper} {a : Act} {Q : Exit → Act → World → Prop}
theorem wpList_box27 (hgd : o.guard = none) (x : Operand) (f : Nat → Int) (ho : o.op = .box 27 x) (hx : a.eval x = .agg (cl f).toArray)
    (h : ∀ w', Blk w' w.heap.size 27 (cl f) → w.grownBy w' none → w'.heap.size = w.heap.size + 1 → wpList Tryd.prog ops Q rest (a.put o.dst (.pointer (some ⟨w.heap.size, 0, none⟩))) w') : wpList Tryd.prog ops Q (o :: rest) a w := by
  refine wpList_plain hgd fun K hK => ?_
  have hrun := run_box27 w f
  generalize cl f = z at hrun h hx
  unfold Oper.wp
  simp only [execOp, ho, hx, Sem.run_bind, hrun, Result.andThen_ok, Sem.run_pure]
  exact hK _ _ (h _ (Blk.of_alloc w _ 27) (World.grownBy_alloc w _ none) (World.size_alloc w _))
theorem wpList_new27 (hgd : o.guard = none) (ho : o.op = .alloc 27)
    (h : ∀ w', Blk w' w.heap.size 27 (cl fun _ => 0) → w.grownBy w' none → w'.heap.size = w.heap.size + 1 → wpList Tryd.prog ops Q rest (a.put o.dst (.pointer (some ⟨w.heap.size, 0, none⟩))) w') : wpList Tryd.prog ops Q (o :: rest) a w := by
  refine wpList_plain hgd fun K hK => ?_
  have hrun := run_new27 w
  generalize (cl fun _ => 0) = z at hrun h
  unfold Oper.wp
  simp only [execOp, ho, Sem.run_bind, hrun, Result.andThen_ok, Sem.run_pure]
  exact hK _ _ (h _ (Blk.of_alloc w _ 27) (World.grownBy_alloc w _ none) (World.size_alloc w _))
end
/-- Sums, limb by limb. -/
def smf (x y j : Nat) : Int := lf x j + lf y j
theorem smf_tot {x y : Nat} (hx : x < fq) (hy : y < fq) : tot (smf x y) = ((x + y : Nat) : Int) := by
  have h1 := lf_tot (x := x) (by unfold fq at hx; omega)
  have h2 := lf_tot (x := y) (by unfold fq at hy; omega)
  unfold tot at h1 h2 ⊢
  unfold smf
  omega
set_option maxRecDepth 100000 in
set_option maxHeartbeats 1600000 in
theorem add5_any (w : World) (x y : Nat) (hx : x < fq) (hy : y < fq) : Calls Tryd.prog 18 #[.agg (ls x).toArray, .agg (ls y).toArray] w fun e w' => e = .returned (.agg (ls ((x + y) % fq)).toArray) ∧ w.grownBy w' none := by
  have hs : ∀ (W : World) (g : Nat), Blk W g 27 (cl (smf x y)) → Calls Tryd.prog 20 #[.pointer (some ⟨g, 0, none⟩)] W fun e w' => e = .returned (.tuple #[]) ∧ Blk w' g 27 (ls ((x + y) % fq)) ∧ W.grownBy w' (some g) ∧ w'.heap.size = W.heap.size := fun W g h => by
    refine settle_any h (fun i _ => ?_) (smf_tot hx hy) (by omega)
    have h1 := lf_pos x i
    have h2 := lf_pos y i
    have h3 := lf_lt x i
    have h4 := lf_lt y i
    unfold smf
    omega
  obtain ⟨s, hs'⟩ : ∃ s, s = (x + y) % fq := ⟨_, rfl⟩
  rw [← hs'] at hs ⊢
  have HS := Lib.hid hs
  clear hs hs' hx hy
  unfold ls at HS ⊢
  go_enter Tryd.func18, Tryd.ntmps18
  go_wp2_with (refine wpList_box27 rfl _ (lf x) rfl rfl ?_)
  intro w1 hb1 hg1 hz1
  go_wp2_with (refine wpList_box27 rfl _ (lf y) rfl rfl ?_)
  intro w2 hb2 hg2 hz2
  go_wp2_with (refine wpList_new27 rfl rfl ?_)
  intro w3 hb3 hg3 hz3
  obtain ⟨ga, hga⟩ : ∃ g, g = w.heap.size := ⟨_, rfl⟩
  obtain ⟨gb, hgb⟩ : ∃ g, g = w.heap.size + 1 := ⟨_, rfl⟩
  obtain ⟨gr, hgr⟩ : ∃ g, g = w.heap.size + 1 + 1 := ⟨_, rfl⟩
  rw [← hgr, ← hgb, ← hga]
  rw [← hga] at hb1
  rw [← hgb] at hb2
  rw [← hgr] at hb3
  have n1 : gr ≠ ga := by omega
  have HA : Hid (Blk w3 ga 27 (cl (lf x))) := Lib.hid ((hb1.grown hg2 (by simp)).grown hg3 (by simp))
  have HB : Hid (Blk w3 gb 27 (cl (lf y))) := Lib.hid (hb2.grown hg3 (by simp))
  have HR : Hid (Blk w3 gr 27 (cl fun _ => 0)) := Lib.hid hb3
  have HG : Hid (w.grownBy w3 none) := Lib.hid (World.grownBy.trans (World.grownBy.trans hg1 hg2) hg3)
  have HWA : Hid (w.heap.size ≤ ga) := Lib.hid (by omega)
  have HWR : Hid (w.heap.size ≤ gr) := Lib.hid (by omega)
  clear hb1 hg1 hz1 hb2 hg2 hz2 hb3 hg3 hz3 hga hgb hgr
  go_wp2_with (refine wpList_load_mid rfl 25 _ rfl gb 0 rfl (cl (lf y)) _ (range_blk HB.out) Tryd.underlying25 rfl (cl_size25 _) ?_)
  go_loopw [9] (fun v wr => ∃ i : Nat, i ≤ 5 ∧ v = .int .i64 (i : Int) ∧ Blk wr ga 27 (cl (mx (smf x y) (lf x) i)) ∧ w3.grownBy wr (some ga)) (fun v _ => 5 - (intOf v).toNat)
  case atStart => exact ⟨0, by omega, rfl, by rw [mx_zero]; exact HA.out, World.grownBy.refl _ _⟩
  case round =>
    clear HA
    obtain ⟨i, hi, rfl, hb, hg⟩ := hrel
    by_cases hlt : i < 5
    · have c1 := hb.get i _ (cl_get _ i hlt)
      rw [mx_at] at c1
      have c2 := idx25 (lf y) i hlt
      have hfz := hb.frozen i
      obtain ⟨z, hz⟩ : ∃ z, z = smf x y i := ⟨_, rfl⟩
      have d1 : IntKind.i64.wrap (lf x i + lf y i) = z := by
        have h1 := lf_pos x i
        have h2 := lf_pos y i
        have h3 := lf_lt x i
        have h4 := lf_lt y i
        rw [hz, smf]
        exact i64_in (by omega)
      have hset := mx_set (smf x y) (lf x) i z hz
      have HB2 := Lib.hid hb
      have HG2 := Lib.hid hg
      have HSET := Lib.hid hset
      clear hb hg hset hz
      go_wp2
      go_roundw
      case rel => exact ⟨i + 1, by omega, by go_num, (HB2.out.set i _).to HSET.out, World.grownBy.trans HG2.out (grown_set wr ga i _)⟩
      case measure => simp [intOf]; omega
    · have ei : i = 5 := by omega
      rw [ei, mx_all] at hb
      have HB2 := Lib.hid hb
      have HR2 := Lib.hid (HR.out.grown hg (fun e => n1 (Option.some.inj e)))
      have HG2 := Lib.hid (World.grownBy.andThen HG.out hg (by rintro _ ⟨⟩; exact .inl HWA.out))
      obtain ⟨n9, hn9⟩ : ∃ n : Int, n = (i : Int) := ⟨_, rfl⟩
      have hn5 : ¬ n9 < 5 := by omega
      rw [← hn9]
      clear hb hg hi hlt ei hn9 HR HG HB
      go_wp2_with (first
        | (go_at_call 20
           refine (HS.out _ ga HB2.out).mono ?_
           rintro _ w5 ⟨rfl, hb5, hg5, hz5⟩
           have HB5 := Lib.hid hb5
           have HR5 := Lib.hid (HR2.out.grown hg5 (fun e => n1 (Option.some.inj e)))
           have HG5 := Lib.hid (World.grownBy.andThen HG2.out hg5 (by rintro _ ⟨⟩; exact .inl HWA.out))
           clear hb5 hg5 hz5 HB2 HR2 HG2)
        | (refine wpList_load_mid rfl 27 _ rfl ga 0 rfl (cl (lf s)) _ (range_blk HB5.out) Tryd.underlying27 rfl (cl_size' _) ?_)
        | (refine wpList_store_row rfl 27 _ _ rfl gr (cl (lf s)).toArray rfl rfl 27 _ HR5.out (cl_size _) (cl_same _ _) (all_oneCell_toArray (cl_one _)) ?_))
      exact bodyPost_ret (results_cell_row rfl _ _ gr 27 (cl (lf s)).toArray (0, 0) _ rfl (setRow_heap w5 gr _ _ 27 (0, 0) HR5.out) Tryd.underlying27 rfl (cl_size _)) rfl ⟨rfl, World.grownBy.andThen HG5.out (grown_setRow _ _ _) (by rintro _ ⟨⟩; exact .inl HWR.out)⟩
end Go.Proofs.YtoookolekpblhaaDoor
