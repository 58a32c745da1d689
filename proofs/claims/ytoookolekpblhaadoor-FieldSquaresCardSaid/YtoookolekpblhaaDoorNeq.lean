/- Numbers of five limbs told apart; roots in plain arithmetic. Conditions: the numbers are below p. -/
import Derived.Test.YtoookolekpblhaaDoorInv
namespace Go.Proofs.YtoookolekpblhaaDoor
open Go.RowKit
theorem size2 (w : World) : (sizeOf 2).run Tryd.prog w = .ok 1 w := by kernel_rfl
theorem part25 (w : World) (f : Nat → Int) : (part 25 (cl f).toArray 0).run Tryd.prog w = .ok (.agg (cl f).toArray) w := by kernel_rfl
theorem run_equalIn_cl (w : World) (d : Nat) (f g : Nat → Int) :
    (Op.equalIn (d + 2) 25 (.agg (cl f).toArray) (.agg (cl g).toArray)).run Tryd.prog w = .ok ((List.range 5).all fun i => f i == g i) w := by
  rw [List.range_eq_range', Op.equalIn]
  simp only [Sem.run_bind, run_underlying Tryd.underlying25, Result.andThen_ok, size2, Std.Legacy.Range.forIn_eq_forIn_range', Std.Legacy.Range.size, Nat.sub_zero, Nat.add_sub_cancel, Nat.div_one]
  have hl : ∀ i ∈ List.range' 0 5 1, i < 5 := fun i hi => by simpa using (List.mem_range'_1.1 hi).2
  generalize List.range' 0 5 1 = l at hl ⊢
  induction l with
  | nil => simp
  | cons i l ih =>
    have hi : i < 5 := hl i (by simp)
    have px : ∀ f : Nat → Int, (part 2 (cl f).toArray (i * 1)).run Tryd.prog w = .ok (.int .i64 (f i)) w := fun f => by
      simp only [part, isAgg, Sem.run_bind, run_underlying Tryd.underlying2, Result.andThen_ok, Nat.mul_one]
      simp [cl_get f i hi]
    have pe : (Op.equalIn (d + 1) 2 (.int .i64 (f i)) (.int .i64 (g i))).run Tryd.prog w = .ok (f i == g i) w := by
      rw [run_equalIn_int w d 2 .i64 .i64 _ _ Tryd.underlying2]
    simp only [List.forIn_cons, Sem.run_bind, px, pe, Result.andThen_ok, List.all_cons]
    cases hb : (f i == g i)
    · simp
    · simp only [Bool.not_true, Bool.false_eq_true, if_false, Sem.run_pure, Result.andThen_ok, Bool.true_and]
      exact ih fun j hj => hl j (by simp [hj])
theorem lf_inj {x y : Nat} (hx : x < fq) (hy : y < fq) (h : ∀ i, i < 5 → lf x i = lf y i) : x = y := by
  have h1 := lf_tot (x := x) (by unfold fq at hx; omega)
  have h2 := lf_tot (x := y) (by unfold fq at hy; omega)
  unfold tot at h1 h2
  rw [h 0 (by omega), h 1 (by omega), h 2 (by omega), h 3 (by omega), h 4 (by omega)] at h1
  omega
theorem ls_all {x y : Nat} (hx : x < fq) (hy : y < fq) : ((List.range 5).all fun i => lf x i == lf y i) = decide (x = y) := by
  rw [Bool.eq_iff_iff]
  simp only [List.all_eq_true, List.mem_range, beq_iff_eq, decide_eq_true_eq]
  exact ⟨fun h => lf_inj hx hy h, fun h i _ => by rw [h]⟩
theorem run_neq27 (w : World) {x y : Nat} (hx : x < fq) (hy : y < fq) : (binOp .neq 27 (.agg (cl (lf x)).toArray) (.agg (cl (lf y)).toArray)).run Tryd.prog w = .ok (.bool (!decide (x = y))) w := by
  have h := run_equalIn_struct (P := Tryd.prog) w 9999 27 (cl (lf x)).toArray (cl (lf y)).toArray (by kernel_rfl) (by kernel_rfl)
  have hf : (Tryd.prog.fieldsOf 27).toList = [{ name := "limbs", type := 25, offset := 0, embedded := false, tag := "", pkgPath := "missive/field", byteOffset := 0 }] := by kernel_rfl
  rw [hf] at h
  have he := run_equalIn_cl w 9997 (lf x) (lf y)
  rw [ls_all hx hy] at he
  rw [run_neq_struct, h]
  simp only [Op.eqFields, part25, Sem.run_bind, Result.andThen_ok, Sem.run_ite]
  rw [if_pos (by decide), he]
  simp only [Result.andThen_ok]
  cases decide (x = y) <;> rfl
theorem guard27 : Tryd.prog.eqGuardType Tryd.prog.depth 27 = false := by kernel_rfl
theorem root_cases {x e8 : Nat} (hx : x < fq) (he : e8 = (fp + 3) / 8) :
    (x ^ e8 % fq * (x ^ e8 % fq) % fq = x → rootN x = some (evn (x ^ e8 % fq))) ∧
    (x ^ e8 % fq * (x ^ e8 % fq) % fq ≠ x → ((x ^ e8 % fq * im % fq) * (x ^ e8 % fq * im % fq) % fq = x → rootN x = some (evn (x ^ e8 % fq * im % fq))) ∧ ((x ^ e8 % fq * im % fq) * (x ^ e8 % fq * im % fq) % fq ≠ x → rootN x = none)) := by
  rw [fq_fp] at hx ⊢
  have hl := Nat.mod_lt (x ^ e8) fp_pos
  have hl2 := Nat.mod_lt (x ^ e8 % fp * im) fp_pos
  refine ⟨fun h => rootN_is hx (evn_lt hl) (evn_even hl) (by rw [evn_sq hl, h]), fun h => ⟨fun h2 => rootN_is hx (evn_lt hl2) (evn_even hl2) (by rw [evn_sq hl2, h2]), fun h2 => ?_⟩⟩
  cases hr : rootN x with
  | none => rfl
  | some s =>
    exfalso
    obtain ⟨_, _, h5⟩ := rootN_some hx hr
    unfold rootN at hr
    rw [← he] at hr
    split at hr
    · cases hr
    · obtain rfl := Option.some.inj hr
      rw [evn_sq hl2] at h5
      exact h2 h5
end Go.Proofs.YtoookolekpblhaaDoor
