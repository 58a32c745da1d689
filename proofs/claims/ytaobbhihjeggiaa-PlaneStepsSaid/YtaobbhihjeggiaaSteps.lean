/- PlaneSteps answers true for every number: spots that follow one another are one step apart, each with a number of its own. Conditions: none. -/
import Derived.Test.YtaobbhihjeggiaaAlive
import Derived.ProofKit
import Derived.OpenShut
namespace Go.Proofs.Ytaobbhihjeggiaa
open Go.RowKit

def okSub : Bool := [(-1 : Int), 0, 1].all fun d => (rng 34).all fun x => floatBits .sub .f64 (F x) (F (x + d)) == some (F (-d))
set_option maxRecDepth 1000000 in
theorem okSub_all : okSub = true := by decide +kernel
theorem sub_F {x d : Int} (h1 : -34 ≤ x) (h2 : x ≤ 34) (hd : d ∈ [(-1 : Int), 0, 1]) : floatBits .sub .f64 (F x) (F (x + d)) = some (F (-d)) := by
  have h := List.all_eq_true.1 okSub_all d hd
  have h' := List.all_eq_true.1 h x (mem_rng (n := 34) (by omega) (by omega))
  exact eq_of_beq h'
theorem unit_sum (leg : Nat) : floatBits .mul .f64 (F (-(ddx leg))) (F (-(ddx leg))) = some (F (ddx leg * ddx leg)) ∧ floatBits .mul .f64 (F (-(ddy leg))) (F (-(ddy leg))) = some (F (ddy leg * ddy leg)) ∧ floatBits .add .f64 (F (ddx leg * ddx leg)) (F (ddy leg * ddy leg)) = some 4607182418800017408 ∧ ddx leg ∈ [(-1 : Int), 0, 1] ∧ ddy leg ∈ [(-1 : Int), 0, 1] := by
  have : leg % 4 = 0 ∨ leg % 4 = 1 ∨ leg % 4 = 2 ∨ leg % 4 = 3 := by omega
  unfold ddx ddy
  rcases this with h | h | h | h <;> rw [h] <;> decide +kernel

set_option maxHeartbeats 400000 in
theorem steps_walk (n : Int) (w : World) : Calls Try.prog 4 #[.int .i64 n] w fun e w' => e = .returned (.bool true) ∧ Below w.heap.size w w' := by
  by_cases hin : 0 ≤ n ∧ n < 4095
  · obtain ⟨k, rfl⟩ := Int.eq_ofNat_of_zero_le hin.1
    have hk : k < 4095 := by omega
    have g := good_at (k := k) (by omega)
    have u := unit_sum (lg k)
    have s1 := sub_F (x := px k) (d := ddx (lg k)) (by have := g.x1; omega) (by have := g.x2; omega) u.2.2.2.1
    have s2 := sub_F (x := py k) (d := ddy (lg k)) (by have := g.y1; omega) (by have := g.y2; omega) u.2.2.2.2
    rw [← px_succ (by omega)] at s1
    rw [← py_succ (by omega)] at s2
    have hs1 := fun t w => run_float_arith (P := Try.prog) w .sub t .f64 _ _ _ s1
    have hs2 := fun t w => run_float_arith (P := Try.prog) w .sub t .f64 _ _ _ s2
    have hm1 := fun t w => run_float_arith (P := Try.prog) w .mul t .f64 _ _ _ u.1
    have hm2 := fun t w => run_float_arith (P := Try.prog) w .mul t .f64 _ _ _ u.2.1
    have ha := fun t w => run_float_arith (P := Try.prog) w .add t .f64 _ _ _ u.2.2.1
    have q1 : (FloatKind.f64.format.order 4607182418800017408 4607182418800017408 == some .eq) = true := by kernel_rfl
    have hspot1 : ∀ w, Calls Try.prog 6 #[.int .i64 (k : Int)] w fun e W' => e = .returned (.tuple #[.complex .f64 (F (px k)) (F (py k)), .bool true]) ∧ Below w.heap.size w W' := fun w => by
      refine (spot_any k w).mono ?_
      rintro e W' ⟨⟨j, _, hj, rfl⟩ | ⟨hj, _⟩, hb⟩
      · obtain rfl : j = k := by omega
        exact ⟨rfl, hb⟩
      · omega
    have hspot2 : ∀ w, Calls Try.prog 6 #[.int .i64 ((k : Int) + 1)] w fun e W' => e = .returned (.tuple #[.complex .f64 (F (px (k + 1))) (F (py (k + 1))), .bool true]) ∧ Below w.heap.size w W' := fun w => by
      refine (spot_any _ w).mono ?_
      rintro e W' ⟨⟨j, _, hj, rfl⟩ | ⟨hj, _⟩, hb⟩
      · obtain rfl : j = k + 1 := by omega
        exact ⟨rfl, hb⟩
      · omega
    have hplace : ∀ w, Calls Try.prog 9 #[.complex .f64 (F (px (k + 1))) (F (py (k + 1)))] w fun e W' => e = .returned (.tuple #[.int .i64 ((k : Int) + 1), .bool true]) ∧ Below w.heap.size w W' := fun w => place_any (k + 1) (by omega) w
    have d1 : decide ((k : Int) < 0) = false := by simp
    have d2 : decide (4095 ≤ (k : Int)) = false := by simp; omega
    clear s1 s2 u g
    go_enter Try.func4, Try.ntmps4
    go_wp2_with fail
    go_at_call 5
    refine (alive_any _).mono ?_
    rintro e w1 ⟨rfl, hb1⟩
    go_wp2_with fail
    go_at_call 6
    refine (hspot1 _).mono ?_
    rintro e w2 ⟨rfl, hb2⟩
    go_wp2_with fail
    go_at_call 6
    refine (hspot2 _).mono ?_
    rintro e w3 ⟨rfl, hb3⟩
    go_wp2_with fail
    go_at_call 9
    refine (hplace _).mono ?_
    rintro e w4 ⟨rfl, hb4⟩
    go_wp2
    go_ret
    exact ⟨rfl, hb1.trans ((hb2.trans ((hb3.trans (hb4.mono hb3.size)).mono hb2.size)).mono hb1.size)⟩
  · by_cases hn : n < 0
    · have d1 : decide (n < 0) = true := by simpa using hn
      go_enter Try.func4, Try.ntmps4
      go_wp2_with fail
      go_at_call 5
      refine (alive_any _).mono ?_
      rintro e w1 ⟨rfl, hb1⟩
      go_wp2
      go_ret
      exact ⟨rfl, hb1⟩
    · have hn2 : 4095 ≤ n := by omega
      have d1 : decide (n < 0) = false := by simpa using hn
      have d2 : decide (4095 ≤ n) = true := by simpa using hn2
      go_enter Try.func4, Try.ntmps4
      go_wp2_with fail
      go_at_call 5
      refine (alive_any _).mono ?_
      rintro e w1 ⟨rfl, hb1⟩
      go_wp2
      go_ret
      exact ⟨rfl, hb1⟩

open Go.ChangeShapes Go.WideShapes Go.ChangeAt

theorem steps_own : ownKnob Try.prog.godebug = none := by kernel_rfl

set_option maxRecDepth 100000 in
theorem steps_lifted (os : Os) (started : os.Started) (H : Type) (enc : TypeId × Value → H) :
    ReturnsInHanded {} Try.checked os 4 .any (Rows.planeStepsSpec.pre6 enc Try.prog Try.f4 Rows.planeStepsRow.domain false) (Rows.planeStepsSpec.post enc Try.prog Try.f4 false true false false) := by
  refine returnsInHanded_of_change (C := Try.checked) steps_own started (by kernel_rfl) Try.func4
    (ChangeSpec.witness6 (enc := enc) (C := Try.checked) false ⟨#[], #[.int .i64 0], []⟩ 8 (by kernel_rfl) (by kernel_rfl) (by kernel_rfl) (by kernel_rfl)) ?_
  intro W base args ds gs before hval0 hW _ _
  have hval : ∀ (j : Nat) t v, Try.f4.params[j]? = some t → args[j]? = some v → Value.okWide Try.prog W .any base t v := hval0
  have hW' := hW
  obtain ⟨p, q, hA0, hV, rfl, _, _⟩ := hW
  have hA : DataW.TrodAll enc Try.prog W 0 (fun _ => true) true Try.f4.params.toList args.toList ds p := hA0
  rw [Try.params4] at hA hval
  obtain ⟨v0, vs0, d0, ds0, p0, q0, hargs, rfl, rfl, h0, r0⟩ := trodAll_cons hA
  obtain ⟨rfl, rfl, rfl⟩ := trodAll_nil r0
  obtain rfl : args = #[v0] := by cases args; simp_all
  obtain ⟨rfl, rfl⟩ := trodVars_none hV
  obtain ⟨a0, rfl, rfl, rfl, w0⟩ := open_int Try.underlying3 (hval 0 3 v0 rfl rfl) h0
  clear hA0 hval0
  simp only [List.append_nil] at hW'
  refine (steps_walk a0 W).mono fun e W' ⟨he, hg⟩ => ?_
  subst he
  refine ⟨_, rfl, ?_⟩
  refine ⟨_, _, _, [], [], [], hW', trodAll_mk1 (shut_bool Try.underlying4 true), trodAll_mk1 (shut_int Try.underlying3 w0), rfl, hg.frame _, fun h => by cases h⟩

theorem steps_over : Rows.planeStepsRow.holds Try.pinned (OpenSpec.ofChange Rows.planeStepsSpec) :=
  OpenClaim.holds_of_wide 4 Try.f4 rfl rfl rfl rfl rfl rfl rfl ⟨rfl, rfl, rfl, rfl, rfl⟩ rfl rfl rfl rfl rfl (by kernel_rfl) Try.func4 (by kernel_rfl)
    (of_decide_eq_true (by kernel_rfl)) (by unfold Func.isWrapper; first | (rw [if_pos (by decide +kernel)]; kernel_rfl) | (rw [if_neg (by decide +kernel)]; exact ⟨rfl, rfl⟩))
    (fun os started H enc _ => steps_lifted os started H enc)

theorem steps_holds : Rows.PlaneStepsSaid := steps_over
#print axioms steps_holds

end Go.Proofs.Ytaobbhihjeggiaa
