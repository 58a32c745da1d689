/- PlaneSpots answers true for every number: its spot is the document's, with no part that is -0, and Place tells the number back. Conditions: none. -/
import Derived.Test.YtaobbhihjeggiaaAlive
import Derived.Test.YtaobbhihjeggiaaRefSpot
import Derived.ProofKit
import Derived.OpenShut
namespace Go.Proofs.Ytaobbhihjeggiaa
open Go.RowKit

theorem F_0 : F 0 = 0 := by kernel_rfl

/-- A part that is no -0: either it isn't 0, or 1 divided by it is above 0. -/
def NeatPart (b : Nat) : Prop := (FloatKind.f64.format.order b 0 == some .eq) = false ∨ b = 0
theorem neat_part {x : Int} (h1 : -80 ≤ x) (h2 : x ≤ 80) : NeatPart (F x) := by
  by_cases h : x = 0
  · subst h; exact .inr F_0
  · refine .inl ?_
    have := eq_F h1 h2 (b := 0) (by omega) (by omega)
    rw [F_0, decide_eq_false h] at this
    exact this

set_option maxHeartbeats 400000 in
theorem neat_any (a b : Nat) (ha : NeatPart a) (hb : NeatPart b) (w : World) : Calls Try.prog 8 #[.complex .f64 a b] w fun e w' => e = .returned (.bool true) ∧ w = w' := by
  have q0 : (FloatKind.f64.format.order 0 0 == some .eq) = true := by kernel_rfl
  have hq := fun t w => run_float_arith (P := Try.prog) w .quo t .f64 4607182418800017408 0 9218868437227405312 (by kernel_rfl)
  have qg : (FloatKind.f64.format.order 9218868437227405312 0 == some .gt) = true := by kernel_rfl
  rcases ha with ha | rfl
  · rcases hb with hb | rfl
    · have ha' : (FloatKind.f64.format.order a 0 != some .eq) = true := by simp only [bne, ha]; rfl
      have hb' : (FloatKind.f64.format.order b 0 != some .eq) = true := by simp only [bne, hb]; rfl
      go_enter Try.func8, Try.ntmps8
      go_wp2
      go_ret
      exact ⟨rfl, rfl⟩
    · have ha' : (FloatKind.f64.format.order a 0 != some .eq) = true := by simp only [bne, ha]; rfl
      have hb' : (FloatKind.f64.format.order 0 0 != some .eq) = false := by kernel_rfl
      go_enter Try.func8, Try.ntmps8
      go_wp2
      go_ret
      exact ⟨rfl, rfl⟩
  · rcases hb with hb | rfl
    · have ha' : (FloatKind.f64.format.order 0 0 != some .eq) = false := by kernel_rfl
      have hb' : (FloatKind.f64.format.order b 0 != some .eq) = true := by simp only [bne, hb]; rfl
      go_enter Try.func8, Try.ntmps8
      go_wp2
      go_ret
      exact ⟨rfl, rfl⟩
    · have ha' : (FloatKind.f64.format.order 0 0 != some .eq) = false := by kernel_rfl
      go_enter Try.func8, Try.ntmps8
      go_wp2
      go_ret
      exact ⟨rfl, rfl⟩

theorem place_0 (w : World) : Calls Try.prog 9 #[.complex .f64 0 0] w fun e W' => e = .returned (.tuple #[.int .i64 0, .bool true]) ∧ Below w.heap.size w W' := by
  have h := place_any 0 (by omega) w
  rw [px_0, py_0, F_0] at h
  exact h

set_option maxHeartbeats 400000 in
theorem spots_walk (n : Int) (w : World) : Calls Try.prog 3 #[.int .i64 n] w fun e w' => e = .returned (.bool true) ∧ Below w.heap.size w w' := by
  by_cases hin : 0 ≤ n ∧ n < 4096
  · obtain ⟨k, rfl⟩ := Int.eq_ofNat_of_zero_le hin.1
    have hk : k < 4096 := by omega
    have g := good_at (k := k) (by omega)
    have x1 := g.x1; have x2 := g.x2; have y1 := g.y1; have y2 := g.y2
    have qx := eq_F (a := px k) (b := px k) (by omega) (by omega) (by omega) (by omega)
    have qy := eq_F (a := py k) (b := py k) (by omega) (by omega) (by omega) (by omega)
    rw [decide_eq_true rfl] at qx qy
    have hspot : ∀ w, Calls Try.prog 6 #[.int .i64 (k : Int)] w fun e W' => e = .returned (.tuple #[.complex .f64 (F (px k)) (F (py k)), .bool true]) ∧ Below w.heap.size w W' := fun w => by
      refine (spot_any k w).mono ?_
      rintro e W' ⟨⟨j, _, hj, rfl⟩ | ⟨hj, _⟩, hb⟩
      · obtain rfl : j = k := by omega
        exact ⟨rfl, hb⟩
      · omega
    have hneat : ∀ w, Calls Try.prog 8 #[.complex .f64 (F (px k)) (F (py k))] w fun e w' => e = .returned (.bool true) ∧ w = w' := fun w => neat_any _ _ (neat_part (by omega) (by omega)) (neat_part (by omega) (by omega)) w
    clear g x1 x2 y1 y2
    go_enter Try.func3, Try.ntmps3
    go_wp2_with fail
    go_at_call 5
    refine (alive_any _).mono ?_
    rintro e w1 ⟨rfl, hb1⟩
    go_wp2_with fail
    go_at_call 6
    refine (hspot _).mono ?_
    rintro e w2 ⟨rfl, hb2⟩
    go_wp2_with fail
    go_at_call 7
    refine (refspot_in k hk _).mono ?_
    rintro e w3 ⟨rfl, hb3⟩
    go_wp2_with fail
    go_at_call 8
    refine (hneat _).mono ?_
    rintro e w' ⟨rfl, rfl⟩
    go_wp2_with fail
    go_at_call 9
    refine (place_any k hk _).mono ?_
    rintro e w4 ⟨rfl, hb4⟩
    go_wp2
    go_ret
    exact ⟨rfl, hb1.trans ((hb2.trans ((hb3.trans (hb4.mono hb3.size)).mono hb2.size)).mono hb1.size)⟩
  · have hspot : ∀ w, Calls Try.prog 6 #[.int .i64 n] w fun e W' => e = .returned (.tuple #[.complex .f64 0 0, .bool false]) ∧ Below w.heap.size w W' := fun w => by
      refine (spot_any n w).mono ?_
      rintro e W' ⟨⟨j, _, hj, _⟩ | ⟨_, rfl⟩, hb⟩
      · omega
      · exact ⟨rfl, hb⟩
    have q0 : (FloatKind.f64.format.order 0 0 == some .eq) = true := by kernel_rfl
    go_enter Try.func3, Try.ntmps3
    go_wp2_with fail
    go_at_call 5
    refine (alive_any _).mono ?_
    rintro e w1 ⟨rfl, hb1⟩
    go_wp2_with fail
    go_at_call 6
    refine (hspot _).mono ?_
    rintro e w2 ⟨rfl, hb2⟩
    go_wp2_with fail
    go_at_call 7
    refine (refspot_out n (by omega) _).mono ?_
    rintro e w' ⟨rfl, rfl⟩
    go_wp2_with fail
    go_at_call 8
    refine (neat_any 0 0 (.inr rfl) (.inr rfl) _).mono ?_
    rintro e w' ⟨rfl, rfl⟩
    go_wp2_with fail
    go_at_call 9
    refine (place_0 _).mono ?_
    rintro e w4 ⟨rfl, hb4⟩
    go_wp2
    go_ret
    exact ⟨rfl, hb1.trans ((hb2.trans (hb4.mono hb2.size)).mono hb1.size)⟩

open Go.ChangeShapes Go.WideShapes Go.ChangeAt

theorem spots_own : ownKnob Try.prog.godebug = none := by kernel_rfl

set_option maxRecDepth 100000 in
theorem spots_lifted (os : Os) (started : os.Started) (H : Type) (enc : TypeId × Value → H) :
    ReturnsInHanded {} Try.checked os 3 .any (Rows.planeSpotsSpec.pre6 enc Try.prog Try.f3 Rows.planeSpotsRow.domain false) (Rows.planeSpotsSpec.post enc Try.prog Try.f3 false true false false) := by
  refine returnsInHanded_of_change (C := Try.checked) spots_own started (by kernel_rfl) Try.func3
    (ChangeSpec.witness6 (enc := enc) (C := Try.checked) false ⟨#[], #[.int .i64 0], []⟩ 8 (by kernel_rfl) (by kernel_rfl) (by kernel_rfl) (by kernel_rfl)) ?_
  intro W base args ds gs before hval0 hW _ _
  have hval : ∀ (j : Nat) t v, Try.f3.params[j]? = some t → args[j]? = some v → Value.okWide Try.prog W .any base t v := hval0
  have hW' := hW
  obtain ⟨p, q, hA0, hV, rfl, _, _⟩ := hW
  have hA : DataW.TrodAll enc Try.prog W 0 (fun _ => true) true Try.f3.params.toList args.toList ds p := hA0
  rw [Try.params3] at hA hval
  obtain ⟨v0, vs0, d0, ds0, p0, q0, hargs, rfl, rfl, h0, r0⟩ := trodAll_cons hA
  obtain ⟨rfl, rfl, rfl⟩ := trodAll_nil r0
  obtain rfl : args = #[v0] := by cases args; simp_all
  obtain ⟨rfl, rfl⟩ := trodVars_none hV
  obtain ⟨a0, rfl, rfl, rfl, w0⟩ := open_int Try.underlying3 (hval 0 3 v0 rfl rfl) h0
  clear hA0 hval0
  simp only [List.append_nil] at hW'
  refine (spots_walk a0 W).mono fun e W' ⟨he, hg⟩ => ?_
  subst he
  refine ⟨_, rfl, ?_⟩
  refine ⟨_, _, _, [], [], [], hW', trodAll_mk1 (shut_bool Try.underlying4 true), trodAll_mk1 (shut_int Try.underlying3 w0), rfl, hg.frame _, fun h => by cases h⟩

theorem spots_over : Rows.planeSpotsRow.holds Try.pinned (OpenSpec.ofChange Rows.planeSpotsSpec) :=
  OpenClaim.holds_of_wide 3 Try.f3 rfl rfl rfl rfl rfl rfl rfl ⟨rfl, rfl, rfl, rfl, rfl⟩ rfl rfl rfl rfl rfl (by kernel_rfl) Try.func3 (by kernel_rfl)
    (of_decide_eq_true (by kernel_rfl)) (by unfold Func.isWrapper; first | (rw [if_pos (by decide +kernel)]; kernel_rfl) | (rw [if_neg (by decide +kernel)]; exact ⟨rfl, rfl⟩))
    (fun os started H enc _ => spots_lifted os started H enc)

theorem spots_holds : Rows.PlaneSpotsSaid := spots_over
#print axioms spots_holds

end Go.Proofs.Ytaobbhihjeggiaa
