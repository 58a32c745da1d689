/- For all last numbers and numbers of two bytes fedq.Take answers as the reference does: the law FedqTakes holds. Conditions: none. -/
import Derived.Test.YtklcjjmeknajlaaQ
import Derived.ProofKit
import Derived.OpenShut
namespace Go.Proofs.Ytklcjjmeknajlaa
open Go.RowKit
open Go.ChangeShapes Go.WideShapes Go.ChangeAt
set_option maxRecDepth 100000 in
theorem takes_walk (a b : Int) (w : World) (h0 : 0 ≤ a) (h1 : a < 65536) (h2 : 0 ≤ b) (h3 : b < 65536) :
    Calls Try.prog 3 #[.int .u16 a, .int .u16 b] w fun e w' => e = .returned (.bool true) ∧ Below w.heap.size w w' := by
  obtain ⟨l, rfl⟩ : ∃ l : Nat, a = l := ⟨a.toNat, by omega⟩
  obtain ⟨i, rfl⟩ : ∃ i : Nat, b = i := ⟨b.toNat, by omega⟩
  have HT : ∀ w, Hid (Calls Try.prog 5 #[.int .u16 (l : Int), .int .u16 (i : Int)] w (TakE w l i)) := fun w => take_any w l i (by omega) (by omega)
  have HR : ∀ w, Hid (Calls Try.prog 6 #[.int .u16 (l : Int), .int .u16 (i : Int)] w (TakE w l i)) := fun w => rtake_any w l i (by omega) (by omega)
  unfold TakE at HT HR
  obtain ⟨tl, htl⟩ : ∃ t, t = (tkL l i : Int) := ⟨_, rfl⟩
  obtain ⟨td, htd⟩ : ∃ t, t = tkD l i := ⟨_, rfl⟩
  obtain ⟨tt, htt⟩ : ∃ t, t = tkT l i := ⟨_, rfl⟩
  rw [← htl, ← htd, ← htt] at HT HR
  clear htl htd htt h0 h1 h2 h3
  go_enter Try.func3, Try.ntmps3
  go_wp2_with (first | (go_at_call 4; refine (alive_any _).mono ?_; rintro _ w1 ⟨rfl, hg⟩; have HG := Lib.hid hg; clear hg) | (go_at_call 5; refine (HT _).out.mono ?_; rintro _ _ ⟨rfl, rfl⟩) | (go_at_call 6; refine (HR _).out.mono ?_; rintro _ _ ⟨rfl, rfl⟩) | fail)
  go_ret
  exact ⟨rfl, grown_below HG.out⟩
theorem own_knob : ownKnob Try.prog.godebug = none := by kernel_rfl
set_option maxRecDepth 100000 in
theorem takes_lifted (os : Os) (started : os.Started) (H : Type) (enc : TypeId × Value → H) :
    ReturnsInHanded {} Try.checked os 3 .any (Rows.fedqTakesSpec.pre6 enc Try.prog Try.f3 Rows.fedqTakesRow.domain false) (Rows.fedqTakesSpec.post enc Try.prog Try.f3 false true false false) := by
  refine returnsInHanded_of_change (C := Try.checked) own_knob started (by kernel_rfl) Try.func3
    (ChangeSpec.witness6 (enc := enc) (C := Try.checked) false ⟨#[], #[.int .u16 0, .int .u16 0], []⟩ 8 (by kernel_rfl) (by kernel_rfl) (by kernel_rfl) (by kernel_rfl)) ?_
  intro W base args ds gs before hval0 hW _ _
  have hval : ∀ (j : Nat) t v, Try.f3.params[j]? = some t → args[j]? = some v → Value.okWide Try.prog W .any base t v := hval0
  have hW' := hW
  obtain ⟨p, q, hA0, hV, rfl, _, _⟩ := hW
  have hA : DataW.TrodAll enc Try.prog W 0 (fun _ => true) true Try.f3.params.toList args.toList ds p := hA0
  rw [Try.params3] at hA hval
  obtain ⟨v0, vs0, d0, ds0, p0, q0, hargs, rfl, rfl, h0, r0⟩ := trodAll_cons hA
  obtain ⟨v1, vs1, d1, ds1, p1, q1, rfl, rfl, rfl, h1, r1⟩ := trodAll_cons r0
  obtain ⟨rfl, rfl, rfl⟩ := trodAll_nil r1
  obtain rfl : args = #[v0, v1] := by cases args; simp_all
  obtain ⟨rfl, rfl⟩ := trodVars_none hV
  obtain ⟨a0, rfl, rfl, rfl, w0⟩ := open_int Try.underlying22 (hval 0 22 v0 rfl rfl) h0
  obtain ⟨a1, rfl, rfl, rfl, w1⟩ := open_int Try.underlying22 (hval 1 22 v1 rfl rfl) h1
  clear hA0 hval0
  simp only [List.append_nil] at hW'
  have hwf0 : 0 ≤ a0 ∧ a0 < 65536 := by
    simp [Lit.wf, IntKind.min, IntKind.max, IntKind.bits, IntKind.signed] at w0
    omega
  have hwf1 : 0 ≤ a1 ∧ a1 < 65536 := by
    simp [Lit.wf, IntKind.min, IntKind.max, IntKind.bits, IntKind.signed] at w1
    omega
  refine (takes_walk a0 a1 W hwf0.1 hwf0.2 hwf1.1 hwf1.2).mono fun e W' ⟨he, hg⟩ => ?_
  subst he
  refine ⟨_, rfl, ?_⟩
  refine ⟨_, _, _, [], [], [], hW', trodAll_mk1 (shut_bool Try.underlying4 true), trodAll_mk2 (shut_int Try.underlying22 w0) (shut_int Try.underlying22 w1), rfl, hg.frame _, fun h => by cases h⟩
theorem takes_over : Rows.fedqTakesRow.holds Try.pinned (OpenSpec.ofChange Rows.fedqTakesSpec) :=
  OpenClaim.holds_of_wide 3 Try.f3 rfl rfl rfl rfl rfl rfl rfl ⟨rfl, rfl, rfl, rfl, rfl⟩ rfl rfl rfl rfl rfl (by kernel_rfl) Try.func3 (by kernel_rfl)
    (of_decide_eq_true (by kernel_rfl)) (by unfold Func.isWrapper; first | (rw [if_pos (by decide +kernel)]; kernel_rfl) | (rw [if_neg (by decide +kernel)]; exact ⟨rfl, rfl⟩))
    (fun os started H enc _ => takes_lifted os started H enc)
theorem takes_holds : Rows.FedqTakesSaid := takes_over
#print axioms takes_holds
end Go.Proofs.Ytklcjjmeknajlaa
