/- ChainCut: a row that goes on at once, or in two steps, is the same. Conditions: none. -/
import Derived.Test.YtdnkeaokgkiloaaDoorE0
import Derived.Test.YtdnkeaokgkiloaaDoorL4
namespace Go.Proofs.YtdnkeaokgkiloaaDoor
open Go.RowKit Go.ChangeShapes Go.WideShapes Go.ChangeAt T
set_option maxRecDepth 100000 in
theorem cut_lifted (os : Os) (started : os.Started) (H : Type) (enc : TypeId × Value → H) :
    ReturnsInHanded {} Tryd.checked os 7 .any (fun w args => (Rows.chainCutSpec.pre enc Tryd.prog Tryd.f7 [] false w args ∧ laidMetH Tryd.prog laid2 w) ∧ sizedMet enc Tryd.prog Tryd.f7 (OpenSpec.ofChange Rows.chainCutSpec) false w args)
      (Rows.chainCutSpec.post enc Tryd.prog Tryd.f7 false true false false) := by
  refine returnsInHanded_of_change_and (C := Tryd.checked) (X := fun w _ => laidMetH Tryd.prog laid2 w) (fun _ _ _ hh h => h.of_heap hh) own_knob started (by kernel_rfl) Tryd.func7
    (ChangeSpec.witness_shaped (enc := enc) (C := Tryd.checked) (os := os) (X := fun w _ => laidMetH Tryd.prog laid2 w) false (World.doorLaid Tryd.prog 400 os) #[.bool false, .agg #[.int .u8 0, .int .u8 0, .int .u8 0, .int .u8 0, .int .u8 0, .int .u8 0, .int .u8 0, .int .u8 0, .int .u8 0, .int .u8 0, .int .u8 0, .int .u8 0, .int .u8 0, .int .u8 0, .int .u8 0, .int .u8 0, .int .u8 0, .int .u8 0, .int .u8 0, .int .u8 0, .int .u8 0, .int .u8 0, .int .u8 0, .int .u8 0, .int .u8 0, .int .u8 0, .int .u8 0, .int .u8 0, .int .u8 0, .int .u8 0, .int .u8 0, .int .u8 0], .int .u16 0, .int .u8 0, .int .u8 0] 8 rfl (World.shaped_of_RefB (by kernel_rfl) (by kernel_rfl)) (by kernel_rfl) (by kernel_rfl) (by kernel_rfl) (door_met os _)) ?_
  intro W base args ds gs before hval0 hW _ _ hL _
  have hval : ∀ (j : Nat) t v, Tryd.f7.params[j]? = some t → args[j]? = some v → Value.okWide Tryd.prog W .any base t v := hval0
  have hW' := hW
  obtain ⟨p, q, hA0, hV, rfl, _, _⟩ := hW
  have hA : DataW.TrodAll enc Tryd.prog W 0 (fun _ => true) true Tryd.f7.params.toList args.toList ds p := hA0
  rw [Tryd.params7] at hA hval
  obtain ⟨v0, vs0, d0, ds0, p0, q0, hargs, rfl, rfl, h0, r0⟩ := trodAll_cons hA
  obtain ⟨v1, vs1, d1, ds1, p1, q1, rfl, rfl, rfl, h1, r1⟩ := trodAll_cons r0
  obtain ⟨v2, vs2, d2, ds2, p2, q2, rfl, rfl, rfl, h2, r2⟩ := trodAll_cons r1
  obtain ⟨v3, vs3, d3, ds3, p3, q3, rfl, rfl, rfl, h3, r3⟩ := trodAll_cons r2
  obtain ⟨v4, vs4, d4, ds4, p4, q4, rfl, rfl, rfl, h4, r4⟩ := trodAll_cons r3
  obtain ⟨rfl, rfl, rfl⟩ := trodAll_nil r4
  obtain rfl : args = #[v0, v1, v2, v3, v4] := by cases args; simp_all
  obtain ⟨rfl, rfl⟩ := trodVars_none hV
  obtain ⟨f, rfl⟩ := okWide_bool und4 (hval 0 4 v0 rfl rfl)
  obtain ⟨k, rfl, hk⟩ := open_key (hval 1 22 v1 rfl rfl) h1
  obtain ⟨n, rfl, hn⟩ := open_u16 (hval 2 38 v2 rfl rfl) h2
  obtain ⟨m1, rfl, hm1⟩ := open_u8 (hval 3 5 v3 rfl rfl) h3
  obtain ⟨m2, rfl, hm2⟩ := open_u8 (hval 4 5 v4 rfl rfl) h4
  clear hA0 hval0
  simp only [List.append_nil] at hW'
  refine (cut_walk (tab_of_laid hL) f hk hn hm1 hm2).mono fun e W' ⟨he, hgr⟩ => ?_
  have hg := grown_below hgr
  subst he
  refine ⟨_, rfl, ?_⟩
  have hback0 := Below.trod laid_out read4 row4 h0 hg (fun x hx => hW'.lt x (by simp [hx]))
  have hback1 := Below.trod laid_out read22 row22 h1 hg (fun x hx => hW'.lt x (by simp [hx]))
  have hback2 := Below.trod laid_out read38 row38 h2 hg (fun x hx => hW'.lt x (by simp [hx]))
  have hback3 := Below.trod laid_out read5 row5 h3 hg (fun x hx => hW'.lt x (by simp [hx]))
  have hback4 := Below.trod laid_out read5 row5 h4 hg (fun x hx => hW'.lt x (by simp [hx]))
  refine ⟨_, _, _, [], p0 ++ (p1 ++ (p2 ++ (p3 ++ p4))), [], hW', trodAll_mk1 (shut_bool und4 true), ⟨p0, _, hback0, trodAll_mk4 hback1 hback2 hback3 hback4, rfl⟩, rfl, hg.frame _, fun h => by cases h⟩
theorem cut_over : Rows.ChainCutSaid :=
  OpenClaim.holds_of_wide 7 Tryd.f7 rfl rfl rfl rfl rfl rfl rfl ⟨rfl, rfl, rfl, rfl, rfl⟩ rfl rfl rfl rfl rfl (by kernel_rfl) Tryd.func7 (by kernel_rfl)
    (of_decide_eq_true (by kernel_rfl)) (by unfold Func.isWrapper; first | (rw [if_pos (by decide +kernel)]; kernel_rfl) | (rw [if_neg (by decide +kernel)]; exact ⟨rfl, rfl⟩))
    (fun os started H enc _ => cut_lifted os started H enc)
theorem cut_holds : Rows.ChainCutCardSaid :=
  Claim7.holds_tied_plain_at .later [] [.data, .data] true (true, "0fc7d494c907c97c983fd370a397c86d21a548a135f25553c4487b14e4858a09") false
    cut_over (fun _ h => by cases h) (by kernel_rfl) (fun _ h => by cases h) chainCut_row_tie rfl ⟨rfl, rfl⟩ (by kernel_rfl) rfl
    (fun f fn hf hfn => by
      obtain rfl : f = 7 := Option.some.inj ((show Tryd.prog.funcNamed "missive/missivelaw17.ChainCut" = some 7 by kernel_rfl).symm.trans hf) |>.symm
      obtain rfl : fn = Tryd.f7 := (Option.some.inj (Tryd.func7.symm.trans hfn)).symm
      exact ⟨by kernel_rfl, fun j t ht => by
        rw [Tryd.params7] at ht
        have hm : t ∈ [4, 22, 38, 5, 5] := by simpa using Array.mem_of_getElem? ht
        have hall : ([4, 22, 38, 5, 5].all fun u => !Tryd.prog.wantsStandIn u) = true := by kernel_rfl
        exact (show Tryd.prog.wantsStandIn t = false by simpa using List.all_eq_true.1 hall t hm)⟩)
    (by kernel_rfl)
#print axioms cut_holds
end Go.Proofs.YtdnkeaokgkiloaaDoor
