/- MacSame: whether bytes are the same is told. Conditions: none. -/
import Derived.Test.YtgphopahlgfogaaDoorOpen
import Derived.Test.YtgphopahlgfogaaDoorCards
import Derived.Test.YtgphopahlgfogaaDoorTie
namespace Go.Proofs.YtgphopahlgfogaaDoor
open Go.RowKit Go.ChangeShapes Go.WideShapes Go.ChangeAt
set_option maxRecDepth 100000 in
set_option maxHeartbeats 1600000 in
theorem same_walk {w : World} {c d n m : Nat} {ok : Nat → Prop} {A B : Option Addr} {xs ys : List UInt8} (hx : Byt w ok A xs) (hy : Byt w ok B ys) (hok : ∀ b, ok b → b < w.heap.size) (hn : xs.length = n) (hm : ys.length = m) (hmax : n ≤ 9223372036854775807) (hT : Tab w) :
    Calls Tryd.prog 5 #[.slice A n c, .slice B m d] w fun e w' => e = .returned (.bool true) ∧ w.grownBy w' none := by
  have HX := Lib.hid hx
  have HY := Lib.hid hy
  have HN := Lib.hid hn
  have HM := Lib.hid hm
  have HT := Lib.hid hT
  clear hx hy hn hm hT
  go_enter Tryd.func5, Tryd.ntmps5
  go_wp2_with (go_at_call 7; refine (alive_any HT.out).mono ?_; rintro _ w1 ⟨rfl, hg1⟩)
  have hx1 := HX.out.grown hg1 (fun b hb => ⟨hok b hb, by simp⟩)
  have hy1 := HY.out.grown hg1 (fun b hb => ⟨hok b hb, by simp⟩)
  have r1 := same_any (c := c) (d := d) hx1 hy1 HN.out HM.out hmax
  have r2 := bytes_n (c := c) (d := d) hx1 hy1 HN.out HM.out
  have r3 := same_any (c := c) (d := c) hx1 hx1 HN.out HN.out hmax
  rw [decide_eq_true (rfl : xs = xs)] at r3
  obtain ⟨b, hb⟩ : ∃ b, b = decide (xs = ys) := ⟨_, rfl⟩
  rw [← hb] at r1 r2
  have R1 := Lib.hid r1
  have R2 := Lib.hid r2
  have R3 := Lib.hid r3
  have HG1 := Lib.hid hg1
  clear hb hx1 hy1 r1 r2 r3 hg1
  cases b
  all_goals
    go_wp2_with (first
      | (go_at_call 13; with_reducible refine R3.out.mono ?_; rintro _ w' ⟨rfl, rfl⟩)
      | (go_at_call 13; with_reducible refine R1.out.mono ?_; rintro _ w' ⟨rfl, rfl⟩)
      | (go_at_call 12; with_reducible refine R2.out.mono ?_; rintro _ w' ⟨rfl, rfl⟩))
    go_ret
    exact ⟨rfl, HG1.out⟩
set_option maxRecDepth 100000 in
theorem same_lifted (os : Os) (started : os.Started) (H : Type) (enc : TypeId × Value → H) :
    ReturnsInHanded {} Tryd.checked os 5 .any (fun w args => (Rows.macSameSpec.pre enc Tryd.prog Tryd.f5 [] false w args ∧ laidMetH Tryd.prog laid2 w) ∧ sizedMet enc Tryd.prog Tryd.f5 (OpenSpec.ofChange Rows.macSameSpec) false w args)
      (Rows.macSameSpec.post enc Tryd.prog Tryd.f5 false true false false) := by
  refine returnsInHanded_of_change_and (C := Tryd.checked) (X := fun w _ => laidMetH Tryd.prog laid2 w) (fun _ _ _ hh h => h.of_heap hh) own_knob started (by kernel_rfl) Tryd.func5
    (ChangeSpec.witness_shaped (enc := enc) (C := Tryd.checked) (os := os) (X := fun w _ => laidMetH Tryd.prog laid2 w) false (World.doorLaid Tryd.prog 400 os) #[.slice none 0 0, .slice none 0 0] 8 rfl (World.shaped_of_RefB (by kernel_rfl) (by kernel_rfl)) (by kernel_rfl) (by kernel_rfl) (by kernel_rfl) (door_met os _)) ?_
  intro W base args ds gs before hval0 hW _ _ hL _
  have hval : ∀ (j : Nat) t v, Tryd.f5.params[j]? = some t → args[j]? = some v → Value.okWide Tryd.prog W .any base t v := hval0
  have hW' := hW
  obtain ⟨p, q, hA0, hV, rfl, _, _⟩ := hW
  have hA : DataW.TrodAll enc Tryd.prog W 0 (fun _ => true) true Tryd.f5.params.toList args.toList ds p := hA0
  rw [Tryd.params5] at hA hval
  obtain ⟨v0, vs0, d0, ds0, p0, q0, hargs, rfl, rfl, h0, r0⟩ := trodAll_cons hA
  obtain ⟨v1, vs1, d1, ds1, p1, q1, rfl, rfl, rfl, h1, r1⟩ := trodAll_cons r0
  obtain ⟨rfl, rfl, rfl⟩ := trodAll_nil r1
  obtain rfl : args = #[v0, v1] := by cases args; simp_all
  obtain ⟨rfl, rfl⟩ := trodVars_none hV
  obtain ⟨A, xs, c, rfl, hc1, hm1, hx⟩ := open_byt (hval 0 22 v0 rfl rfl) h0
  obtain ⟨B, ys, d, rfl, hc2, hm2, hy⟩ := open_byt (hval 1 22 v1 rfl rfl) h1
  clear hA0 hval0
  simp only [List.append_nil] at hW'
  refine (same_walk (c := c) (d := d) hx hy (fun b hb => hb) rfl rfl (by unfold maxLen at hm1; omega) (tab_of_laid hL)).mono fun e W' ⟨he, hgr⟩ => ?_
  have hg := below_of_grown hgr
  subst he
  refine ⟨_, rfl, ?_⟩
  have hback0 := Below.trod laid_out read22 row22 h0 hg (fun x hx => hW'.lt x (by simp [hx]))
  have hback1 := Below.trod laid_out read22 row22 h1 hg (fun x hx => hW'.lt x (by simp [hx]))
  refine ⟨_, _, _, [], p0 ++ p1, [], hW', trodAll_mk1 (shut_bool Tryd.underlying4 true), trodAll_mk2 hback0 hback1, rfl, hg.frame _, fun h => by cases h⟩
theorem same_over : Rows.MacSameSaid :=
  OpenClaim.holds_of_wide 5 Tryd.f5 rfl rfl rfl rfl rfl rfl rfl ⟨rfl, rfl, rfl, rfl, rfl⟩ rfl rfl rfl rfl rfl (by kernel_rfl) Tryd.func5 (by kernel_rfl)
    (of_decide_eq_true (by kernel_rfl)) (by unfold Func.isWrapper; first | (rw [if_pos (by decide +kernel)]; kernel_rfl) | (rw [if_neg (by decide +kernel)]; exact ⟨rfl, rfl⟩))
    (fun os started H enc _ => same_lifted os started H enc)
theorem same_holds : Rows.MacSameCardSaid :=
  Claim7.holds_tied_plain_at .later [] [.data, .data] true (true, "6804543c43d07a47c7f4d856165f2e1db9ca47d2c36460fdd1f06eef064ba28a") false
    same_over (fun _ h => by cases h) (by kernel_rfl) (fun _ h => by cases h) macSame_row_tie rfl ⟨rfl, rfl⟩ (by kernel_rfl) rfl
    (fun f fn hf hfn => by
      obtain rfl : f = 5 := Option.some.inj ((show Tryd.prog.funcNamed "missive/missivelaw04.MacSame" = some 5 by kernel_rfl).symm.trans hf) |>.symm
      obtain rfl : fn = Tryd.f5 := (Option.some.inj (Tryd.func5.symm.trans hfn)).symm
      exact ⟨by kernel_rfl, fun j t ht => by
        rw [Tryd.params5] at ht
        have hm : t ∈ [22, 22] := by simpa using Array.mem_of_getElem? ht
        have hall : ([22, 22].all fun u => !Tryd.prog.wantsStandIn u) = true := by kernel_rfl
        exact (show Tryd.prog.wantsStandIn t = false by simpa using List.all_eq_true.1 hall t hm)⟩)
    (by kernel_rfl)
#print axioms same_holds
end Go.Proofs.YtgphopahlgfogaaDoor
