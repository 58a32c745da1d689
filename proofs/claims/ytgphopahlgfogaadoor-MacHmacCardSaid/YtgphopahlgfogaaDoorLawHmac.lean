/- MacHmac, but for the reference's hash: HMAC of any key and text is the document's. Conditions: the reference's hash is as HashSays has it. -/
import Derived.Test.YtgphopahlgfogaaDoorLawKeys
namespace Go.Proofs.YtgphopahlgfogaaDoor
open Go.RowKit Go.ChangeShapes Go.WideShapes Go.ChangeAt
set_option maxRecDepth 100000 in
set_option maxHeartbeats 1600000 in
theorem hmac_big {w : World} {c d n m : Nat} {A B : Option Addr} (hT : Tab w) (h : 5000 < n ∨ 5000 < m) :
    Calls Tryd.prog 3 #[.slice A n c, .slice B m d] w fun e w' => e = .returned (.bool true) ∧ w.grownBy w' none := by
  by_cases h1 : 5000 < n
  · have d1 : decide (5000 < (n : Int)) = true := by simp; omega
    go_enter Tryd.func3, Tryd.ntmps3
    go_wp2_with (go_at_call 7; refine (alive_any hT).mono ?_; rintro _ w1 ⟨rfl, hg1⟩)
    go_ret
    exact ⟨rfl, hg1⟩
  · have d1 : decide (5000 < (n : Int)) = false := by simp; omega
    have d2 : decide (5000 < (m : Int)) = true := by simp; omega
    go_enter Tryd.func3, Tryd.ntmps3
    go_wp2_with (go_at_call 7; refine (alive_any hT).mono ?_; rintro _ w1 ⟨rfl, hg1⟩)
    go_ret
    exact ⟨rfl, hg1⟩
set_option maxRecDepth 100000 in
set_option maxHeartbeats 1600000 in
theorem hmac_small (HH : HashSays) {w : World} {c d n m : Nat} {A B : Option Addr} {ok : Nat → Prop} {key text : List UInt8} (hk : Byt w ok A key) (ht : Byt w ok B text) (hok : ∀ b, ok b → b < w.heap.size) (hn : key.length = n) (hm : text.length = m) (hc : n ≤ c) (hcm : c ≤ maxLen) (hd : m ≤ d) (hdm : d ≤ maxLen)
    (hT : Tab w) (h1 : n ≤ 5000) (h2 : m ≤ 5000) :
    Calls Tryd.prog 3 #[.slice A n c, .slice B m d] w fun e w' => e = .returned (.bool true) ∧ w.grownBy w' none := by
  have d1 : decide (5000 < (n : Int)) = false := by simp; omega
  have d2 : decide (5000 < (m : Int)) = false := by simp; omega
  obtain ⟨y, hy⟩ : ∃ y, y = hmac key text := ⟨_, rfl⟩
  have hly : y.length = 32 := by rw [hy, hmac_length]
  have m1 : ∀ V, w.grownBy V none → Calls Tryd.prog 8 #[.slice A n c, .slice B m d] V fun e w' => e = .returned (.agg (u8s y).toArray) ∧ V.grownBy w' none := fun V hV => by
    rw [hy]
    exact mac_any (hk.grown hV (fun b hb => ⟨hok b hb, by simp⟩)) (ht.grown hV (fun b hb => ⟨hok b hb, by simp⟩)) (fun b hb => Nat.lt_of_lt_of_le (hok b hb) hV.size) hn hm hc hcm hd hdm (by omega) (by omega) (hT.grown hV (by simp) (by simp))
  have m2 : ∀ V, w.grownBy V none → Calls Tryd.prog 9 #[.slice A n c, .slice B m d] V fun e w' => e = .returned (.agg (u8s y).toArray) ∧ V.grownBy w' none := fun V hV => by
    rw [hy]
    exact refmac_any HH (hk.grown hV (fun b hb => ⟨hok b hb, by simp⟩)) (ht.grown hV (fun b hb => ⟨hok b hb, by simp⟩)) (fun b hb => Nat.lt_of_lt_of_le (hok b hb) hV.size) hn hm (by omega) (by omega)
  have M1 := Lib.hid m1
  have M2 := Lib.hid m2
  have HLY := Lib.hid hly
  have HT := Lib.hid hT
  clear hk ht hn hm hT hy hly m1 m2
  go_enter Tryd.func3, Tryd.ntmps3
  go_wp2_with (first
    | (go_at_call 7; refine (alive_any HT.out).mono ?_; rintro _ w1 ⟨rfl, hg1⟩)
    | (go_at_call 8; with_reducible refine (M1.out _ hg1).mono ?_; rintro _ w5 ⟨rfl, hg5⟩)
    | (go_at_call 9; with_reducible refine (M2.out _ (World.grownBy.trans hg1 hg5)).mono ?_; rintro _ w6 ⟨rfl, hg6⟩)
    | (refine wpList_same24 rfl _ _ rfl y rfl rfl HLY.out ?_))
  go_ret
  exact ⟨rfl, World.grownBy.trans hg1 (World.grownBy.trans hg5 hg6)⟩
theorem hmac_walk (HH : HashSays) {w : World} {c d n m : Nat} {A B : Option Addr} {ok : Nat → Prop} {key text : List UInt8} (hk : Byt w ok A key) (ht : Byt w ok B text) (hok : ∀ b, ok b → b < w.heap.size) (hn : key.length = n) (hm : text.length = m) (hc : n ≤ c) (hcm : c ≤ maxLen) (hd : m ≤ d) (hdm : d ≤ maxLen) (hT : Tab w) :
    Calls Tryd.prog 3 #[.slice A n c, .slice B m d] w fun e w' => e = .returned (.bool true) ∧ w.grownBy w' none := by
  by_cases h : 5000 < n ∨ 5000 < m
  · exact hmac_big hT h
  · exact hmac_small HH hk ht hok hn hm hc hcm hd hdm hT (by omega) (by omega)
set_option maxRecDepth 100000 in
theorem hmac_lifted (HH : HashSays) (os : Os) (started : os.Started) (H : Type) (enc : TypeId × Value → H) :
    ReturnsInHanded {} Tryd.checked os 3 .any (fun w args => (Rows.macHmacSpec.pre enc Tryd.prog Tryd.f3 [] false w args ∧ laidMetH Tryd.prog laid2 w) ∧ sizedMet enc Tryd.prog Tryd.f3 (OpenSpec.ofChange Rows.macHmacSpec) false w args)
      (Rows.macHmacSpec.post enc Tryd.prog Tryd.f3 false true false false) := by
  refine returnsInHanded_of_change_and (C := Tryd.checked) (X := fun w _ => laidMetH Tryd.prog laid2 w) (fun _ _ _ hh h => h.of_heap hh) own_knob started (by kernel_rfl) Tryd.func3
    (ChangeSpec.witness_shaped (enc := enc) (C := Tryd.checked) (os := os) (X := fun w _ => laidMetH Tryd.prog laid2 w) false (World.doorLaid Tryd.prog 400 os) #[.slice none 0 0, .slice none 0 0] 8 rfl (World.shaped_of_RefB (by kernel_rfl) (by kernel_rfl)) (by kernel_rfl) (by kernel_rfl) (by kernel_rfl) (door_met os _)) ?_
  intro W base args ds gs before hval0 hW _ _ hL _
  have hval : ∀ (j : Nat) t v, Tryd.f3.params[j]? = some t → args[j]? = some v → Value.okWide Tryd.prog W .any base t v := hval0
  have hW' := hW
  obtain ⟨p, q, hA0, hV, rfl, _, _⟩ := hW
  have hA : DataW.TrodAll enc Tryd.prog W 0 (fun _ => true) true Tryd.f3.params.toList args.toList ds p := hA0
  rw [Tryd.params3] at hA hval
  obtain ⟨v0, vs0, d0, ds0, p0, q0, hargs, rfl, rfl, h0, r0⟩ := trodAll_cons hA
  obtain ⟨v1, vs1, d1, ds1, p1, q1, rfl, rfl, rfl, h1, r1⟩ := trodAll_cons r0
  obtain ⟨rfl, rfl, rfl⟩ := trodAll_nil r1
  obtain rfl : args = #[v0, v1] := by cases args; simp_all
  obtain ⟨rfl, rfl⟩ := trodVars_none hV
  obtain ⟨A, xs, c, rfl, hc1, hm1, hx⟩ := open_byt (hval 0 22 v0 rfl rfl) h0
  obtain ⟨B, ys, d, rfl, hc2, hm2, hy⟩ := open_byt (hval 1 22 v1 rfl rfl) h1
  clear hA0 hval0
  simp only [List.append_nil] at hW'
  refine (hmac_walk HH hx hy (fun b hb => hb) rfl rfl hc1 hm1 hc2 hm2 (tab_of_laid hL)).mono fun e W' ⟨he, hgr⟩ => ?_
  have hg := below_of_grown hgr
  subst he
  refine ⟨_, rfl, ?_⟩
  have hback0 := Below.trod laid_out read22 row22 h0 hg (fun x hx => hW'.lt x (by simp [hx]))
  have hback1 := Below.trod laid_out read22 row22 h1 hg (fun x hx => hW'.lt x (by simp [hx]))
  refine ⟨_, _, _, [], p0 ++ p1, [], hW', trodAll_mk1 (shut_bool Tryd.underlying4 true), trodAll_mk2 hback0 hback1, rfl, hg.frame _, fun h => by cases h⟩
theorem hmac_over (HH : HashSays) : Rows.MacHmacSaid :=
  OpenClaim.holds_of_wide 3 Tryd.f3 rfl rfl rfl rfl rfl rfl rfl ⟨rfl, rfl, rfl, rfl, rfl⟩ rfl rfl rfl rfl rfl (by kernel_rfl) Tryd.func3 (by kernel_rfl)
    (of_decide_eq_true (by kernel_rfl)) (by unfold Func.isWrapper; first | (rw [if_pos (by decide +kernel)]; kernel_rfl) | (rw [if_neg (by decide +kernel)]; exact ⟨rfl, rfl⟩))
    (fun os started H enc _ => hmac_lifted HH os started H enc)
theorem hmac_card (HH : HashSays) : Rows.MacHmacCardSaid :=
  Claim7.holds_tied_plain_at .later [] [.data, .data] true (true, "6804543c43d07a47c7f4d856165f2e1db9ca47d2c36460fdd1f06eef064ba28a") false
    (hmac_over HH) (fun _ h => by cases h) (by kernel_rfl) (fun _ h => by cases h) macHmac_row_tie rfl ⟨rfl, rfl⟩ (by kernel_rfl) rfl
    (fun f fn hf hfn => by
      obtain rfl : f = 3 := Option.some.inj ((show Tryd.prog.funcNamed "missive/missivelaw04.MacHmac" = some 3 by kernel_rfl).symm.trans hf) |>.symm
      obtain rfl : fn = Tryd.f3 := (Option.some.inj (Tryd.func3.symm.trans hfn)).symm
      exact ⟨by kernel_rfl, fun j t ht => by
        rw [Tryd.params3] at ht
        have hm : t ∈ [22, 22] := by simpa using Array.mem_of_getElem? ht
        have hall : ([22, 22].all fun u => !Tryd.prog.wantsStandIn u) = true := by kernel_rfl
        exact (show Tryd.prog.wantsStandIn t = false by simpa using List.all_eq_true.1 hall t hm)⟩)
    (by kernel_rfl)
#print axioms hmac_card
end Go.Proofs.YtgphopahlgfogaaDoor
