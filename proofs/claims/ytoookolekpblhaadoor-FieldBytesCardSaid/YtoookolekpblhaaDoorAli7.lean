/- The document's example, as the laws ask for it. Conditions: what is asked of the code. -/
import Derived.Test.YtoookolekpblhaaDoorSay7
namespace Go.Proofs.YtoookolekpblhaaDoor
open Go.RowKit
theorem wpList_yields {P : Program} {w : World} {ops : Array Oper} {rest : List Oper} {o : Oper} {a : Act} {Q : Exit → Act → World → Prop} {S : World → Prop} {v : Value} (hy : YieldsIf P ops S o v a) (hS : S w) (h : wpList P ops Q rest (a.put o.dst v) w) : wpList P ops Q (o :: rest) a w :=
  wpList_step fun K hK => by
    rcases hy with ⟨hw, hv⟩ | ⟨hw, rfl⟩
    · rw [if_pos hw]
      unfold Oper.wp
      rw [hv w hS]
      exact hK _ _ h
    · rw [if_neg (by simp [hw])]
      exact hK _ _ h
theorem root4 : rootN 4 = some 2 := rootN_is (by have := fp_big; omega) (by have := fp_big; omega) rfl (by rw [← fq_fp]; decide)
theorem val_small {x : Nat} (h : x < 1000) : val (bt x) = x := val_bt (Nat.lt_trans h (by decide))
theorem sb44 : sb 4 4 = 0 := by decide
theorem s22 : (2 + 2) % fq = 4 := by decide
theorem m22 : 2 * 2 % fq = 4 := by decide
theorem same32 (k : Fin 32 → UInt8) : (k32 k == k32 k) = true := by simp
set_option maxRecDepth 100000 in
set_option maxHeartbeats 3200000 in
theorem alive_any {Fe : List Value → Nat → Prop} (H : FeSays Fe) {w : World} (ht : Tab w) : Calls Tryd.prog 7 #[] w fun e w' => e = .returned (.bool true) ∧ w.grownBy w' none := by
  have hof2 := fun W => H.of W (bt 2)
  have hof4 := fun W => H.of W (bt 4)
  rw [val_small (by decide)] at hof2 hof4
  have HOF2 := Lib.hid hof2
  have HOF4 := Lib.hid hof4
  clear hof2 hof4
  have HT := Lib.hid ht
  clear ht
  go_enter Tryd.func7, Tryd.ntmps7
  go_wp2_with (first
    | (refine wpList_yields (S := fun _ => True) (yieldsIf_bt (by rfl) 2 rfl (by decide)) trivial ?_
  )
    | (refine wpList_yields (S := fun _ => True) (yieldsIf_bt (by rfl) 4 rfl (by decide)) trivial ?_
  )
    | (refine wpList_yields (S := fun _ => True) (yieldsIf_btz (by rfl) rfl) trivial ?_
  )
    | (refine wpList_yields (S := fun _ => True) (yieldsIf_eql22 (by rfl) _ _ rfl rfl rfl (same32 _)) trivial ?_
  )
    | (go_at_call 9
       with_reducible refine (HOF2.out _).mono ?_
       rintro _ wc1 ⟨cs2, hf2, rfl, hg_⟩
       have HF2 := Lib.hid hf2
       clear hf2
       have HG2 : Hid (w.grownBy wc1 none) := Lib.hid hg_
       clear hg_)
    | (refine wpList_alloc28 rfl rfl ?_
       intro wa3 hb_ hg_ hz_
       obtain ⟨gv5, hge_⟩ : ∃ g, g = wc1.heap.size := ⟨_, rfl⟩
       rw [← hge_] at hb_ ⊢
       have HOwa3 := Lib.hid hb_
       have HAwa3 := Lib.hid hg_
       have HLwa3 : Hid (wc1.heap.size ≤ gv5) := Lib.hid (by omega)
       clear hb_ hg_ hz_ hge_)
    | (refine wpList_store_row rfl 27 _ _ rfl gv5 (cs2).toArray rfl rfl 27 _ HOwa3.out (fe_size (H.len HF2.out)) ((fe_same (H.len HF2.out)).symm) (all_oneCell_toArray (H.one HF2.out)) ?_
       obtain ⟨ws4, hws_⟩ : ∃ w', w' = wa3.setRow gv5 (cs2).toArray := ⟨_, rfl⟩
       have hs_ : wa3.grownBy ws4 (some gv5) := by rw [hws_]; exact grown_setRow _ _ _
       have hl_ : Blk ws4 gv5 27 (cs2) := by rw [hws_]; exact Blk.setRow HOwa3.out
       rw [← hws_]
       have hg_ : wc1.grownBy ws4 none := World.grownBy.andThen HAwa3.out hs_ (by rintro _ ⟨⟩; exact .inl HLwa3.out)
       have HB6 := Lib.hid hl_
       have HG7 : Hid (w.grownBy ws4 none) := Lib.hid (World.grownBy.trans HG2.out hg_)
       clear hws_ hs_ hl_ hg_)
    | (go_at_call 9
       with_reducible refine (HOF4.out _).mono ?_
       rintro _ wc8 ⟨cs4, hf4, rfl, hg_⟩
       have HF4 := Lib.hid hf4
       clear hf4
       have HB9 := Lib.hid (HB6.out.grown hg_ (by simp))
       have HG10 : Hid (w.grownBy wc8 none) := Lib.hid (World.grownBy.trans HG7.out hg_)
       clear hg_)
    | (refine wpList_alloc28 rfl rfl ?_
       intro wa11 hb_ hg_ hz_
       obtain ⟨gv13, hge_⟩ : ∃ g, g = wc8.heap.size := ⟨_, rfl⟩
       rw [← hge_] at hb_ ⊢
       have HOwa11 := Lib.hid hb_
       have HAwa11 := Lib.hid hg_
       have HLwa11 : Hid (wc8.heap.size ≤ gv13) := Lib.hid (by omega)
       clear hb_ hg_ hz_ hge_)
    | (refine wpList_store_row rfl 27 _ _ rfl gv13 (cs4).toArray rfl rfl 27 _ HOwa11.out (fe_size (H.len HF4.out)) ((fe_same (H.len HF4.out)).symm) (all_oneCell_toArray (H.one HF4.out)) ?_
       obtain ⟨ws12, hws_⟩ : ∃ w', w' = wa11.setRow gv13 (cs4).toArray := ⟨_, rfl⟩
       have hs_ : wa11.grownBy ws12 (some gv13) := by rw [hws_]; exact grown_setRow _ _ _
       have hl_ : Blk ws12 gv13 27 (cs4) := by rw [hws_]; exact Blk.setRow HOwa11.out
       rw [← hws_]
       have hg_ : wc8.grownBy ws12 none := World.grownBy.andThen HAwa11.out hs_ (by rintro _ ⟨⟩; exact .inl HLwa11.out)
       have HB14 := Lib.hid hl_
       have HB15 := Lib.hid (HB9.out.grown hg_ (by simp))
       have HG16 : Hid (w.grownBy ws12 none) := Lib.hid (World.grownBy.trans HG10.out hg_)
       clear hws_ hs_ hl_ hg_)
    | (refine wpList_yields (S := fun w' => w' = ws12) (yieldsIf_load_mid (by rfl) _ _ rfl gv13 0 rfl (cs4) _ (fun w' hs => by rw [hs]; exact range_blk HB14.out) Tryd.underlying27 rfl (fe_size' (H.len HF4.out))) rfl ?_
  )
    | (go_at_call 15
       with_reducible refine (H.root (HT.out.more HG16.out) HF4.out).mono ?_
       rintro _ wc17 ⟨csr, okr, hrt, rfl, hg_⟩
       obtain ⟨rfl, hfr⟩ : okr = true ∧ Fe csr 2 := by
         rcases hrt with ⟨h1, _⟩ | ⟨s, h1, h2, h3⟩
         · rw [root4] at h1; cases h1
         · rw [root4] at h1; cases h1; exact ⟨h2, h3⟩
       have HFR := Lib.hid hfr
       clear hrt hfr
       have HB18 := Lib.hid (HB15.out.grown hg_ (by simp))
       have HB19 := Lib.hid (HB14.out.grown hg_ (by simp))
       have HG20 : Hid (w.grownBy wc17 none) := Lib.hid (World.grownBy.trans HG16.out hg_)
       clear hg_)
    | (refine wpList_alloc28 rfl rfl ?_
       intro wa21 hb_ hg_ hz_
       obtain ⟨gv23, hge_⟩ : ∃ g, g = wc17.heap.size := ⟨_, rfl⟩
       rw [← hge_] at hb_ ⊢
       have HOwa21 := Lib.hid hb_
       have HAwa21 := Lib.hid hg_
       have HLwa21 : Hid (wc17.heap.size ≤ gv23) := Lib.hid (by omega)
       clear hb_ hg_ hz_ hge_)
    | (refine wpList_store_row rfl 27 _ _ rfl gv23 (csr).toArray rfl rfl 27 _ HOwa21.out (fe_size (H.len HFR.out)) ((fe_same (H.len HFR.out)).symm) (all_oneCell_toArray (H.one HFR.out)) ?_
       obtain ⟨ws22, hws_⟩ : ∃ w', w' = wa21.setRow gv23 (csr).toArray := ⟨_, rfl⟩
       have hs_ : wa21.grownBy ws22 (some gv23) := by rw [hws_]; exact grown_setRow _ _ _
       have hl_ : Blk ws22 gv23 27 (csr) := by rw [hws_]; exact Blk.setRow HOwa21.out
       rw [← hws_]
       have hg_ : wc17.grownBy ws22 none := World.grownBy.andThen HAwa21.out hs_ (by rintro _ ⟨⟩; exact .inl HLwa21.out)
       have HB24 := Lib.hid hl_
       have HB25 := Lib.hid (HB18.out.grown hg_ (by simp))
       have HB26 := Lib.hid (HB19.out.grown hg_ (by simp))
       have HG27 : Hid (w.grownBy ws22 none) := Lib.hid (World.grownBy.trans HG20.out hg_)
       clear hws_ hs_ hl_ hg_)
    | (refine wpList_yields (S := fun w' => w' = ws22) (yieldsIf_load_mid (by rfl) _ _ rfl gv5 0 rfl (cs2) _ (fun w' hs => by rw [hs]; exact range_blk HB25.out) Tryd.underlying27 rfl (fe_size' (H.len HF2.out))) rfl ?_
  )
    | (go_at_call 18
       with_reducible refine (H.add _ HF2.out HF2.out).mono ?_
       rintro _ wc28 ⟨csa, hfa, rfl, hg_⟩
       rw [s22] at hfa
       have HFA := Lib.hid hfa
       clear hfa
       have HB29 := Lib.hid (HB25.out.grown hg_ (by simp))
       have HB30 := Lib.hid (HB26.out.grown hg_ (by simp))
       have HB31 := Lib.hid (HB24.out.grown hg_ (by simp))
       have HG32 : Hid (w.grownBy wc28 none) := Lib.hid (World.grownBy.trans HG27.out hg_)
       clear hg_)
    | (go_at_call 8
       with_reducible refine (H.bytes _ HFA.out).mono ?_
       rintro _ wc33 ⟨rfl, hg_⟩
       have HB34 := Lib.hid (HB29.out.grown hg_ (by simp))
       have HB35 := Lib.hid (HB30.out.grown hg_ (by simp))
       have HB36 := Lib.hid (HB31.out.grown hg_ (by simp))
       have HG37 : Hid (w.grownBy wc33 none) := Lib.hid (World.grownBy.trans HG32.out hg_)
       clear hg_)
    | (refine wpList_yields (S := fun w' => w' = wc33) (yieldsIf_load_mid (by rfl) _ _ rfl gv5 0 rfl (cs2) _ (fun w' hs => by rw [hs]; exact range_blk HB34.out) Tryd.underlying27 rfl (fe_size' (H.len HF2.out))) rfl ?_
  )
    | (go_at_call 14
       with_reducible refine (H.mul _ HF2.out HF2.out).mono ?_
       rintro _ wc38 ⟨csm, hfm, rfl, hg_⟩
       rw [m22] at hfm
       have HFM := Lib.hid hfm
       clear hfm
       have HB39 := Lib.hid (HB34.out.grown hg_ (by simp))
       have HB40 := Lib.hid (HB35.out.grown hg_ (by simp))
       have HB41 := Lib.hid (HB36.out.grown hg_ (by simp))
       have HG42 : Hid (w.grownBy wc38 none) := Lib.hid (World.grownBy.trans HG37.out hg_)
       clear hg_)
    | (go_at_call 8
       with_reducible refine (H.bytes _ HFM.out).mono ?_
       rintro _ wc43 ⟨rfl, hg_⟩
       have HB44 := Lib.hid (HB39.out.grown hg_ (by simp))
       have HB45 := Lib.hid (HB40.out.grown hg_ (by simp))
       have HB46 := Lib.hid (HB41.out.grown hg_ (by simp))
       have HG47 : Hid (w.grownBy wc43 none) := Lib.hid (World.grownBy.trans HG42.out hg_)
       clear hg_)
    | (refine wpList_yields (S := fun w' => w' = wc43) (yieldsIf_load_mid (by rfl) _ _ rfl gv13 0 rfl (cs4) _ (fun w' hs => by rw [hs]; exact range_blk HB45.out) Tryd.underlying27 rfl (fe_size' (H.len HF4.out))) rfl ?_
  )
    | (go_at_call 19
       with_reducible refine (H.sub (HT.out.more HG47.out) HF4.out HF4.out).mono ?_
       rintro _ wc48 ⟨css, hfs, rfl, hg_⟩
       rw [sb44] at hfs
       have HFS := Lib.hid hfs
       clear hfs
       have HB49 := Lib.hid (HB44.out.grown hg_ (by simp))
       have HB50 := Lib.hid (HB45.out.grown hg_ (by simp))
       have HB51 := Lib.hid (HB46.out.grown hg_ (by simp))
       have HG52 : Hid (w.grownBy wc48 none) := Lib.hid (World.grownBy.trans HG47.out hg_)
       clear hg_)
    | (go_at_call 8
       with_reducible refine (H.bytes _ HFS.out).mono ?_
       rintro _ wc53 ⟨rfl, hg_⟩
       have HB54 := Lib.hid (HB49.out.grown hg_ (by simp))
       have HB55 := Lib.hid (HB50.out.grown hg_ (by simp))
       have HB56 := Lib.hid (HB51.out.grown hg_ (by simp))
       have HG57 : Hid (w.grownBy wc53 none) := Lib.hid (World.grownBy.trans HG52.out hg_)
       clear hg_)
    | (refine wpList_yields (S := fun w' => w' = wc53) (yieldsIf_load_mid (by rfl) _ _ rfl gv23 0 rfl (csr) _ (fun w' hs => by rw [hs]; exact range_blk HB56.out) Tryd.underlying27 rfl (fe_size' (H.len HFR.out))) rfl ?_
  )
    | (go_at_call 8
       with_reducible refine (H.bytes _ HFR.out).mono ?_
       rintro _ wc58 ⟨rfl, hg_⟩
       have HB59 := Lib.hid (HB54.out.grown hg_ (by simp))
       have HB60 := Lib.hid (HB55.out.grown hg_ (by simp))
       have HB61 := Lib.hid (HB56.out.grown hg_ (by simp))
       have HG62 : Hid (w.grownBy wc58 none) := Lib.hid (World.grownBy.trans HG57.out hg_)
       clear hg_)
    | fail)
  go_ret
  exact ⟨rfl, HG62.out⟩
end Go.Proofs.YtoookolekpblhaaDoor
