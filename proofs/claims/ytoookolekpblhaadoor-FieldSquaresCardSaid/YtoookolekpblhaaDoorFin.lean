/- FieldInverts: the inverse is the document's; its product with the number is 1. Conditions: what is asked of the code. -/
import Derived.Test.YtoookolekpblhaaDoorFrt
namespace Go.Proofs.YtoookolekpblhaaDoor
open Go.RowKit

set_option maxRecDepth 100000 in
set_option maxHeartbeats 800000 in
theorem fieldInverts_walk0 {Fe : List Value → Nat → Prop} (H : FeSays Fe) {w : World} (ht : Tab w) (k : Fin 32 → UInt8) (v m : Nat)
    (hi : ∀ (w : World) (cs : List Value), Fe cs (val k) → Calls Tryd.prog 12 #[.agg cs.toArray] w fun e w' => ∃ es, Fe es v ∧ e = .returned (.agg es.toArray) ∧ w.grownBy w' none)
    (hp : ∀ (w : World) (cs ds : List Value), Fe cs (val k) → Fe ds v → Calls Tryd.prog 14 #[.agg cs.toArray, .agg ds.toArray] w fun e w' => ∃ es, Fe es m ∧ e = .returned (.agg es.toArray) ∧ w.grownBy w' none)
    (hr : ∀ (w : World), Calls Tryd.prog 13 #[.agg (num (dgt (val k))).toArray] w fun e w' => e = .returned (.agg (num (dgt v)).toArray) ∧ w.grownBy w' none)
    (hc : (k32 (bt (val k)) == k32 (bt 0)) = decide (m = 0)) (hm1 : m ≠ 0 → m = 1) : Calls Tryd.prog 4 #[.agg (u8s (k32 k)).toArray] w fun e w' => e = .returned (.bool true) ∧ w.grownBy w' none := by
  by_cases h0 : m = 0
  · subst h0
    rw [decide_eq_true rfl] at hc
    have HC := Lib.hid hc
    have HP := Lib.hid hp
    have HI := Lib.hid hi
    have HRF := Lib.hid hr
    clear hc hp hi hr hm1
    have HT := Lib.hid ht
    clear ht
    go_enter Tryd.func4, Tryd.ntmps4
    go_wp2_with (first
      | (with_reducible refine wpList_box22 rfl _ k rfl rfl ?_
         intro wb1 hb_ hg_ hz_
         obtain ⟨gb2, hge_⟩ : ∃ g, g = w.heap.size := ⟨_, rfl⟩
         rw [← hge_] at hb_ ⊢
         have HB3 := Lib.hid hb_
         have HG4 : Hid (w.grownBy wb1 none) := Lib.hid hg_
         clear hb_ hg_ hz_ hge_)
      | (go_at_call 7
         with_reducible refine (alive_any H (HT.out.more HG4.out)).mono ?_
         rintro _ wc5 ⟨rfl, hg_⟩
         have HB6 := Lib.hid (HB3.out.grown hg_ (by simp))
         have HG7 : Hid (w.grownBy wc5 none) := Lib.hid (World.grownBy.trans HG4.out hg_)
         clear hg_)
      | (refine wpList_yields (S := fun w' => w' = wc5) (yieldsIf_load_mid (by rfl) _ _ rfl gb2 0 rfl (u8s (k32 k)) _ (fun w' hs => by rw [hs]; exact range_blk HB6.out) Tryd.underlying22 rfl (k32_size' _)) rfl ?_
    )
      | (go_at_call 9
         with_reducible refine (H.of _ k).mono ?_
         rintro _ wc8 ⟨cs, hf, rfl, hg_⟩
         have HF := Lib.hid hf
         clear hf
         have HB9 := Lib.hid (HB6.out.grown hg_ (by simp))
         have HG10 : Hid (w.grownBy wc8 none) := Lib.hid (World.grownBy.trans HG7.out hg_)
         clear hg_)
      | (refine wpList_alloc28 rfl rfl ?_
         intro wa11 hb_ hg_ hz_
         obtain ⟨gv13, hge_⟩ : ∃ g, g = wc8.heap.size := ⟨_, rfl⟩
         rw [← hge_] at hb_ ⊢
         have HOwa11 := Lib.hid hb_
         have HAwa11 := Lib.hid hg_
         have HLwa11 : Hid (wc8.heap.size ≤ gv13) := Lib.hid (by omega)
         have HDgv13_k := Lib.hid (Nat.lt_of_lt_of_le HB9.out.lt HLwa11.out)
         have HSgv13 := Lib.hid (Nat.le_trans HG10.out.size HLwa11.out)
         clear hb_ hg_ hz_ hge_)
      | (refine wpList_store_row rfl 27 _ _ rfl gv13 (cs).toArray rfl rfl 27 _ HOwa11.out (fe_size (H.len HF.out)) ((fe_same (H.len HF.out)).symm) (all_oneCell_toArray (H.one HF.out)) ?_
         obtain ⟨ws12, hws_⟩ : ∃ w', w' = wa11.setRow gv13 (cs).toArray := ⟨_, rfl⟩
         have hs_ : wa11.grownBy ws12 (some gv13) := by rw [hws_]; exact grown_setRow _ _ _
         have hl_ : Blk ws12 gv13 27 (cs) := by rw [hws_]; exact Blk.setRow HOwa11.out
         rw [← hws_]
         have hg_ : wc8.grownBy ws12 none := World.grownBy.andThen HAwa11.out hs_ (by rintro _ ⟨⟩; exact .inl HLwa11.out)
         have HB14 := Lib.hid hl_
         have HB15 := Lib.hid (HB9.out.grown hg_ (by simp))
         have HG16 : Hid (w.grownBy ws12 none) := Lib.hid (World.grownBy.trans HG10.out hg_)
         clear hws_ hs_ hl_ hg_)
      | (refine wpList_yields (S := fun w' => w' = ws12) (yieldsIf_load_mid (by rfl) _ _ rfl gv13 0 rfl (cs) _ (fun w' hs => by rw [hs]; exact range_blk HB14.out) Tryd.underlying27 rfl (fe_size' (H.len HF.out))) rfl ?_
    )
      | (go_at_call 12
         with_reducible refine (HI.out _ _ HF.out).mono ?_
         rintro _ wc17 ⟨csi, hi, rfl, hg_⟩
         have HV := Lib.hid hi
         clear hi
         have HB18 := Lib.hid (HB15.out.grown hg_ (by simp))
         have HB19 := Lib.hid (HB14.out.grown hg_ (by simp))
         have HG20 : Hid (w.grownBy wc17 none) := Lib.hid (World.grownBy.trans HG16.out hg_)
         clear hg_)
      | (refine wpList_alloc28 rfl rfl ?_
         intro wa21 hb_ hg_ hz_
         obtain ⟨gv23, hge_⟩ : ∃ g, g = wc17.heap.size := ⟨_, rfl⟩
         rw [← hge_] at hb_ ⊢
         have HOwa21 := Lib.hid hb_
         have HAwa21 := Lib.hid hg_
         have HLwa21 : Hid (wc17.heap.size ≤ gv23) := Lib.hid (by omega)
         have HDgv23_k := Lib.hid (Nat.lt_of_lt_of_le HB18.out.lt HLwa21.out)
         have HDgv23_x := Lib.hid (Nat.lt_of_lt_of_le HB19.out.lt HLwa21.out)
         have HSgv23 := Lib.hid (Nat.le_trans HG20.out.size HLwa21.out)
         clear hb_ hg_ hz_ hge_)
      | (refine wpList_store_row rfl 27 _ _ rfl gv23 (csi).toArray rfl rfl 27 _ HOwa21.out (fe_size (H.len HV.out)) ((fe_same (H.len HV.out)).symm) (all_oneCell_toArray (H.one HV.out)) ?_
         obtain ⟨ws22, hws_⟩ : ∃ w', w' = wa21.setRow gv23 (csi).toArray := ⟨_, rfl⟩
         have hs_ : wa21.grownBy ws22 (some gv23) := by rw [hws_]; exact grown_setRow _ _ _
         have hl_ : Blk ws22 gv23 27 (csi) := by rw [hws_]; exact Blk.setRow HOwa21.out
         rw [← hws_]
         have hg_ : wc17.grownBy ws22 none := World.grownBy.andThen HAwa21.out hs_ (by rintro _ ⟨⟩; exact .inl HLwa21.out)
         have HB24 := Lib.hid hl_
         have HB25 := Lib.hid (HB18.out.grown hg_ (by simp))
         have HB26 := Lib.hid (HB19.out.grown hg_ (by simp))
         have HG27 : Hid (w.grownBy ws22 none) := Lib.hid (World.grownBy.trans HG20.out hg_)
         clear hws_ hs_ hl_ hg_)
      | (refine wpList_yields (S := fun _ => True) (yieldsIf_bt (by rfl) 1 rfl (by decide)) trivial ?_
    )
      | (refine wpList_alloc22 rfl rfl ?_
         intro wa28 hb_ hg_ hz_
         obtain ⟨gv30, hge_⟩ : ∃ g, g = ws22.heap.size := ⟨_, rfl⟩
         rw [← hge_] at hb_ ⊢
         have HOwa28 := Lib.hid hb_
         have HAwa28 := Lib.hid hg_
         have HLwa28 : Hid (ws22.heap.size ≤ gv30) := Lib.hid (by omega)
         have HDgv30_k := Lib.hid (Nat.lt_of_lt_of_le HB25.out.lt HLwa28.out)
         have HDgv30_x := Lib.hid (Nat.lt_of_lt_of_le HB26.out.lt HLwa28.out)
         have HDgv30_y := Lib.hid (Nat.lt_of_lt_of_le HB24.out.lt HLwa28.out)
         have HSgv30 := Lib.hid (Nat.le_trans HG27.out.size HLwa28.out)
         clear hb_ hg_ hz_ hge_)
      | (refine wpList_store_row rfl 22 _ _ rfl gv30 (u8s (k32 (bt 1))).toArray rfl rfl 22 _ HOwa28.out (k32_size _) (k32_same _ _) (all_oneCell_toArray (u8s_one _)) ?_
         obtain ⟨ws29, hws_⟩ : ∃ w', w' = wa28.setRow gv30 (u8s (k32 (bt 1))).toArray := ⟨_, rfl⟩
         have hs_ : wa28.grownBy ws29 (some gv30) := by rw [hws_]; exact grown_setRow _ _ _
         have hl_ : Blk ws29 gv30 22 (u8s (k32 (bt 1))) := by rw [hws_]; exact Blk.setRow HOwa28.out
         rw [← hws_]
         have hg_ : ws22.grownBy ws29 none := World.grownBy.andThen HAwa28.out hs_ (by rintro _ ⟨⟩; exact .inl HLwa28.out)
         have HB31 := Lib.hid hl_
         have HB32 := Lib.hid (HB25.out.grown hg_ (by simp))
         have HB33 := Lib.hid (HB26.out.grown hg_ (by simp))
         have HB34 := Lib.hid (HB24.out.grown hg_ (by simp))
         have HG35 : Hid (w.grownBy ws29 none) := Lib.hid (World.grownBy.trans HG27.out hg_)
         clear hws_ hs_ hl_ hg_)
      | (refine wpList_yields (S := fun w' => w' = ws29) (yieldsIf_load_mid (by rfl) _ _ rfl gv13 0 rfl (cs) _ (fun w' hs => by rw [hs]; exact range_blk HB33.out) Tryd.underlying27 rfl (fe_size' (H.len HF.out))) rfl ?_
    )
      | (go_at_call 8
         with_reducible refine (H.bytes _ HF.out).mono ?_
         rintro _ wc36 ⟨rfl, hg_⟩
         have HB37 := Lib.hid (HB32.out.grown hg_ (by simp))
         have HB38 := Lib.hid (HB33.out.grown hg_ (by simp))
         have HB39 := Lib.hid (HB34.out.grown hg_ (by simp))
         have HB40 := Lib.hid (HB31.out.grown hg_ (by simp))
         have HG41 : Hid (w.grownBy wc36 none) := Lib.hid (World.grownBy.trans HG35.out hg_)
         clear hg_)
      | (refine wpList_yields (S := fun _ => True) (yieldsIf_btz (by rfl) rfl) trivial ?_
    )
      | (refine wpList_yields (S := fun _ => True) (yieldsIf_eql22 (by rfl) _ _ rfl rfl rfl HC.out) trivial ?_
    )
      | (refine wpList_store_row rfl 22 _ _ rfl gv30 (u8s (k32 (bt 0))).toArray rfl rfl 22 _ HB40.out (k32_size _) (k32_same _ _) (all_oneCell_toArray (u8s_one _)) ?_
         obtain ⟨ws42, hws_⟩ : ∃ w', w' = wc36.setRow gv30 (u8s (k32 (bt 0))).toArray := ⟨_, rfl⟩
         have hs_ : wc36.grownBy ws42 (some gv30) := by rw [hws_]; exact grown_setRow _ _ _
         have hl_ : Blk ws42 gv30 22 (u8s (k32 (bt 0))) := by rw [hws_]; exact Blk.setRow HB40.out
         rw [← hws_]
         have HB43 := Lib.hid (HB37.out.grown hs_ (by rintro ⟨⟩; exact Nat.lt_irrefl _ HDgv30_k.out))
         have HB44 := Lib.hid (HB38.out.grown hs_ (by rintro ⟨⟩; exact Nat.lt_irrefl _ HDgv30_x.out))
         have HB45 := Lib.hid (HB39.out.grown hs_ (by rintro ⟨⟩; exact Nat.lt_irrefl _ HDgv30_y.out))
         have HG46 : Hid (w.grownBy ws42 none) := Lib.hid (World.grownBy.andThen HG41.out hs_ (by rintro _ ⟨⟩; exact .inl HSgv30.out))
         have HB47 := Lib.hid hl_
         clear hws_ hs_ hl_)
      | fail)
    refine wp_region_held_drew (S := fun w' => Blk w' gb2 22 (u8s (k32 k)) ∧ Blk w' gv13 27 (cs) ∧ Blk w' gv23 27 (csi) ∧ Blk w' gv30 22 (u8s (k32 (bt 0)))) (by kernel_rfl) ⟨HB43.out.keep rfl, HB44.out.keep rfl, HB45.out.keep rfl, HB47.out.keep rfl⟩ (fun hHeld => ?_)
    have hw0_ := grown_drew HG46.out
    refine' wpAnyH_take (i := 0) (oi := { dst := some 18, op := Op.load 27 (Operand.tmp 4), type := 27, pos := "law.go:59", after := #[], guard := none }) (v := _) rfl (by kernel_rfl) (by kernel_rfl) (by kernel_rfl) (fun _ _ _ h => h) (yieldsIf_load_mid (by rfl) _ _ rfl gv23 0 rfl (csi) _ (fun w' hs => range_blk hs.2.2.1) Tryd.underlying27 rfl (fe_size' (H.len HV.out))) (by assumption) ?qz1
    try simp only [Act.put, List.setIfInBounds_toArray, List.set_cons_zero, List.set_cons_succ]
    refine' wpAnyH_take (i := 2) (oi := { dst := some 20, op := Op.load 22 (Operand.tmp 1), type := 22, pos := "law.go:59", after := #[], guard := none }) (v := _) rfl (by kernel_rfl) (by kernel_rfl) (by kernel_rfl) (fun _ _ _ h => h) (yieldsIf_load_mid (by rfl) _ _ rfl gb2 0 rfl (u8s (k32 k)) _ (fun w' hs => range_blk hs.1) Tryd.underlying22 rfl (k32_size' _)) (by assumption) ?qz2
    try simp only [Act.put, List.setIfInBounds_toArray, List.set_cons_zero, List.set_cons_succ]
    refine wpAnyH_ready (rs := [1]) (by kernel_rfl) (by simp) ?_
    refine AllReadyH.cons (o := { dst := some 19, op := Op.call { callee := Callee.value (Operand.func 8), args := #[Operand.tmp 18], argTypes := #[27] }, type := 22, pos := "law.go:59", after := #[{ on := 0, ground := Ground.data }], guard := none }) rfl (fun K hK => ?_) AllReadyH.nil
    rw [if_pos (by rfl)]
    go_simp
    with_reducible refine (H.bytes _ HV.out).mono ?_
    rintro _ wz3 ⟨rfl, hgz4⟩
    have hwz5 := World.grownBy.trans hw0_ hgz4
    refine hK.out _ _ ⟨hHeld.1.grown hgz4 (by simp), hHeld.2.1.grown hgz4 (by simp), hHeld.2.2.1.grown hgz4 (by simp), hHeld.2.2.2.grown hgz4 (by simp)⟩ (fun hHeld => ?_)
    clear hK K
    try simp only [Act.put, List.setIfInBounds_toArray, List.set_cons_zero, List.set_cons_succ]
    refine wpAnyH_ready (rs := [3]) (by kernel_rfl) (by simp) ?_
    refine AllReadyH.cons (o := { dst := some 21, op := Op.call { callee := Callee.value (Operand.func 11), args := #[Operand.tmp 20], argTypes := #[22] }, type := 31, pos := "law.go:59", after := #[{ on := 2, ground := Ground.data }, { on := 1, ground := Ground.chain }], guard := none }) rfl (fun K hK => ?_) AllReadyH.nil
    rw [if_pos (by rfl)]
    go_simp
    with_reducible refine (of_val _ k).mono ?_
    rintro _ wz6 ⟨rfl, hgz7⟩
    have hwz8 := World.grownBy.trans hwz5 hgz7
    refine hK.out _ _ ⟨hHeld.1.grown hgz7 (by simp), hHeld.2.1.grown hgz7 (by simp), hHeld.2.2.1.grown hgz7 (by simp), hHeld.2.2.2.grown hgz7 (by simp)⟩ (fun hHeld => ?_)
    clear hK K
    try simp only [Act.put, List.setIfInBounds_toArray, List.set_cons_zero, List.set_cons_succ]
    refine wpAnyH_ready (rs := [4]) (by kernel_rfl) (by simp) ?_
    refine AllReadyH.cons (o := { dst := some 22, op := Op.call { callee := Callee.value (Operand.func 13), args := #[Operand.tmp 21], argTypes := #[31] }, type := 31, pos := "law.go:59", after := #[{ on := 3, ground := Ground.data }, { on := 3, ground := Ground.chain }], guard := none }) rfl (fun K hK => ?_) AllReadyH.nil
    rw [if_pos (by rfl)]
    go_simp
    with_reducible refine (HRF.out _).mono ?_
    rintro _ wz9 ⟨rfl, hgz10⟩
    have hwz11 := World.grownBy.trans hwz8 hgz10
    refine hK.out _ _ ⟨hHeld.1.grown hgz10 (by simp), hHeld.2.1.grown hgz10 (by simp), hHeld.2.2.1.grown hgz10 (by simp), hHeld.2.2.2.grown hgz10 (by simp)⟩ (fun hHeld => ?_)
    clear hK K
    try simp only [Act.put, List.setIfInBounds_toArray, List.set_cons_zero, List.set_cons_succ]
    refine wpAnyH_ready (rs := [5]) (by kernel_rfl) (by simp) ?_
    refine AllReadyH.cons (o := { dst := some 23, op := Op.call { callee := Callee.value (Operand.func 10), args := #[Operand.tmp 22], argTypes := #[31] }, type := 22, pos := "law.go:59", after := #[{ on := 4, ground := Ground.data }, { on := 4, ground := Ground.chain }], guard := none }) rfl (fun K hK => ?_) AllReadyH.nil
    rw [if_pos (by rfl)]
    go_simp
    with_reducible refine (bytes_any _ v).mono ?_
    rintro _ wz12 ⟨rfl, hgz13⟩
    have hwz14 := World.grownBy.trans hwz11 hgz13
    refine hK.out _ _ ⟨hHeld.1.grown hgz13 (by simp), hHeld.2.1.grown hgz13 (by simp), hHeld.2.2.1.grown hgz13 (by simp), hHeld.2.2.2.grown hgz13 (by simp)⟩ (fun hHeld => ?_)
    clear hK K
    try simp only [Act.put, List.setIfInBounds_toArray, List.set_cons_zero, List.set_cons_succ]
    refine' wpAnyH_take (i := 6) (oi := { dst := some 24, op := Op.binOp BinOp.eql 22 (Operand.tmp 19) (Operand.tmp 23) 22, type := 4, pos := "law.go:59", after := #[{ on := 1, ground := Ground.data }, { on := 5, ground := Ground.data }], guard := none }) (v := .bool true) rfl (by kernel_rfl) (by kernel_rfl) (by kernel_rfl) (fun _ _ _ h => h) (yieldsIf_eql22 (by rfl) _ _ rfl rfl rfl (same32 _)) (by assumption) ?qz15
    try simp only [Act.put, List.setIfInBounds_toArray, List.set_cons_zero, List.set_cons_succ]
    refine' wpAnyH_take (i := 7) (oi := { dst := some 25, op := Op.move (Operand.tmp 24), type := 4, pos := "law.go:59", after := #[{ on := 6, ground := Ground.data }, { on := 5, ground := Ground.chain }], guard := none }) (v := .bool true) rfl (by kernel_rfl) (by kernel_rfl) (by kernel_rfl) (fun _ _ _ h => h) (.inl ⟨by rfl, fun _ _ => rfl⟩) (by assumption) ?qz16
    try simp only [Act.put, List.setIfInBounds_toArray, List.set_cons_zero, List.set_cons_succ]
    refine' wpAnyH_take (i := 8) (oi := { dst := some 26, op := Op.load 27 (Operand.tmp 3), type := 27, pos := "law.go:59", after := #[{ on := 7, ground := Ground.guard }], guard := some (7, true) }) (v := _) rfl (by kernel_rfl) (by kernel_rfl) (by kernel_rfl) (fun _ _ _ h => h) (yieldsIf_load_mid (by rfl) _ _ rfl gv13 0 rfl (cs) _ (fun w' hs => range_blk hs.2.1) Tryd.underlying27 rfl (fe_size' (H.len HF.out))) (by assumption) ?qz17
    try simp only [Act.put, List.setIfInBounds_toArray, List.set_cons_zero, List.set_cons_succ]
    refine' wpAnyH_take (i := 9) (oi := { dst := some 27, op := Op.load 27 (Operand.tmp 4), type := 27, pos := "law.go:59", after := #[{ on := 7, ground := Ground.guard }], guard := some (7, true) }) (v := _) rfl (by kernel_rfl) (by kernel_rfl) (by kernel_rfl) (fun _ _ _ h => h) (yieldsIf_load_mid (by rfl) _ _ rfl gv23 0 rfl (csi) _ (fun w' hs => range_blk hs.2.2.1) Tryd.underlying27 rfl (fe_size' (H.len HV.out))) (by assumption) ?qz18
    try simp only [Act.put, List.setIfInBounds_toArray, List.set_cons_zero, List.set_cons_succ]
    refine' wpAnyH_take (i := 12) (oi := { dst := some 30, op := Op.load 22 (Operand.tmp 5), type := 22, pos := "law.go:59", after := #[{ on := 7, ground := Ground.guard }], guard := some (7, true) }) (v := _) rfl (by kernel_rfl) (by kernel_rfl) (by kernel_rfl) (fun _ _ _ h => h) (yieldsIf_load_mid (by rfl) _ _ rfl gv30 0 rfl (u8s (k32 (bt 0))) _ (fun w' hs => range_blk hs.2.2.2) Tryd.underlying22 rfl (k32_size' _)) (by assumption) ?qz19
    try simp only [Act.put, List.setIfInBounds_toArray, List.set_cons_zero, List.set_cons_succ]
    refine wpAnyH_ready (rs := [10]) (by kernel_rfl) (by simp) ?_
    refine AllReadyH.cons (o := { dst := some 28, op := Op.call { callee := Callee.value (Operand.func 14), args := #[Operand.tmp 26, Operand.tmp 27], argTypes := #[27, 27] }, type := 27, pos := "law.go:59", after := #[{ on := 8, ground := Ground.data }, { on := 9, ground := Ground.data }, { on := 7, ground := Ground.chain }, { on := 7, ground := Ground.guard }], guard := some (7, true) }) rfl (fun K hK => ?_) AllReadyH.nil
    rw [if_pos (by rfl)]
    go_simp
    with_reducible refine (HP.out _ _ _ HF.out HV.out).mono ?_
    rintro _ wz20 ⟨csm, hm, rfl, hgz21⟩
    have HM := Lib.hid hm
    clear hm
    have hwz22 := World.grownBy.trans hwz14 hgz21
    refine hK.out _ _ ⟨hHeld.1.grown hgz21 (by simp), hHeld.2.1.grown hgz21 (by simp), hHeld.2.2.1.grown hgz21 (by simp), hHeld.2.2.2.grown hgz21 (by simp)⟩ (fun hHeld => ?_)
    clear hK K
    try simp only [Act.put, List.setIfInBounds_toArray, List.set_cons_zero, List.set_cons_succ]
    refine wpAnyH_ready (rs := [11]) (by kernel_rfl) (by simp) ?_
    refine AllReadyH.cons (o := { dst := some 29, op := Op.call { callee := Callee.value (Operand.func 8), args := #[Operand.tmp 28], argTypes := #[27] }, type := 22, pos := "law.go:59", after := #[{ on := 10, ground := Ground.data }, { on := 10, ground := Ground.chain }, { on := 7, ground := Ground.guard }], guard := some (7, true) }) rfl (fun K hK => ?_) AllReadyH.nil
    rw [if_pos (by rfl)]
    go_simp
    with_reducible refine (H.bytes _ HM.out).mono ?_
    rintro _ wz23 ⟨rfl, hgz24⟩
    have hwz25 := World.grownBy.trans hwz22 hgz24
    refine hK.out _ _ ⟨hHeld.1.grown hgz24 (by simp), hHeld.2.1.grown hgz24 (by simp), hHeld.2.2.1.grown hgz24 (by simp), hHeld.2.2.2.grown hgz24 (by simp)⟩ (fun hHeld => ?_)
    clear hK K
    try simp only [Act.put, List.setIfInBounds_toArray, List.set_cons_zero, List.set_cons_succ]
    refine' wpAnyH_take (i := 13) (oi := { dst := some 31, op := Op.binOp BinOp.eql 22 (Operand.tmp 29) (Operand.tmp 30) 22, type := 4, pos := "law.go:59", after := #[{ on := 11, ground := Ground.data }, { on := 12, ground := Ground.data }, { on := 7, ground := Ground.guard }], guard := some (7, true) }) (v := .bool true) rfl (by kernel_rfl) (by kernel_rfl) (by kernel_rfl) (fun _ _ _ h => h) (yieldsIf_eql22 (by rfl) _ _ rfl rfl rfl (same32 _)) (by assumption) ?qz26
    try simp only [Act.put, List.setIfInBounds_toArray, List.set_cons_zero, List.set_cons_succ]
    refine wpAnyH_ready (rs := [14]) (by kernel_rfl) (by simp) ?_
    refine AllReadyH.cons (o := { dst := some 32, op := Op.pick (Operand.tmp 25) (Operand.tmp 31) (Operand.const (Value.bool false)), type := 4, pos := "law.go:59", after := #[{ on := 7, ground := Ground.data }, { on := 13, ground := Ground.data }], guard := none }) rfl (fun K hK => ?_) AllReadyH.nil
    rw [if_pos (by rfl)]
    go_simp
    refine hK.out _ _ hHeld (fun hHeld => ?_)
    clear hK K
    try simp only [Act.put, List.setIfInBounds_toArray, List.set_cons_zero, List.set_cons_succ]
    refine wpAnyH_ready (rs := [15]) (by kernel_rfl) (by simp) ?_
    refine AllReadyH.cons (o := { dst := some 2, op := Op.assign (Operand.tmp 32), type := 4, pos := "law.go:59", after := #[{ on := 14, ground := Ground.data }, { on := 11, ground := Ground.chain }, { on := 0, ground := Ground.phase }, { on := 1, ground := Ground.phase }, { on := 2, ground := Ground.phase }, { on := 3, ground := Ground.phase }, { on := 4, ground := Ground.phase }, { on := 5, ground := Ground.phase }, { on := 6, ground := Ground.phase }, { on := 7, ground := Ground.phase }, { on := 8, ground := Ground.phase }, { on := 9, ground := Ground.phase }, { on := 10, ground := Ground.phase }, { on := 11, ground := Ground.phase }, { on := 12, ground := Ground.phase }, { on := 13, ground := Ground.phase }, { on := 14, ground := Ground.phase }], guard := none }) rfl (fun K hK => ?_) AllReadyH.nil
    rw [if_pos (by rfl)]
    go_simp
    refine hK.out _ _ hHeld (fun hHeld => ?_)
    clear hK K
    try simp only [Act.put, List.setIfInBounds_toArray, List.set_cons_zero, List.set_cons_succ]
    refine wpAnyH_done (by kernel_rfl) ?_ _
    go_wp2_with (fail)
    go_ret
    exact ⟨rfl, hwz25⟩
  · obtain rfl := hm1 h0
    rw [decide_eq_false h0] at hc
    have HC := Lib.hid hc
    have HP := Lib.hid hp
    have HI := Lib.hid hi
    have HRF := Lib.hid hr
    clear hc hp hi hr hm1 h0
    have HT := Lib.hid ht
    clear ht
    go_enter Tryd.func4, Tryd.ntmps4
    go_wp2_with (first
      | (with_reducible refine wpList_box22 rfl _ k rfl rfl ?_
         intro wb1 hb_ hg_ hz_
         obtain ⟨gb2, hge_⟩ : ∃ g, g = w.heap.size := ⟨_, rfl⟩
         rw [← hge_] at hb_ ⊢
         have HB3 := Lib.hid hb_
         have HG4 : Hid (w.grownBy wb1 none) := Lib.hid hg_
         clear hb_ hg_ hz_ hge_)
      | (go_at_call 7
         with_reducible refine (alive_any H (HT.out.more HG4.out)).mono ?_
         rintro _ wc5 ⟨rfl, hg_⟩
         have HB6 := Lib.hid (HB3.out.grown hg_ (by simp))
         have HG7 : Hid (w.grownBy wc5 none) := Lib.hid (World.grownBy.trans HG4.out hg_)
         clear hg_)
      | (refine wpList_yields (S := fun w' => w' = wc5) (yieldsIf_load_mid (by rfl) _ _ rfl gb2 0 rfl (u8s (k32 k)) _ (fun w' hs => by rw [hs]; exact range_blk HB6.out) Tryd.underlying22 rfl (k32_size' _)) rfl ?_
    )
      | (go_at_call 9
         with_reducible refine (H.of _ k).mono ?_
         rintro _ wc8 ⟨cs, hf, rfl, hg_⟩
         have HF := Lib.hid hf
         clear hf
         have HB9 := Lib.hid (HB6.out.grown hg_ (by simp))
         have HG10 : Hid (w.grownBy wc8 none) := Lib.hid (World.grownBy.trans HG7.out hg_)
         clear hg_)
      | (refine wpList_alloc28 rfl rfl ?_
         intro wa11 hb_ hg_ hz_
         obtain ⟨gv13, hge_⟩ : ∃ g, g = wc8.heap.size := ⟨_, rfl⟩
         rw [← hge_] at hb_ ⊢
         have HOwa11 := Lib.hid hb_
         have HAwa11 := Lib.hid hg_
         have HLwa11 : Hid (wc8.heap.size ≤ gv13) := Lib.hid (by omega)
         have HDgv13_k := Lib.hid (Nat.lt_of_lt_of_le HB9.out.lt HLwa11.out)
         have HSgv13 := Lib.hid (Nat.le_trans HG10.out.size HLwa11.out)
         clear hb_ hg_ hz_ hge_)
      | (refine wpList_store_row rfl 27 _ _ rfl gv13 (cs).toArray rfl rfl 27 _ HOwa11.out (fe_size (H.len HF.out)) ((fe_same (H.len HF.out)).symm) (all_oneCell_toArray (H.one HF.out)) ?_
         obtain ⟨ws12, hws_⟩ : ∃ w', w' = wa11.setRow gv13 (cs).toArray := ⟨_, rfl⟩
         have hs_ : wa11.grownBy ws12 (some gv13) := by rw [hws_]; exact grown_setRow _ _ _
         have hl_ : Blk ws12 gv13 27 (cs) := by rw [hws_]; exact Blk.setRow HOwa11.out
         rw [← hws_]
         have hg_ : wc8.grownBy ws12 none := World.grownBy.andThen HAwa11.out hs_ (by rintro _ ⟨⟩; exact .inl HLwa11.out)
         have HB14 := Lib.hid hl_
         have HB15 := Lib.hid (HB9.out.grown hg_ (by simp))
         have HG16 : Hid (w.grownBy ws12 none) := Lib.hid (World.grownBy.trans HG10.out hg_)
         clear hws_ hs_ hl_ hg_)
      | (refine wpList_yields (S := fun w' => w' = ws12) (yieldsIf_load_mid (by rfl) _ _ rfl gv13 0 rfl (cs) _ (fun w' hs => by rw [hs]; exact range_blk HB14.out) Tryd.underlying27 rfl (fe_size' (H.len HF.out))) rfl ?_
    )
      | (go_at_call 12
         with_reducible refine (HI.out _ _ HF.out).mono ?_
         rintro _ wc17 ⟨csi, hi, rfl, hg_⟩
         have HV := Lib.hid hi
         clear hi
         have HB18 := Lib.hid (HB15.out.grown hg_ (by simp))
         have HB19 := Lib.hid (HB14.out.grown hg_ (by simp))
         have HG20 : Hid (w.grownBy wc17 none) := Lib.hid (World.grownBy.trans HG16.out hg_)
         clear hg_)
      | (refine wpList_alloc28 rfl rfl ?_
         intro wa21 hb_ hg_ hz_
         obtain ⟨gv23, hge_⟩ : ∃ g, g = wc17.heap.size := ⟨_, rfl⟩
         rw [← hge_] at hb_ ⊢
         have HOwa21 := Lib.hid hb_
         have HAwa21 := Lib.hid hg_
         have HLwa21 : Hid (wc17.heap.size ≤ gv23) := Lib.hid (by omega)
         have HDgv23_k := Lib.hid (Nat.lt_of_lt_of_le HB18.out.lt HLwa21.out)
         have HDgv23_x := Lib.hid (Nat.lt_of_lt_of_le HB19.out.lt HLwa21.out)
         have HSgv23 := Lib.hid (Nat.le_trans HG20.out.size HLwa21.out)
         clear hb_ hg_ hz_ hge_)
      | (refine wpList_store_row rfl 27 _ _ rfl gv23 (csi).toArray rfl rfl 27 _ HOwa21.out (fe_size (H.len HV.out)) ((fe_same (H.len HV.out)).symm) (all_oneCell_toArray (H.one HV.out)) ?_
         obtain ⟨ws22, hws_⟩ : ∃ w', w' = wa21.setRow gv23 (csi).toArray := ⟨_, rfl⟩
         have hs_ : wa21.grownBy ws22 (some gv23) := by rw [hws_]; exact grown_setRow _ _ _
         have hl_ : Blk ws22 gv23 27 (csi) := by rw [hws_]; exact Blk.setRow HOwa21.out
         rw [← hws_]
         have hg_ : wc17.grownBy ws22 none := World.grownBy.andThen HAwa21.out hs_ (by rintro _ ⟨⟩; exact .inl HLwa21.out)
         have HB24 := Lib.hid hl_
         have HB25 := Lib.hid (HB18.out.grown hg_ (by simp))
         have HB26 := Lib.hid (HB19.out.grown hg_ (by simp))
         have HG27 : Hid (w.grownBy ws22 none) := Lib.hid (World.grownBy.trans HG20.out hg_)
         clear hws_ hs_ hl_ hg_)
      | (refine wpList_yields (S := fun _ => True) (yieldsIf_bt (by rfl) 1 rfl (by decide)) trivial ?_
    )
      | (refine wpList_alloc22 rfl rfl ?_
         intro wa28 hb_ hg_ hz_
         obtain ⟨gv30, hge_⟩ : ∃ g, g = ws22.heap.size := ⟨_, rfl⟩
         rw [← hge_] at hb_ ⊢
         have HOwa28 := Lib.hid hb_
         have HAwa28 := Lib.hid hg_
         have HLwa28 : Hid (ws22.heap.size ≤ gv30) := Lib.hid (by omega)
         have HDgv30_k := Lib.hid (Nat.lt_of_lt_of_le HB25.out.lt HLwa28.out)
         have HDgv30_x := Lib.hid (Nat.lt_of_lt_of_le HB26.out.lt HLwa28.out)
         have HDgv30_y := Lib.hid (Nat.lt_of_lt_of_le HB24.out.lt HLwa28.out)
         have HSgv30 := Lib.hid (Nat.le_trans HG27.out.size HLwa28.out)
         clear hb_ hg_ hz_ hge_)
      | (refine wpList_store_row rfl 22 _ _ rfl gv30 (u8s (k32 (bt 1))).toArray rfl rfl 22 _ HOwa28.out (k32_size _) (k32_same _ _) (all_oneCell_toArray (u8s_one _)) ?_
         obtain ⟨ws29, hws_⟩ : ∃ w', w' = wa28.setRow gv30 (u8s (k32 (bt 1))).toArray := ⟨_, rfl⟩
         have hs_ : wa28.grownBy ws29 (some gv30) := by rw [hws_]; exact grown_setRow _ _ _
         have hl_ : Blk ws29 gv30 22 (u8s (k32 (bt 1))) := by rw [hws_]; exact Blk.setRow HOwa28.out
         rw [← hws_]
         have hg_ : ws22.grownBy ws29 none := World.grownBy.andThen HAwa28.out hs_ (by rintro _ ⟨⟩; exact .inl HLwa28.out)
         have HB31 := Lib.hid hl_
         have HB32 := Lib.hid (HB25.out.grown hg_ (by simp))
         have HB33 := Lib.hid (HB26.out.grown hg_ (by simp))
         have HB34 := Lib.hid (HB24.out.grown hg_ (by simp))
         have HG35 : Hid (w.grownBy ws29 none) := Lib.hid (World.grownBy.trans HG27.out hg_)
         clear hws_ hs_ hl_ hg_)
      | (refine wpList_yields (S := fun w' => w' = ws29) (yieldsIf_load_mid (by rfl) _ _ rfl gv13 0 rfl (cs) _ (fun w' hs => by rw [hs]; exact range_blk HB33.out) Tryd.underlying27 rfl (fe_size' (H.len HF.out))) rfl ?_
    )
      | (go_at_call 8
         with_reducible refine (H.bytes _ HF.out).mono ?_
         rintro _ wc36 ⟨rfl, hg_⟩
         have HB37 := Lib.hid (HB32.out.grown hg_ (by simp))
         have HB38 := Lib.hid (HB33.out.grown hg_ (by simp))
         have HB39 := Lib.hid (HB34.out.grown hg_ (by simp))
         have HB40 := Lib.hid (HB31.out.grown hg_ (by simp))
         have HG41 : Hid (w.grownBy wc36 none) := Lib.hid (World.grownBy.trans HG35.out hg_)
         clear hg_)
      | (refine wpList_yields (S := fun _ => True) (yieldsIf_btz (by rfl) rfl) trivial ?_
    )
      | (refine wpList_yields (S := fun _ => True) (yieldsIf_eql22 (by rfl) _ _ rfl rfl rfl HC.out) trivial ?_
    )
      | fail)
    refine wp_region_held_drew (S := fun w' => Blk w' gb2 22 (u8s (k32 k)) ∧ Blk w' gv13 27 (cs) ∧ Blk w' gv23 27 (csi) ∧ Blk w' gv30 22 (u8s (k32 (bt 1)))) (by kernel_rfl) ⟨HB37.out.keep rfl, HB38.out.keep rfl, HB39.out.keep rfl, HB40.out.keep rfl⟩ (fun hHeld => ?_)
    have hw0_ := grown_drew HG41.out
    refine' wpAnyH_take (i := 0) (oi := { dst := some 18, op := Op.load 27 (Operand.tmp 4), type := 27, pos := "law.go:59", after := #[], guard := none }) (v := _) rfl (by kernel_rfl) (by kernel_rfl) (by kernel_rfl) (fun _ _ _ h => h) (yieldsIf_load_mid (by rfl) _ _ rfl gv23 0 rfl (csi) _ (fun w' hs => range_blk hs.2.2.1) Tryd.underlying27 rfl (fe_size' (H.len HV.out))) (by assumption) ?qz27
    try simp only [Act.put, List.setIfInBounds_toArray, List.set_cons_zero, List.set_cons_succ]
    refine' wpAnyH_take (i := 2) (oi := { dst := some 20, op := Op.load 22 (Operand.tmp 1), type := 22, pos := "law.go:59", after := #[], guard := none }) (v := _) rfl (by kernel_rfl) (by kernel_rfl) (by kernel_rfl) (fun _ _ _ h => h) (yieldsIf_load_mid (by rfl) _ _ rfl gb2 0 rfl (u8s (k32 k)) _ (fun w' hs => range_blk hs.1) Tryd.underlying22 rfl (k32_size' _)) (by assumption) ?qz28
    try simp only [Act.put, List.setIfInBounds_toArray, List.set_cons_zero, List.set_cons_succ]
    refine wpAnyH_ready (rs := [1]) (by kernel_rfl) (by simp) ?_
    refine AllReadyH.cons (o := { dst := some 19, op := Op.call { callee := Callee.value (Operand.func 8), args := #[Operand.tmp 18], argTypes := #[27] }, type := 22, pos := "law.go:59", after := #[{ on := 0, ground := Ground.data }], guard := none }) rfl (fun K hK => ?_) AllReadyH.nil
    rw [if_pos (by rfl)]
    go_simp
    with_reducible refine (H.bytes _ HV.out).mono ?_
    rintro _ wz29 ⟨rfl, hgz30⟩
    have hwz31 := World.grownBy.trans hw0_ hgz30
    refine hK.out _ _ ⟨hHeld.1.grown hgz30 (by simp), hHeld.2.1.grown hgz30 (by simp), hHeld.2.2.1.grown hgz30 (by simp), hHeld.2.2.2.grown hgz30 (by simp)⟩ (fun hHeld => ?_)
    clear hK K
    try simp only [Act.put, List.setIfInBounds_toArray, List.set_cons_zero, List.set_cons_succ]
    refine wpAnyH_ready (rs := [3]) (by kernel_rfl) (by simp) ?_
    refine AllReadyH.cons (o := { dst := some 21, op := Op.call { callee := Callee.value (Operand.func 11), args := #[Operand.tmp 20], argTypes := #[22] }, type := 31, pos := "law.go:59", after := #[{ on := 2, ground := Ground.data }, { on := 1, ground := Ground.chain }], guard := none }) rfl (fun K hK => ?_) AllReadyH.nil
    rw [if_pos (by rfl)]
    go_simp
    with_reducible refine (of_val _ k).mono ?_
    rintro _ wz32 ⟨rfl, hgz33⟩
    have hwz34 := World.grownBy.trans hwz31 hgz33
    refine hK.out _ _ ⟨hHeld.1.grown hgz33 (by simp), hHeld.2.1.grown hgz33 (by simp), hHeld.2.2.1.grown hgz33 (by simp), hHeld.2.2.2.grown hgz33 (by simp)⟩ (fun hHeld => ?_)
    clear hK K
    try simp only [Act.put, List.setIfInBounds_toArray, List.set_cons_zero, List.set_cons_succ]
    refine wpAnyH_ready (rs := [4]) (by kernel_rfl) (by simp) ?_
    refine AllReadyH.cons (o := { dst := some 22, op := Op.call { callee := Callee.value (Operand.func 13), args := #[Operand.tmp 21], argTypes := #[31] }, type := 31, pos := "law.go:59", after := #[{ on := 3, ground := Ground.data }, { on := 3, ground := Ground.chain }], guard := none }) rfl (fun K hK => ?_) AllReadyH.nil
    rw [if_pos (by rfl)]
    go_simp
    with_reducible refine (HRF.out _).mono ?_
    rintro _ wz35 ⟨rfl, hgz36⟩
    have hwz37 := World.grownBy.trans hwz34 hgz36
    refine hK.out _ _ ⟨hHeld.1.grown hgz36 (by simp), hHeld.2.1.grown hgz36 (by simp), hHeld.2.2.1.grown hgz36 (by simp), hHeld.2.2.2.grown hgz36 (by simp)⟩ (fun hHeld => ?_)
    clear hK K
    try simp only [Act.put, List.setIfInBounds_toArray, List.set_cons_zero, List.set_cons_succ]
    refine wpAnyH_ready (rs := [5]) (by kernel_rfl) (by simp) ?_
    refine AllReadyH.cons (o := { dst := some 23, op := Op.call { callee := Callee.value (Operand.func 10), args := #[Operand.tmp 22], argTypes := #[31] }, type := 22, pos := "law.go:59", after := #[{ on := 4, ground := Ground.data }, { on := 4, ground := Ground.chain }], guard := none }) rfl (fun K hK => ?_) AllReadyH.nil
    rw [if_pos (by rfl)]
    go_simp
    with_reducible refine (bytes_any _ v).mono ?_
    rintro _ wz38 ⟨rfl, hgz39⟩
    have hwz40 := World.grownBy.trans hwz37 hgz39
    refine hK.out _ _ ⟨hHeld.1.grown hgz39 (by simp), hHeld.2.1.grown hgz39 (by simp), hHeld.2.2.1.grown hgz39 (by simp), hHeld.2.2.2.grown hgz39 (by simp)⟩ (fun hHeld => ?_)
    clear hK K
    try simp only [Act.put, List.setIfInBounds_toArray, List.set_cons_zero, List.set_cons_succ]
    refine' wpAnyH_take (i := 6) (oi := { dst := some 24, op := Op.binOp BinOp.eql 22 (Operand.tmp 19) (Operand.tmp 23) 22, type := 4, pos := "law.go:59", after := #[{ on := 1, ground := Ground.data }, { on := 5, ground := Ground.data }], guard := none }) (v := .bool true) rfl (by kernel_rfl) (by kernel_rfl) (by kernel_rfl) (fun _ _ _ h => h) (yieldsIf_eql22 (by rfl) _ _ rfl rfl rfl (same32 _)) (by assumption) ?qz41
    try simp only [Act.put, List.setIfInBounds_toArray, List.set_cons_zero, List.set_cons_succ]
    refine' wpAnyH_take (i := 7) (oi := { dst := some 25, op := Op.move (Operand.tmp 24), type := 4, pos := "law.go:59", after := #[{ on := 6, ground := Ground.data }, { on := 5, ground := Ground.chain }], guard := none }) (v := .bool true) rfl (by kernel_rfl) (by kernel_rfl) (by kernel_rfl) (fun _ _ _ h => h) (.inl ⟨by rfl, fun _ _ => rfl⟩) (by assumption) ?qz42
    try simp only [Act.put, List.setIfInBounds_toArray, List.set_cons_zero, List.set_cons_succ]
    refine' wpAnyH_take (i := 8) (oi := { dst := some 26, op := Op.load 27 (Operand.tmp 3), type := 27, pos := "law.go:59", after := #[{ on := 7, ground := Ground.guard }], guard := some (7, true) }) (v := _) rfl (by kernel_rfl) (by kernel_rfl) (by kernel_rfl) (fun _ _ _ h => h) (yieldsIf_load_mid (by rfl) _ _ rfl gv13 0 rfl (cs) _ (fun w' hs => range_blk hs.2.1) Tryd.underlying27 rfl (fe_size' (H.len HF.out))) (by assumption) ?qz43
    try simp only [Act.put, List.setIfInBounds_toArray, List.set_cons_zero, List.set_cons_succ]
    refine' wpAnyH_take (i := 9) (oi := { dst := some 27, op := Op.load 27 (Operand.tmp 4), type := 27, pos := "law.go:59", after := #[{ on := 7, ground := Ground.guard }], guard := some (7, true) }) (v := _) rfl (by kernel_rfl) (by kernel_rfl) (by kernel_rfl) (fun _ _ _ h => h) (yieldsIf_load_mid (by rfl) _ _ rfl gv23 0 rfl (csi) _ (fun w' hs => range_blk hs.2.2.1) Tryd.underlying27 rfl (fe_size' (H.len HV.out))) (by assumption) ?qz44
    try simp only [Act.put, List.setIfInBounds_toArray, List.set_cons_zero, List.set_cons_succ]
    refine' wpAnyH_take (i := 12) (oi := { dst := some 30, op := Op.load 22 (Operand.tmp 5), type := 22, pos := "law.go:59", after := #[{ on := 7, ground := Ground.guard }], guard := some (7, true) }) (v := _) rfl (by kernel_rfl) (by kernel_rfl) (by kernel_rfl) (fun _ _ _ h => h) (yieldsIf_load_mid (by rfl) _ _ rfl gv30 0 rfl (u8s (k32 (bt 1))) _ (fun w' hs => range_blk hs.2.2.2) Tryd.underlying22 rfl (k32_size' _)) (by assumption) ?qz45
    try simp only [Act.put, List.setIfInBounds_toArray, List.set_cons_zero, List.set_cons_succ]
    refine wpAnyH_ready (rs := [10]) (by kernel_rfl) (by simp) ?_
    refine AllReadyH.cons (o := { dst := some 28, op := Op.call { callee := Callee.value (Operand.func 14), args := #[Operand.tmp 26, Operand.tmp 27], argTypes := #[27, 27] }, type := 27, pos := "law.go:59", after := #[{ on := 8, ground := Ground.data }, { on := 9, ground := Ground.data }, { on := 7, ground := Ground.chain }, { on := 7, ground := Ground.guard }], guard := some (7, true) }) rfl (fun K hK => ?_) AllReadyH.nil
    rw [if_pos (by rfl)]
    go_simp
    with_reducible refine (HP.out _ _ _ HF.out HV.out).mono ?_
    rintro _ wz46 ⟨csm, hm, rfl, hgz47⟩
    have HM := Lib.hid hm
    clear hm
    have hwz48 := World.grownBy.trans hwz40 hgz47
    refine hK.out _ _ ⟨hHeld.1.grown hgz47 (by simp), hHeld.2.1.grown hgz47 (by simp), hHeld.2.2.1.grown hgz47 (by simp), hHeld.2.2.2.grown hgz47 (by simp)⟩ (fun hHeld => ?_)
    clear hK K
    try simp only [Act.put, List.setIfInBounds_toArray, List.set_cons_zero, List.set_cons_succ]
    refine wpAnyH_ready (rs := [11]) (by kernel_rfl) (by simp) ?_
    refine AllReadyH.cons (o := { dst := some 29, op := Op.call { callee := Callee.value (Operand.func 8), args := #[Operand.tmp 28], argTypes := #[27] }, type := 22, pos := "law.go:59", after := #[{ on := 10, ground := Ground.data }, { on := 10, ground := Ground.chain }, { on := 7, ground := Ground.guard }], guard := some (7, true) }) rfl (fun K hK => ?_) AllReadyH.nil
    rw [if_pos (by rfl)]
    go_simp
    with_reducible refine (H.bytes _ HM.out).mono ?_
    rintro _ wz49 ⟨rfl, hgz50⟩
    have hwz51 := World.grownBy.trans hwz48 hgz50
    refine hK.out _ _ ⟨hHeld.1.grown hgz50 (by simp), hHeld.2.1.grown hgz50 (by simp), hHeld.2.2.1.grown hgz50 (by simp), hHeld.2.2.2.grown hgz50 (by simp)⟩ (fun hHeld => ?_)
    clear hK K
    try simp only [Act.put, List.setIfInBounds_toArray, List.set_cons_zero, List.set_cons_succ]
    refine' wpAnyH_take (i := 13) (oi := { dst := some 31, op := Op.binOp BinOp.eql 22 (Operand.tmp 29) (Operand.tmp 30) 22, type := 4, pos := "law.go:59", after := #[{ on := 11, ground := Ground.data }, { on := 12, ground := Ground.data }, { on := 7, ground := Ground.guard }], guard := some (7, true) }) (v := .bool true) rfl (by kernel_rfl) (by kernel_rfl) (by kernel_rfl) (fun _ _ _ h => h) (yieldsIf_eql22 (by rfl) _ _ rfl rfl rfl (same32 _)) (by assumption) ?qz52
    try simp only [Act.put, List.setIfInBounds_toArray, List.set_cons_zero, List.set_cons_succ]
    refine wpAnyH_ready (rs := [14]) (by kernel_rfl) (by simp) ?_
    refine AllReadyH.cons (o := { dst := some 32, op := Op.pick (Operand.tmp 25) (Operand.tmp 31) (Operand.const (Value.bool false)), type := 4, pos := "law.go:59", after := #[{ on := 7, ground := Ground.data }, { on := 13, ground := Ground.data }], guard := none }) rfl (fun K hK => ?_) AllReadyH.nil
    rw [if_pos (by rfl)]
    go_simp
    refine hK.out _ _ hHeld (fun hHeld => ?_)
    clear hK K
    try simp only [Act.put, List.setIfInBounds_toArray, List.set_cons_zero, List.set_cons_succ]
    refine wpAnyH_ready (rs := [15]) (by kernel_rfl) (by simp) ?_
    refine AllReadyH.cons (o := { dst := some 2, op := Op.assign (Operand.tmp 32), type := 4, pos := "law.go:59", after := #[{ on := 14, ground := Ground.data }, { on := 11, ground := Ground.chain }, { on := 0, ground := Ground.phase }, { on := 1, ground := Ground.phase }, { on := 2, ground := Ground.phase }, { on := 3, ground := Ground.phase }, { on := 4, ground := Ground.phase }, { on := 5, ground := Ground.phase }, { on := 6, ground := Ground.phase }, { on := 7, ground := Ground.phase }, { on := 8, ground := Ground.phase }, { on := 9, ground := Ground.phase }, { on := 10, ground := Ground.phase }, { on := 11, ground := Ground.phase }, { on := 12, ground := Ground.phase }, { on := 13, ground := Ground.phase }, { on := 14, ground := Ground.phase }], guard := none }) rfl (fun K hK => ?_) AllReadyH.nil
    rw [if_pos (by rfl)]
    go_simp
    refine hK.out _ _ hHeld (fun hHeld => ?_)
    clear hK K
    try simp only [Act.put, List.setIfInBounds_toArray, List.set_cons_zero, List.set_cons_succ]
    refine wpAnyH_done (by kernel_rfl) ?_ _
    go_wp2_with (fail)
    go_ret
    exact ⟨rfl, hwz51⟩
theorem fieldInverts_walk {Fe : List Value → Nat → Prop} (H : FeSays Fe) {w : World} (ht : Tab w) (k : Fin 32 → UInt8) : Calls Tryd.prog 4 #[.agg (u8s (k32 k)).toArray] w fun e w' => e = .returned (.bool true) ∧ w.grownBy w' none := by
  have hx := val_lt k
  have h1 := fun (x : Nat) (h0 : x ≠ 0) (h : x < fq) => iv_mul h0 h
  have h2 := iv_zero
  have h3 := bt_eq hx (show 0 < fq from fq_pos)
  refine fieldInverts_walk0 H ht k (iv (val k)) (val k * iv (val k) % fq) (fun w cs h => H.inv w h) (fun w cs ds h h' => H.mul w h h') (fun w => inv_ref w _ hx) ?_ ?_
  · rw [h3]
    by_cases h : val k = 0
    · rw [h, h2]
    · rw [h1 _ h hx, decide_eq_false h]; rfl
  · intro h
    by_cases h4 : val k = 0
    · rw [h4, h2] at h; exact absurd rfl h
    · exact h1 _ h4 hx
end Go.Proofs.YtoookolekpblhaaDoor
