/- FieldBytes: any bytes say the number; its bytes are of the one below p. Conditions: what is asked of the code. -/
import Derived.Test.YtoookolekpblhaaDoorAli7
namespace Go.Proofs.YtoookolekpblhaaDoor
open Go.RowKit
theorem of_val (w : World) (k : Fin 32 → UInt8) : Calls Tryd.prog 11 #[.agg (u8s (k32 k)).toArray] w fun e w' => e = .returned (.agg (num (dgt (val k))).toArray) ∧ w.grownBy w' none := of_any w k
set_option maxRecDepth 100000 in
set_option maxHeartbeats 3200000 in
theorem fieldBytes_walk {Fe : List Value → Nat → Prop} (H : FeSays Fe) {w : World} (ht : Tab w) (k : Fin 32 → UInt8) : Calls Tryd.prog 3 #[.agg (u8s (k32 k)).toArray] w fun e w' => e = .returned (.bool true) ∧ w.grownBy w' none := by
  have hvb := val_bt (val_lt k)
  have HVB := Lib.hid hvb
  clear hvb
  have HT := Lib.hid ht
  clear ht
  go_enter Tryd.func3, Tryd.ntmps3
  go_wp2_with (first
    | (with_reducible refine wpList_box22 rfl _ k rfl rfl ?_
       intro wb1 hb_ hg_ hz_
       obtain ⟨gb2, hge_⟩ : ∃ g, g = w.heap.size := ⟨_, rfl⟩
       rw [← hge_] at hb_ ⊢
       have HB3 := Lib.hid hb_
       have HG4 : Hid (w.grownBy wb1 none) := Lib.hid hg_
       clear hb_ hg_ hz_ hge_)
    | (go_at_call 7
       with_reducible refine (alive_any H (HT.out.more HG4.out)).mono ?_
       rintro _ wc5 ⟨rfl, hg_⟩
       have HB6 := Lib.hid (HB3.out.grown hg_ (by simp))
       have HG7 : Hid (w.grownBy wc5 none) := Lib.hid (World.grownBy.trans HG4.out hg_)
       clear hg_)
    | (refine wpList_yields (S := fun w' => w' = wc5) (yieldsIf_load_mid (by rfl) _ _ rfl gb2 0 rfl (u8s (k32 k)) _ (fun w' hs => by rw [hs]; exact range_blk HB6.out) Tryd.underlying22 rfl (k32_size' _)) rfl ?_
  )
    | (go_at_call 9
       with_reducible refine (H.of _ k).mono ?_
       rintro _ wc8 ⟨cs, hf, rfl, hg_⟩
       have HF := Lib.hid hf
       clear hf
       have HB9 := Lib.hid (HB6.out.grown hg_ (by simp))
       have HG10 : Hid (w.grownBy wc8 none) := Lib.hid (World.grownBy.trans HG7.out hg_)
       clear hg_)
    | (go_at_call 8
       with_reducible refine (H.bytes _ HF.out).mono ?_
       rintro _ wc11 ⟨rfl, hg_⟩
       have HB12 := Lib.hid (HB9.out.grown hg_ (by simp))
       have HG13 : Hid (w.grownBy wc11 none) := Lib.hid (World.grownBy.trans HG10.out hg_)
       clear hg_)
    | (refine wpList_alloc22 rfl rfl ?_
       intro wa14 hb_ hg_ hz_
       obtain ⟨gv16, hge_⟩ : ∃ g, g = wc11.heap.size := ⟨_, rfl⟩
       rw [← hge_] at hb_ ⊢
       have HOwa14 := Lib.hid hb_
       have HAwa14 := Lib.hid hg_
       have HLwa14 : Hid (wc11.heap.size ≤ gv16) := Lib.hid (by omega)
       clear hb_ hg_ hz_ hge_)
    | (refine wpList_store_row rfl 22 _ _ rfl gv16 (u8s (k32 (bt (val k)))).toArray rfl rfl 22 _ HOwa14.out (k32_size _) (k32_same _ _) (all_oneCell_toArray (u8s_one _)) ?_
       obtain ⟨ws15, hws_⟩ : ∃ w', w' = wa14.setRow gv16 (u8s (k32 (bt (val k)))).toArray := ⟨_, rfl⟩
       have hs_ : wa14.grownBy ws15 (some gv16) := by rw [hws_]; exact grown_setRow _ _ _
       have hl_ : Blk ws15 gv16 22 (u8s (k32 (bt (val k)))) := by rw [hws_]; exact Blk.setRow HOwa14.out
       rw [← hws_]
       have hg_ : wc11.grownBy ws15 none := World.grownBy.andThen HAwa14.out hs_ (by rintro _ ⟨⟩; exact .inl HLwa14.out)
       have HB17 := Lib.hid hl_
       have HB18 := Lib.hid (HB12.out.grown hg_ (by simp))
       have HG19 : Hid (w.grownBy ws15 none) := Lib.hid (World.grownBy.trans HG13.out hg_)
       clear hws_ hs_ hl_ hg_)
    | fail)
  refine wp_region_held_drew (S := fun w' => Blk w' gb2 22 (u8s (k32 k)) ∧ Blk w' gv16 22 (u8s (k32 (bt (val k))))) (by kernel_rfl) ⟨HB18.out.keep rfl, HB17.out.keep rfl⟩ (fun hHeld => ?_)
  have hw0_ := grown_drew HG19.out
  refine' wpAnyH_take (i := 0) (oi := { dst := some 9, op := Op.load 22 (Operand.tmp 3), type := 22, pos := "law.go:23", after := #[], guard := none }) (v := _) rfl (by kernel_rfl) (by kernel_rfl) (by kernel_rfl) (fun _ _ _ h => h) (yieldsIf_load_mid (by rfl) _ _ rfl gv16 0 rfl (u8s (k32 (bt (val k)))) _ (fun w' hs => range_blk hs.2) Tryd.underlying22 rfl (k32_size' _)) (by assumption) ?qz1
  try simp only [Act.put, List.setIfInBounds_toArray, List.set_cons_zero, List.set_cons_succ]
  refine' wpAnyH_take (i := 1) (oi := { dst := some 10, op := Op.load 22 (Operand.tmp 1), type := 22, pos := "law.go:23", after := #[], guard := none }) (v := _) rfl (by kernel_rfl) (by kernel_rfl) (by kernel_rfl) (fun _ _ _ h => h) (yieldsIf_load_mid (by rfl) _ _ rfl gb2 0 rfl (u8s (k32 k)) _ (fun w' hs => range_blk hs.1) Tryd.underlying22 rfl (k32_size' _)) (by assumption) ?qz2
  try simp only [Act.put, List.setIfInBounds_toArray, List.set_cons_zero, List.set_cons_succ]
  refine wpAnyH_ready (rs := [2]) (by kernel_rfl) (by simp) ?_
  refine AllReadyH.cons (o := { dst := some 11, op := Op.call { callee := Callee.value (Operand.func 11), args := #[Operand.tmp 10], argTypes := #[22] }, type := 31, pos := "law.go:23", after := #[{ on := 1, ground := Ground.data }], guard := none }) rfl (fun K hK => ?_) AllReadyH.nil
  rw [if_pos (by rfl)]
  go_simp
  with_reducible refine (of_val _ k).mono ?_
  rintro _ wz3 ⟨rfl, hgz4⟩
  have hwz5 := World.grownBy.trans hw0_ hgz4
  refine hK.out _ _ ⟨hHeld.1.grown hgz4 (by simp), hHeld.2.grown hgz4 (by simp)⟩ (fun hHeld => ?_)
  clear hK K
  try simp only [Act.put, List.setIfInBounds_toArray, List.set_cons_zero, List.set_cons_succ]
  refine wpAnyH_ready (rs := [3]) (by kernel_rfl) (by simp) ?_
  refine AllReadyH.cons (o := { dst := some 12, op := Op.call { callee := Callee.value (Operand.func 10), args := #[Operand.tmp 11], argTypes := #[31] }, type := 22, pos := "law.go:23", after := #[{ on := 2, ground := Ground.data }, { on := 2, ground := Ground.chain }], guard := none }) rfl (fun K hK => ?_) AllReadyH.nil
  rw [if_pos (by rfl)]
  go_simp
  with_reducible refine (bytes_any _ (val k)).mono ?_
  rintro _ wz6 ⟨rfl, hgz7⟩
  have hwz8 := World.grownBy.trans hwz5 hgz7
  refine hK.out _ _ ⟨hHeld.1.grown hgz7 (by simp), hHeld.2.grown hgz7 (by simp)⟩ (fun hHeld => ?_)
  clear hK K
  try simp only [Act.put, List.setIfInBounds_toArray, List.set_cons_zero, List.set_cons_succ]
  refine' wpAnyH_take (i := 4) (oi := { dst := some 13, op := Op.binOp BinOp.eql 22 (Operand.tmp 9) (Operand.tmp 12) 22, type := 4, pos := "law.go:23", after := #[{ on := 0, ground := Ground.data }, { on := 3, ground := Ground.data }], guard := none }) (v := .bool true) rfl (by kernel_rfl) (by kernel_rfl) (by kernel_rfl) (fun _ _ _ h => h) (yieldsIf_eql22 (by rfl) _ _ rfl rfl rfl (same32 _)) (by assumption) ?qz9
  try simp only [Act.put, List.setIfInBounds_toArray, List.set_cons_zero, List.set_cons_succ]
  refine' wpAnyH_take (i := 5) (oi := { dst := some 14, op := Op.move (Operand.tmp 13), type := 4, pos := "law.go:23", after := #[{ on := 4, ground := Ground.data }, { on := 3, ground := Ground.chain }], guard := none }) (v := .bool true) rfl (by kernel_rfl) (by kernel_rfl) (by kernel_rfl) (fun _ _ _ h => h) (.inl ⟨by rfl, fun _ _ => rfl⟩) (by assumption) ?qz10
  try simp only [Act.put, List.setIfInBounds_toArray, List.set_cons_zero, List.set_cons_succ]
  refine' wpAnyH_take (i := 6) (oi := { dst := some 15, op := Op.load 22 (Operand.tmp 3), type := 22, pos := "law.go:23", after := #[{ on := 5, ground := Ground.guard }], guard := some (5, true) }) (v := _) rfl (by kernel_rfl) (by kernel_rfl) (by kernel_rfl) (fun _ _ _ h => h) (yieldsIf_load_mid (by rfl) _ _ rfl gv16 0 rfl (u8s (k32 (bt (val k)))) _ (fun w' hs => range_blk hs.2) Tryd.underlying22 rfl (k32_size' _)) (by assumption) ?qz11
  try simp only [Act.put, List.setIfInBounds_toArray, List.set_cons_zero, List.set_cons_succ]
  refine' wpAnyH_take (i := 9) (oi := { dst := some 18, op := Op.load 22 (Operand.tmp 3), type := 22, pos := "law.go:23", after := #[{ on := 5, ground := Ground.guard }], guard := some (5, true) }) (v := _) rfl (by kernel_rfl) (by kernel_rfl) (by kernel_rfl) (fun _ _ _ h => h) (yieldsIf_load_mid (by rfl) _ _ rfl gv16 0 rfl (u8s (k32 (bt (val k)))) _ (fun w' hs => range_blk hs.2) Tryd.underlying22 rfl (k32_size' _)) (by assumption) ?qz12
  try simp only [Act.put, List.setIfInBounds_toArray, List.set_cons_zero, List.set_cons_succ]
  refine wpAnyH_ready (rs := [7]) (by kernel_rfl) (by simp) ?_
  refine AllReadyH.cons (o := { dst := some 16, op := Op.call { callee := Callee.value (Operand.func 9), args := #[Operand.tmp 15], argTypes := #[22] }, type := 27, pos := "law.go:23", after := #[{ on := 6, ground := Ground.data }, { on := 5, ground := Ground.chain }, { on := 5, ground := Ground.guard }], guard := some (5, true) }) rfl (fun K hK => ?_) AllReadyH.nil
  rw [if_pos (by rfl)]
  go_simp
  with_reducible refine (H.of _ (bt (val k))).mono ?_
  rintro _ wz13 ⟨cs2, hf2, rfl, hgz14⟩
  rw [HVB.out] at hf2
  have HF2 := Lib.hid hf2
  clear hf2
  have hwz15 := World.grownBy.trans hwz8 hgz14
  refine hK.out _ _ ⟨hHeld.1.grown hgz14 (by simp), hHeld.2.grown hgz14 (by simp)⟩ (fun hHeld => ?_)
  clear hK K
  try simp only [Act.put, List.setIfInBounds_toArray, List.set_cons_zero, List.set_cons_succ]
  refine wpAnyH_ready (rs := [8]) (by kernel_rfl) (by simp) ?_
  refine AllReadyH.cons (o := { dst := some 17, op := Op.call { callee := Callee.value (Operand.func 8), args := #[Operand.tmp 16], argTypes := #[27] }, type := 22, pos := "law.go:23", after := #[{ on := 7, ground := Ground.data }, { on := 7, ground := Ground.chain }, { on := 5, ground := Ground.guard }], guard := some (5, true) }) rfl (fun K hK => ?_) AllReadyH.nil
  rw [if_pos (by rfl)]
  go_simp
  with_reducible refine (H.bytes _ HF2.out).mono ?_
  rintro _ wz16 ⟨rfl, hgz17⟩
  have hwz18 := World.grownBy.trans hwz15 hgz17
  refine hK.out _ _ ⟨hHeld.1.grown hgz17 (by simp), hHeld.2.grown hgz17 (by simp)⟩ (fun hHeld => ?_)
  clear hK K
  try simp only [Act.put, List.setIfInBounds_toArray, List.set_cons_zero, List.set_cons_succ]
  refine' wpAnyH_take (i := 10) (oi := { dst := some 19, op := Op.binOp BinOp.eql 22 (Operand.tmp 17) (Operand.tmp 18) 22, type := 4, pos := "law.go:23", after := #[{ on := 8, ground := Ground.data }, { on := 9, ground := Ground.data }, { on := 5, ground := Ground.guard }], guard := some (5, true) }) (v := .bool true) rfl (by kernel_rfl) (by kernel_rfl) (by kernel_rfl) (fun _ _ _ h => h) (yieldsIf_eql22 (by rfl) _ _ rfl rfl rfl (same32 _)) (by assumption) ?qz19
  try simp only [Act.put, List.setIfInBounds_toArray, List.set_cons_zero, List.set_cons_succ]
  refine wpAnyH_ready (rs := [11]) (by kernel_rfl) (by simp) ?_
  refine AllReadyH.cons (o := { dst := some 20, op := Op.pick (Operand.tmp 14) (Operand.tmp 19) (Operand.const (Value.bool false)), type := 4, pos := "law.go:23", after := #[{ on := 5, ground := Ground.data }, { on := 10, ground := Ground.data }], guard := none }) rfl (fun K hK => ?_) AllReadyH.nil
  rw [if_pos (by rfl)]
  go_simp
  refine hK.out _ _ hHeld (fun hHeld => ?_)
  clear hK K
  try simp only [Act.put, List.setIfInBounds_toArray, List.set_cons_zero, List.set_cons_succ]
  refine wpAnyH_ready (rs := [12]) (by kernel_rfl) (by simp) ?_
  refine AllReadyH.cons (o := { dst := some 2, op := Op.assign (Operand.tmp 20), type := 4, pos := "law.go:23", after := #[{ on := 11, ground := Ground.data }, { on := 8, ground := Ground.chain }, { on := 0, ground := Ground.phase }, { on := 1, ground := Ground.phase }, { on := 2, ground := Ground.phase }, { on := 3, ground := Ground.phase }, { on := 4, ground := Ground.phase }, { on := 5, ground := Ground.phase }, { on := 6, ground := Ground.phase }, { on := 7, ground := Ground.phase }, { on := 8, ground := Ground.phase }, { on := 9, ground := Ground.phase }, { on := 10, ground := Ground.phase }, { on := 11, ground := Ground.phase }], guard := none }) rfl (fun K hK => ?_) AllReadyH.nil
  rw [if_pos (by rfl)]
  go_simp
  refine hK.out _ _ hHeld (fun hHeld => ?_)
  clear hK K
  try simp only [Act.put, List.setIfInBounds_toArray, List.set_cons_zero, List.set_cons_succ]
  refine wpAnyH_done (by kernel_rfl) ?_ _
  go_wp2_with (fail)
  go_ret
  exact ⟨rfl, hwz18⟩
end Go.Proofs.YtoookolekpblhaaDoor
