/- FieldRoots: the root is the document's, or there is none. Conditions: what is asked of the code. -/
import Derived.Test.YtoookolekpblhaaDoorFby
namespace Go.Proofs.YtoookolekpblhaaDoor
open Go.RowKit
def rootD (a : Nat) : Nat := (rootN a).getD 0
def rootIs (a : Nat) : Bool := (rootN a).isSome
theorem root_got {Fe : List Value → Nat → Prop} (H : FeSays Fe) {w : World} (ht : Tab w) {cs : List Value} {x : Nat} (h : Fe cs x) : Calls Tryd.prog 15 #[.agg cs.toArray] w fun e w' => ∃ es, Fe es (rootD x) ∧ e = .returned (.tuple #[.agg es.toArray, .bool (rootIs x)]) ∧ w.grownBy w' none := by
  refine (H.root ht h).mono ?_
  rintro _ w' ⟨es, ok, hr, rfl, hg⟩
  unfold rootD rootIs
  rcases hr with ⟨h1, rfl, h3⟩ | ⟨s, h1, rfl, h3⟩
  · rw [h1]; exact ⟨es, h3, rfl, hg⟩
  · rw [h1]; exact ⟨es, h3, rfl, hg⟩
theorem root_val (w : World) (k : Fin 32 → UInt8) : Calls Tryd.prog 16 #[.agg (num (dgt (val k))).toArray] w fun e w' => e = .returned (.tuple #[.agg (num (dgt (rootD (val k)))).toArray, .bool (rootIs (val k))]) ∧ w.grownBy w' none := by
  refine (root_ref w (val k) (val_lt k)).mono ?_
  rintro e w' ⟨hg, hr⟩
  unfold rootD rootIs
  rcases hr with ⟨h1, h2⟩ | ⟨s, h1, h2⟩
  · rw [h1]; exact ⟨h2, hg⟩
  · rw [h1]; exact ⟨h2, hg⟩
theorem yieldsIf_eqlb {ops : Array Oper} {o : Oper} {a : Act} {S : World → Prop} (hw : Region.wanted o (yielded ops a.tmps) = true) (x y : Operand) (ho : o.op = .binOp .eql 4 x y 4) {b : Bool} (hx : a.eval x = .bool b) (hy : a.eval y = .bool b) : YieldsIf Tryd.prog ops S o (.bool true) a :=
  .inl ⟨hw, fun w _ => by
    unfold execOp
    simp only [ho, hx, hy]
    cases b <;> kernel_rfl⟩
set_option maxRecDepth 100000 in
set_option maxHeartbeats 3200000 in
theorem fieldRoots_walk {Fe : List Value → Nat → Prop} (H : FeSays Fe) {w : World} (ht : Tab w) (k : Fin 32 → UInt8) : Calls Tryd.prog 5 #[.agg (u8s (k32 k)).toArray] w fun e w' => e = .returned (.bool true) ∧ w.grownBy w' none := by
  have HT := Lib.hid ht
  clear ht
  go_enter Tryd.func5, Tryd.ntmps5
  go_wp2_with (first
    | (with_reducible refine wpList_box22 rfl _ k rfl rfl ?_
       intro wb1 hb_ hg_ hz_
       obtain ⟨gb2, hge_⟩ : ∃ g, g = w.heap.size := ⟨_, rfl⟩
       rw [← hge_] at hb_ ⊢
       have HB3 := Lib.hid hb_
       have HG4 : Hid (w.grownBy wb1 none) := Lib.hid hg_
       clear hb_ hg_ hz_ hge_)
    | (go_at_call 7
       with_reducible refine (alive_any H (HT.out.more HG4.out)).mono ?_
       rintro _ wc5 ⟨rfl, hg_⟩
       have HB6 := Lib.hid (HB3.out.grown hg_ (by simp))
       have HG7 : Hid (w.grownBy wc5 none) := Lib.hid (World.grownBy.trans HG4.out hg_)
       clear hg_)
    | (refine wpList_yields (S := fun w' => w' = wc5) (yieldsIf_load_mid (by rfl) _ _ rfl gb2 0 rfl (u8s (k32 k)) _ (fun w' hs => by rw [hs]; exact range_blk HB6.out) Tryd.underlying22 rfl (k32_size' _)) rfl ?_
  )
    | (go_at_call 9
       with_reducible refine (H.of _ k).mono ?_
       rintro _ wc8 ⟨cs, hf, rfl, hg_⟩
       have HF := Lib.hid hf
       clear hf
       have HB9 := Lib.hid (HB6.out.grown hg_ (by simp))
       have HG10 : Hid (w.grownBy wc8 none) := Lib.hid (World.grownBy.trans HG7.out hg_)
       clear hg_)
    | (go_at_call 15
       with_reducible refine (root_got H (HT.out.more HG10.out) HF.out).mono ?_
       rintro _ wc11 ⟨csr, hrt, rfl, hg_⟩
       have HR := Lib.hid hrt
       clear hrt
       have HB12 := Lib.hid (HB9.out.grown hg_ (by simp))
       have HG13 : Hid (w.grownBy wc11 none) := Lib.hid (World.grownBy.trans HG10.out hg_)
       clear hg_)
    | (refine wpList_alloc28 rfl rfl ?_
       intro wa14 hb_ hg_ hz_
       obtain ⟨gv16, hge_⟩ : ∃ g, g = wc11.heap.size := ⟨_, rfl⟩
       rw [← hge_] at hb_ ⊢
       have HOwa14 := Lib.hid hb_
       have HAwa14 := Lib.hid hg_
       have HLwa14 : Hid (wc11.heap.size ≤ gv16) := Lib.hid (by omega)
       clear hb_ hg_ hz_ hge_)
    | (refine wpList_store_row rfl 27 _ _ rfl gv16 (csr).toArray rfl rfl 27 _ HOwa14.out (fe_size (H.len HR.out)) ((fe_same (H.len HR.out)).symm) (all_oneCell_toArray (H.one HR.out)) ?_
       obtain ⟨ws15, hws_⟩ : ∃ w', w' = wa14.setRow gv16 (csr).toArray := ⟨_, rfl⟩
       have hs_ : wa14.grownBy ws15 (some gv16) := by rw [hws_]; exact grown_setRow _ _ _
       have hl_ : Blk ws15 gv16 27 (csr) := by rw [hws_]; exact Blk.setRow HOwa14.out
       rw [← hws_]
       have hg_ : wc11.grownBy ws15 none := World.grownBy.andThen HAwa14.out hs_ (by rintro _ ⟨⟩; exact .inl HLwa14.out)
       have HB17 := Lib.hid hl_
       have HB18 := Lib.hid (HB12.out.grown hg_ (by simp))
       have HG19 : Hid (w.grownBy ws15 none) := Lib.hid (World.grownBy.trans HG13.out hg_)
       clear hws_ hs_ hl_ hg_)
    | (refine wpList_yields (S := fun w' => w' = ws15) (yieldsIf_load_mid (by rfl) _ _ rfl gb2 0 rfl (u8s (k32 k)) _ (fun w' hs => by rw [hs]; exact range_blk HB18.out) Tryd.underlying22 rfl (k32_size' _)) rfl ?_
  )
    | (go_at_call 11
       with_reducible refine (of_val _ k).mono ?_
       rintro _ wc20 ⟨rfl, hg_⟩
       have HB21 := Lib.hid (HB18.out.grown hg_ (by simp))
       have HB22 := Lib.hid (HB17.out.grown hg_ (by simp))
       have HG23 : Hid (w.grownBy wc20 none) := Lib.hid (World.grownBy.trans HG19.out hg_)
       clear hg_)
    | (go_at_call 16
       with_reducible refine (root_val _ k).mono ?_
       rintro _ wc24 ⟨rfl, hg_⟩
       have HB25 := Lib.hid (HB21.out.grown hg_ (by simp))
       have HB26 := Lib.hid (HB22.out.grown hg_ (by simp))
       have HG27 : Hid (w.grownBy wc24 none) := Lib.hid (World.grownBy.trans HG23.out hg_)
       clear hg_)
    | (refine wpList_alloc32 rfl rfl ?_
       intro wa28 hb_ hg_ hz_
       obtain ⟨gv30, hge_⟩ : ∃ g, g = wc24.heap.size := ⟨_, rfl⟩
       rw [← hge_] at hb_ ⊢
       have HOwa28 := Lib.hid hb_
       have HAwa28 := Lib.hid hg_
       have HLwa28 : Hid (wc24.heap.size ≤ gv30) := Lib.hid (by omega)
       clear hb_ hg_ hz_ hge_)
    | (refine wpList_store_row rfl 31 _ _ rfl gv30 (num (dgt (rootD (val k)))).toArray rfl rfl 31 _ HOwa28.out (num_size _) (num_same _ _) (all_oneCell_toArray (num_one _)) ?_
       obtain ⟨ws29, hws_⟩ : ∃ w', w' = wa28.setRow gv30 (num (dgt (rootD (val k)))).toArray := ⟨_, rfl⟩
       have hs_ : wa28.grownBy ws29 (some gv30) := by rw [hws_]; exact grown_setRow _ _ _
       have hl_ : Blk ws29 gv30 31 (num (dgt (rootD (val k)))) := by rw [hws_]; exact Blk.setRow HOwa28.out
       rw [← hws_]
       have hg_ : wc24.grownBy ws29 none := World.grownBy.andThen HAwa28.out hs_ (by rintro _ ⟨⟩; exact .inl HLwa28.out)
       have HB31 := Lib.hid hl_
       have HB32 := Lib.hid (HB25.out.grown hg_ (by simp))
       have HB33 := Lib.hid (HB26.out.grown hg_ (by simp))
       have HG34 : Hid (w.grownBy ws29 none) := Lib.hid (World.grownBy.trans HG27.out hg_)
       clear hws_ hs_ hl_ hg_)
    | fail)
  refine wp_region_held_drew (S := fun w' => Blk w' gb2 22 (u8s (k32 k)) ∧ Blk w' gv16 27 (csr) ∧ Blk w' gv30 31 (num (dgt (rootD (val k))))) (by kernel_rfl) ⟨HB32.out.keep rfl, HB33.out.keep rfl, HB31.out.keep rfl⟩ (fun hHeld => ?_)
  have hw0_ := grown_drew HG34.out
  refine' wpAnyH_take (i := 0) (oi := { dst := some 21, op := Op.move (Operand.tmp 4), type := 4, pos := "law.go:69", after := #[], guard := none }) (v := .bool (rootIs (val k))) rfl (by kernel_rfl) (by kernel_rfl) (by kernel_rfl) (fun _ _ _ h => h) (.inl ⟨by rfl, fun _ _ => rfl⟩) (by assumption) ?qz1
  try simp only [Act.put, List.setIfInBounds_toArray, List.set_cons_zero, List.set_cons_succ]
  refine' wpAnyH_take (i := 1) (oi := { dst := some 22, op := Op.move (Operand.tmp 6), type := 4, pos := "law.go:69", after := #[], guard := none }) (v := .bool (rootIs (val k))) rfl (by kernel_rfl) (by kernel_rfl) (by kernel_rfl) (fun _ _ _ h => h) (.inl ⟨by rfl, fun _ _ => rfl⟩) (by assumption) ?qz2
  try simp only [Act.put, List.setIfInBounds_toArray, List.set_cons_zero, List.set_cons_succ]
  refine' wpAnyH_take (i := 2) (oi := { dst := some 23, op := Op.binOp BinOp.eql 4 (Operand.tmp 21) (Operand.tmp 22) 4, type := 4, pos := "law.go:69", after := #[{ on := 0, ground := Ground.data }, { on := 1, ground := Ground.data }], guard := none }) (v := .bool true) rfl (by kernel_rfl) (by kernel_rfl) (by kernel_rfl) (fun _ _ _ h => h) (yieldsIf_eqlb (by rfl) _ _ rfl rfl rfl) (by assumption) ?qz3
  try simp only [Act.put, List.setIfInBounds_toArray, List.set_cons_zero, List.set_cons_succ]
  refine' wpAnyH_take (i := 3) (oi := { dst := some 24, op := Op.move (Operand.tmp 23), type := 4, pos := "law.go:69", after := #[{ on := 2, ground := Ground.data }], guard := none }) (v := .bool true) rfl (by kernel_rfl) (by kernel_rfl) (by kernel_rfl) (fun _ _ _ h => h) (.inl ⟨by rfl, fun _ _ => rfl⟩) (by assumption) ?qz4
  try simp only [Act.put, List.setIfInBounds_toArray, List.set_cons_zero, List.set_cons_succ]
  refine' wpAnyH_take (i := 4) (oi := { dst := some 25, op := Op.load 27 (Operand.tmp 3), type := 27, pos := "law.go:69", after := #[{ on := 3, ground := Ground.guard }], guard := some (3, true) }) (v := _) rfl (by kernel_rfl) (by kernel_rfl) (by kernel_rfl) (fun _ _ _ h => h) (yieldsIf_load_mid (by rfl) _ _ rfl gv16 0 rfl (csr) _ (fun w' hs => range_blk hs.2.1) Tryd.underlying27 rfl (fe_size' (H.len HR.out))) (by assumption) ?qz5
  try simp only [Act.put, List.setIfInBounds_toArray, List.set_cons_zero, List.set_cons_succ]
  refine' wpAnyH_take (i := 6) (oi := { dst := some 27, op := Op.load 31 (Operand.tmp 5), type := 31, pos := "law.go:69", after := #[{ on := 3, ground := Ground.guard }], guard := some (3, true) }) (v := _) rfl (by kernel_rfl) (by kernel_rfl) (by kernel_rfl) (fun _ _ _ h => h) (yieldsIf_load_mid (by rfl) _ _ rfl gv30 0 rfl (num (dgt (rootD (val k)))) _ (fun w' hs => range_blk hs.2.2) Tryd.underlying31 rfl (num_size' _)) (by assumption) ?qz6
  try simp only [Act.put, List.setIfInBounds_toArray, List.set_cons_zero, List.set_cons_succ]
  refine wpAnyH_ready (rs := [5]) (by kernel_rfl) (by simp) ?_
  refine AllReadyH.cons (o := { dst := some 26, op := Op.call { callee := Callee.value (Operand.func 8), args := #[Operand.tmp 25], argTypes := #[27] }, type := 22, pos := "law.go:69", after := #[{ on := 4, ground := Ground.data }, { on := 3, ground := Ground.chain }, { on := 3, ground := Ground.guard }], guard := some (3, true) }) rfl (fun K hK => ?_) AllReadyH.nil
  rw [if_pos (by rfl)]
  go_simp
  with_reducible refine (H.bytes _ HR.out).mono ?_
  rintro _ wz7 ⟨rfl, hgz8⟩
  have hwz9 := World.grownBy.trans hw0_ hgz8
  refine hK.out _ _ ⟨hHeld.1.grown hgz8 (by simp), hHeld.2.1.grown hgz8 (by simp), hHeld.2.2.grown hgz8 (by simp)⟩ (fun hHeld => ?_)
  clear hK K
  try simp only [Act.put, List.setIfInBounds_toArray, List.set_cons_zero, List.set_cons_succ]
  refine wpAnyH_ready (rs := [7]) (by kernel_rfl) (by simp) ?_
  refine AllReadyH.cons (o := { dst := some 28, op := Op.call { callee := Callee.value (Operand.func 10), args := #[Operand.tmp 27], argTypes := #[31] }, type := 22, pos := "law.go:69", after := #[{ on := 6, ground := Ground.data }, { on := 5, ground := Ground.chain }, { on := 3, ground := Ground.guard }], guard := some (3, true) }) rfl (fun K hK => ?_) AllReadyH.nil
  rw [if_pos (by rfl)]
  go_simp
  with_reducible refine (bytes_any _ (rootD (val k))).mono ?_
  rintro _ wz10 ⟨rfl, hgz11⟩
  have hwz12 := World.grownBy.trans hwz9 hgz11
  refine hK.out _ _ ⟨hHeld.1.grown hgz11 (by simp), hHeld.2.1.grown hgz11 (by simp), hHeld.2.2.grown hgz11 (by simp)⟩ (fun hHeld => ?_)
  clear hK K
  try simp only [Act.put, List.setIfInBounds_toArray, List.set_cons_zero, List.set_cons_succ]
  refine' wpAnyH_take (i := 8) (oi := { dst := some 29, op := Op.binOp BinOp.eql 22 (Operand.tmp 26) (Operand.tmp 28) 22, type := 4, pos := "law.go:69", after := #[{ on := 5, ground := Ground.data }, { on := 7, ground := Ground.data }, { on := 3, ground := Ground.guard }], guard := some (3, true) }) (v := .bool true) rfl (by kernel_rfl) (by kernel_rfl) (by kernel_rfl) (fun _ _ _ h => h) (yieldsIf_eql22 (by rfl) _ _ rfl rfl rfl (same32 _)) (by assumption) ?qz13
  try simp only [Act.put, List.setIfInBounds_toArray, List.set_cons_zero, List.set_cons_succ]
  refine wpAnyH_ready (rs := [9]) (by kernel_rfl) (by simp) ?_
  refine AllReadyH.cons (o := { dst := some 30, op := Op.pick (Operand.tmp 24) (Operand.tmp 29) (Operand.const (Value.bool false)), type := 4, pos := "law.go:69", after := #[{ on := 3, ground := Ground.data }, { on := 8, ground := Ground.data }], guard := none }) rfl (fun K hK => ?_) AllReadyH.nil
  rw [if_pos (by rfl)]
  go_simp
  refine hK.out _ _ hHeld (fun hHeld => ?_)
  clear hK K
  try simp only [Act.put, List.setIfInBounds_toArray, List.set_cons_zero, List.set_cons_succ]
  refine wpAnyH_ready (rs := [10]) (by kernel_rfl) (by simp) ?_
  refine AllReadyH.cons (o := { dst := some 2, op := Op.assign (Operand.tmp 30), type := 4, pos := "law.go:69", after := #[{ on := 9, ground := Ground.data }, { on := 7, ground := Ground.chain }, { on := 0, ground := Ground.phase }, { on := 1, ground := Ground.phase }, { on := 2, ground := Ground.phase }, { on := 3, ground := Ground.phase }, { on := 4, ground := Ground.phase }, { on := 5, ground := Ground.phase }, { on := 6, ground := Ground.phase }, { on := 7, ground := Ground.phase }, { on := 8, ground := Ground.phase }, { on := 9, ground := Ground.phase }], guard := none }) rfl (fun K hK => ?_) AllReadyH.nil
  rw [if_pos (by rfl)]
  go_simp
  refine hK.out _ _ hHeld (fun hHeld => ?_)
  clear hK K
  try simp only [Act.put, List.setIfInBounds_toArray, List.set_cons_zero, List.set_cons_succ]
  refine wpAnyH_done (by kernel_rfl) ?_ _
  go_wp2_with (fail)
  go_ret
  exact ⟨rfl, hwz12⟩
end Go.Proofs.YtoookolekpblhaaDoor
