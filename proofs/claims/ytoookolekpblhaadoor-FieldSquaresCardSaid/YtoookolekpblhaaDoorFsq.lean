/- FieldSquares: of a square the root is the number, or its contrary: the even one. Conditions: what is asked of the code. -/
import Derived.Test.YtoookolekpblhaaDoorFin
namespace Go.Proofs.YtoookolekpblhaaDoor
open Go.RowKit
section
variable {ops : Array Oper} {o : Oper} {a : Act} {S : World → Prop}
theorem yieldsIf_index0 (hw : Region.wanted o (yielded ops a.tmps) = true) (x : Operand) (ho : o.op = .indexAddr 22 x (.const (.int .i64 0))) {g : Nat} (hx : a.eval x = .pointer (some ⟨g, 0, none⟩)) : YieldsIf Tryd.prog ops S o (.pointer (some ⟨g, 0, none⟩)) a :=
  .inl ⟨hw, fun w _ => by
    have hcst : a.eval (.const (.int .i64 0)) = .int .i64 0 := rfl
    unfold execOp
    simp only [ho, hx, hcst]
    go_simp⟩
theorem yieldsIf_load5 (hw : Region.wanted o (yielded ops a.tmps) = true) (x : Operand) (ho : o.op = .load 5 x) {g : Nat} (hx : a.eval x = .pointer (some ⟨g, 0, none⟩)) {v : Value} (hS : ∀ w, S w → w.cell? ⟨g, 0, none⟩ = some v) : YieldsIf Tryd.prog ops S o v a :=
  .inl ⟨hw, fun w h => by
    have hc := hS w h
    have hu := Tryd.underlying5
    unfold execOp
    simp only [ho, hx]
    go_simp⟩
theorem yieldsIf_rem2 (hw : Region.wanted o (yielded ops a.tmps) = true) (x : Operand) (ho : o.op = .binOp .rem 5 x (.const (.int .u8 2)) 5) {u : UInt8} (hx : a.eval x = .int .u8 u.toNat) (h : u.toNat % 2 = 0) : YieldsIf Tryd.prog ops S o (.int .u8 0) a :=
  .inl ⟨hw, fun w _ => by
    have hcst : a.eval (.const (.int .u8 2)) = .int .u8 2 := rfl
    unfold execOp
    simp only [ho, hx, hcst]
    go_simp
    have h2 : (u.toNat : Int).tmod 2 = ((u.toNat % 2 : Nat) : Int) := rfl
    rw [h2, h]
    rfl⟩
theorem yieldsIf_eq50 (hw : Region.wanted o (yielded ops a.tmps) = true) (x : Operand) (ho : o.op = .binOp .eql 5 x (.const (.int .u8 0)) 5) (hx : a.eval x = .int .u8 0) : YieldsIf Tryd.prog ops S o (.bool true) a :=
  .inl ⟨hw, fun w _ => by
    have hcst : a.eval (.const (.int .u8 0)) = .int .u8 0 := rfl
    unfold execOp
    simp only [ho, hx, hcst]
    go_simp⟩
theorem first_byte {w : World} {g : Nat} {k : Fin 32 → UInt8} (h : Blk w g 22 (u8s (k32 k))) : w.cell? ⟨g, 0, none⟩ = some (.int .u8 (k 0).toNat) := h.get 0 _ rfl
end
set_option maxRecDepth 100000 in
set_option maxHeartbeats 800000 in
theorem fieldSquares_walk0 {Fe : List Value → Nat → Prop} (H : FeSays Fe) {w : World} (ht : Tab w) (k : Fin 32 → UInt8) (V q s n : Nat)
    (ho : ∀ (w : World), Calls Tryd.prog 9 #[.agg (u8s (k32 k)).toArray] w fun e w' => ∃ cs, Fe cs V ∧ e = .returned (.agg cs.toArray) ∧ w.grownBy w' none)
    (hp : ∀ (w : World) (cs ds : List Value), Fe cs V → Fe ds V → Calls Tryd.prog 14 #[.agg cs.toArray, .agg ds.toArray] w fun e w' => ∃ es, Fe es q ∧ e = .returned (.agg es.toArray) ∧ w.grownBy w' none)
    (hr : ∀ (w : World) (cs : List Value), Tab w → Fe cs q → Calls Tryd.prog 15 #[.agg cs.toArray] w fun e w' => ∃ es, Fe es s ∧ e = .returned (.tuple #[.agg es.toArray, .bool true]) ∧ w.grownBy w' none)
    (hn : ∀ (w : World) (cs : List Value), Tab w → Fe cs V → Calls Tryd.prog 17 #[.agg cs.toArray] w fun e w' => ∃ es, Fe es n ∧ e = .returned (.agg es.toArray) ∧ w.grownBy w' none)
    (he : ∀ _ : Unit, (bt s 0).toNat % 2 = 0)
    (hc : s = V ∨ (s = n ∧ (k32 (bt s) == k32 (bt V)) = false)) : Calls Tryd.prog 6 #[.agg (u8s (k32 k)).toArray] w fun e w' => e = .returned (.bool true) ∧ w.grownBy w' none := by
  rcases hc with hc | ⟨hc, hc2⟩
  · subst hc
    have HP := Lib.hid hp
    have HO := Lib.hid ho
    have HR := Lib.hid hr
    have HN := Lib.hid hn
    have HE := Lib.hid he
    clear hp ho hr hn he
    have HT := Lib.hid ht
    clear ht
    go_enter Tryd.func6, Tryd.ntmps6
    go_wp2_with (first
      | (with_reducible refine wpList_box22 rfl _ k rfl rfl ?_
         intro wb1 hb_ hg_ hz_
         obtain ⟨gb2, hge_⟩ : ∃ g, g = w.heap.size := ⟨_, rfl⟩
         rw [← hge_] at hb_ ⊢
         have HB3 := Lib.hid hb_
         have HG4 : Hid (w.grownBy wb1 none) := Lib.hid hg_
         clear hb_ hg_ hz_ hge_)
      | (go_at_call 7
         with_reducible refine (alive_any H (HT.out.more HG4.out)).mono ?_
         rintro _ wc5 ⟨rfl, hg_⟩
         have HB6 := Lib.hid (HB3.out.grown hg_ (by simp))
         have HG7 : Hid (w.grownBy wc5 none) := Lib.hid (World.grownBy.trans HG4.out hg_)
         clear hg_)
      | (refine wpList_yields (S := fun w' => w' = wc5) (yieldsIf_load_mid (by rfl) _ _ rfl gb2 0 rfl (u8s (k32 k)) _ (fun w' hs => by rw [hs]; exact range_blk HB6.out) Tryd.underlying22 rfl (k32_size' _)) rfl ?_
    )
      | (go_at_call 9
         with_reducible refine (HO.out _).mono ?_
         rintro _ wc8 ⟨cs, hf, rfl, hg_⟩
         have HF := Lib.hid hf
         clear hf
         have HB9 := Lib.hid (HB6.out.grown hg_ (by simp))
         have HG10 : Hid (w.grownBy wc8 none) := Lib.hid (World.grownBy.trans HG7.out hg_)
         clear hg_)
      | (refine wpList_alloc28 rfl rfl ?_
         intro wa11 hb_ hg_ hz_
         obtain ⟨gv13, hge_⟩ : ∃ g, g = wc8.heap.size := ⟨_, rfl⟩
         rw [← hge_] at hb_ ⊢
         have HOwa11 := Lib.hid hb_
         have HAwa11 := Lib.hid hg_
         have HLwa11 : Hid (wc8.heap.size ≤ gv13) := Lib.hid (by omega)
         have HDgv13_k := Lib.hid (Nat.lt_of_lt_of_le HB9.out.lt HLwa11.out)
         have HSgv13 := Lib.hid (Nat.le_trans HG10.out.size HLwa11.out)
         clear hb_ hg_ hz_ hge_)
      | (refine wpList_store_row rfl 27 _ _ rfl gv13 (cs).toArray rfl rfl 27 _ HOwa11.out (fe_size (H.len HF.out)) ((fe_same (H.len HF.out)).symm) (all_oneCell_toArray (H.one HF.out)) ?_
         obtain ⟨ws12, hws_⟩ : ∃ w', w' = wa11.setRow gv13 (cs).toArray := ⟨_, rfl⟩
         have hs_ : wa11.grownBy ws12 (some gv13) := by rw [hws_]; exact grown_setRow _ _ _
         have hl_ : Blk ws12 gv13 27 (cs) := by rw [hws_]; exact Blk.setRow HOwa11.out
         rw [← hws_]
         have hg_ : wc8.grownBy ws12 none := World.grownBy.andThen HAwa11.out hs_ (by rintro _ ⟨⟩; exact .inl HLwa11.out)
         have HB14 := Lib.hid hl_
         have HB15 := Lib.hid (HB9.out.grown hg_ (by simp))
         have HG16 : Hid (w.grownBy ws12 none) := Lib.hid (World.grownBy.trans HG10.out hg_)
         clear hws_ hs_ hl_ hg_)
      | (refine wpList_yields (S := fun w' => w' = ws12) (yieldsIf_load_mid (by rfl) _ _ rfl gv13 0 rfl (cs) _ (fun w' hs => by rw [hs]; exact range_blk HB14.out) Tryd.underlying27 rfl (fe_size' (H.len HF.out))) rfl ?_
    )
      | (go_at_call 14
         with_reducible refine (HP.out _ _ _ HF.out HF.out).mono ?_
         rintro _ wc17 ⟨csq, hi, rfl, hg_⟩
         have HQ := Lib.hid hi
         clear hi
         have HB18 := Lib.hid (HB15.out.grown hg_ (by simp))
         have HB19 := Lib.hid (HB14.out.grown hg_ (by simp))
         have HG20 : Hid (w.grownBy wc17 none) := Lib.hid (World.grownBy.trans HG16.out hg_)
         clear hg_)
      | (go_at_call 15
         with_reducible refine (HR.out _ _ (HT.out.more HG20.out) HQ.out).mono ?_
         rintro _ wc21 ⟨csr, hi, rfl, hg_⟩
         have HS := Lib.hid hi
         clear hi
         have HB22 := Lib.hid (HB18.out.grown hg_ (by simp))
         have HB23 := Lib.hid (HB19.out.grown hg_ (by simp))
         have HG24 : Hid (w.grownBy wc21 none) := Lib.hid (World.grownBy.trans HG20.out hg_)
         clear hg_)
      | (refine wpList_alloc28 rfl rfl ?_
         intro wa25 hb_ hg_ hz_
         obtain ⟨gv27, hge_⟩ : ∃ g, g = wc21.heap.size := ⟨_, rfl⟩
         rw [← hge_] at hb_ ⊢
         have HOwa25 := Lib.hid hb_
         have HAwa25 := Lib.hid hg_
         have HLwa25 : Hid (wc21.heap.size ≤ gv27) := Lib.hid (by omega)
         have HDgv27_k := Lib.hid (Nat.lt_of_lt_of_le HB22.out.lt HLwa25.out)
         have HDgv27_x := Lib.hid (Nat.lt_of_lt_of_le HB23.out.lt HLwa25.out)
         have HSgv27 := Lib.hid (Nat.le_trans HG24.out.size HLwa25.out)
         clear hb_ hg_ hz_ hge_)
      | (refine wpList_store_row rfl 27 _ _ rfl gv27 (csr).toArray rfl rfl 27 _ HOwa25.out (fe_size (H.len HS.out)) ((fe_same (H.len HS.out)).symm) (all_oneCell_toArray (H.one HS.out)) ?_
         obtain ⟨ws26, hws_⟩ : ∃ w', w' = wa25.setRow gv27 (csr).toArray := ⟨_, rfl⟩
         have hs_ : wa25.grownBy ws26 (some gv27) := by rw [hws_]; exact grown_setRow _ _ _
         have hl_ : Blk ws26 gv27 27 (csr) := by rw [hws_]; exact Blk.setRow HOwa25.out
         rw [← hws_]
         have hg_ : wc21.grownBy ws26 none := World.grownBy.andThen HAwa25.out hs_ (by rintro _ ⟨⟩; exact .inl HLwa25.out)
         have HB28 := Lib.hid hl_
         have HB29 := Lib.hid (HB22.out.grown hg_ (by simp))
         have HB30 := Lib.hid (HB23.out.grown hg_ (by simp))
         have HG31 : Hid (w.grownBy ws26 none) := Lib.hid (World.grownBy.trans HG24.out hg_)
         clear hws_ hs_ hl_ hg_)
      | (refine wpList_yields (S := fun w' => w' = ws26) (yieldsIf_load_mid (by rfl) _ _ rfl gv27 0 rfl (csr) _ (fun w' hs => by rw [hs]; exact range_blk HB28.out) Tryd.underlying27 rfl (fe_size' (H.len HS.out))) rfl ?_
    )
      | (go_at_call 8
         with_reducible refine (H.bytes _ HS.out).mono ?_
         rintro _ wc32 ⟨rfl, hg_⟩
         have HB33 := Lib.hid (HB29.out.grown hg_ (by simp))
         have HB34 := Lib.hid (HB30.out.grown hg_ (by simp))
         have HB35 := Lib.hid (HB28.out.grown hg_ (by simp))
         have HG36 : Hid (w.grownBy wc32 none) := Lib.hid (World.grownBy.trans HG31.out hg_)
         clear hg_)
      | (refine wpList_alloc22 rfl rfl ?_
         intro wa37 hb_ hg_ hz_
         obtain ⟨gv39, hge_⟩ : ∃ g, g = wc32.heap.size := ⟨_, rfl⟩
         rw [← hge_] at hb_ ⊢
         have HOwa37 := Lib.hid hb_
         have HAwa37 := Lib.hid hg_
         have HLwa37 : Hid (wc32.heap.size ≤ gv39) := Lib.hid (by omega)
         have HDgv39_k := Lib.hid (Nat.lt_of_lt_of_le HB33.out.lt HLwa37.out)
         have HDgv39_x := Lib.hid (Nat.lt_of_lt_of_le HB34.out.lt HLwa37.out)
         have HDgv39_r := Lib.hid (Nat.lt_of_lt_of_le HB35.out.lt HLwa37.out)
         have HSgv39 := Lib.hid (Nat.le_trans HG36.out.size HLwa37.out)
         clear hb_ hg_ hz_ hge_)
      | (refine wpList_store_row rfl 22 _ _ rfl gv39 (u8s (k32 (bt s))).toArray rfl rfl 22 _ HOwa37.out (k32_size _) (k32_same _ _) (all_oneCell_toArray (u8s_one _)) ?_
         obtain ⟨ws38, hws_⟩ : ∃ w', w' = wa37.setRow gv39 (u8s (k32 (bt s))).toArray := ⟨_, rfl⟩
         have hs_ : wa37.grownBy ws38 (some gv39) := by rw [hws_]; exact grown_setRow _ _ _
         have hl_ : Blk ws38 gv39 22 (u8s (k32 (bt s))) := by rw [hws_]; exact Blk.setRow HOwa37.out
         rw [← hws_]
         have hg_ : wc32.grownBy ws38 none := World.grownBy.andThen HAwa37.out hs_ (by rintro _ ⟨⟩; exact .inl HLwa37.out)
         have HB40 := Lib.hid hl_
         have HB41 := Lib.hid (HB33.out.grown hg_ (by simp))
         have HB42 := Lib.hid (HB34.out.grown hg_ (by simp))
         have HB43 := Lib.hid (HB35.out.grown hg_ (by simp))
         have HG44 : Hid (w.grownBy ws38 none) := Lib.hid (World.grownBy.trans HG36.out hg_)
         clear hws_ hs_ hl_ hg_)
      | fail)
    refine wp_region_held_drew (S := fun w' => Blk w' gb2 22 (u8s (k32 k)) ∧ Blk w' gv13 27 (cs) ∧ Blk w' gv27 27 (csr) ∧ Blk w' gv39 22 (u8s (k32 (bt s)))) (by kernel_rfl) ⟨HB41.out.keep rfl, HB42.out.keep rfl, HB43.out.keep rfl, HB40.out.keep rfl⟩ (fun hHeld => ?_)
    have hw0_ := grown_drew HG44.out
    refine' wpAnyH_take (i := 0) (oi := { dst := some 20, op := Op.move (Operand.tmp 5), type := 4, pos := "law.go:80", after := #[], guard := none }) (v := .bool true) rfl (by kernel_rfl) (by kernel_rfl) (by kernel_rfl) (fun _ _ _ h => h) (.inl ⟨by rfl, fun _ _ => rfl⟩) (by assumption) ?qz1
    try simp only [Act.put, List.setIfInBounds_toArray, List.set_cons_zero, List.set_cons_succ]
    refine' wpAnyH_take (i := 1) (oi := { dst := some 21, op := Op.move (Operand.tmp 20), type := 4, pos := "law.go:80", after := #[{ on := 0, ground := Ground.data }], guard := none }) (v := .bool true) rfl (by kernel_rfl) (by kernel_rfl) (by kernel_rfl) (fun _ _ _ h => h) (.inl ⟨by rfl, fun _ _ => rfl⟩) (by assumption) ?qz2
    try simp only [Act.put, List.setIfInBounds_toArray, List.set_cons_zero, List.set_cons_succ]
    refine' wpAnyH_take (i := 2) (oi := { dst := some 22, op := Op.indexAddr 22 (Operand.tmp 6) (Operand.const (Value.int IntKind.i64 0)), type := 0, pos := "law.go:80", after := #[{ on := 1, ground := Ground.guard }], guard := some (1, true) }) (v := .pointer (some ⟨gv39, 0, none⟩)) rfl (by kernel_rfl) (by kernel_rfl) (by kernel_rfl) (fun _ _ _ h => h) (yieldsIf_index0 (by rfl) _ rfl rfl) (by assumption) ?qz3
    try simp only [Act.put, List.setIfInBounds_toArray, List.set_cons_zero, List.set_cons_succ]
    refine' wpAnyH_take (i := 3) (oi := { dst := some 23, op := Op.load 5 (Operand.tmp 22), type := 5, pos := "law.go:80", after := #[{ on := 2, ground := Ground.data }, { on := 1, ground := Ground.guard }], guard := some (1, true) }) (v := .int .u8 (bt s 0).toNat) rfl (by kernel_rfl) (by kernel_rfl) (by kernel_rfl) (fun _ _ _ h => h) (yieldsIf_load5 (by rfl) _ rfl rfl (fun w' hs => first_byte hs.2.2.2)) (by assumption) ?qz4
    try simp only [Act.put, List.setIfInBounds_toArray, List.set_cons_zero, List.set_cons_succ]
    refine' wpAnyH_take (i := 4) (oi := { dst := some 24, op := Op.binOp BinOp.rem 5 (Operand.tmp 23) (Operand.const (Value.int IntKind.u8 2)) 5, type := 5, pos := "law.go:80", after := #[{ on := 3, ground := Ground.data }, { on := 1, ground := Ground.guard }], guard := some (1, true) }) (v := .int .u8 0) rfl (by kernel_rfl) (by kernel_rfl) (by kernel_rfl) (fun _ _ _ h => h) (yieldsIf_rem2 (by rfl) _ rfl rfl (HE.out ())) (by assumption) ?qz5
    try simp only [Act.put, List.setIfInBounds_toArray, List.set_cons_zero, List.set_cons_succ]
    refine' wpAnyH_take (i := 5) (oi := { dst := some 25, op := Op.binOp BinOp.eql 5 (Operand.tmp 24) (Operand.const (Value.int IntKind.u8 0)) 5, type := 4, pos := "law.go:80", after := #[{ on := 4, ground := Ground.data }, { on := 1, ground := Ground.guard }], guard := some (1, true) }) (v := .bool true) rfl (by kernel_rfl) (by kernel_rfl) (by kernel_rfl) (fun _ _ _ h => h) (yieldsIf_eq50 (by rfl) _ rfl rfl) (by assumption) ?qz6
    try simp only [Act.put, List.setIfInBounds_toArray, List.set_cons_zero, List.set_cons_succ]
    refine wpAnyH_ready (rs := [6]) (by kernel_rfl) (by simp) ?_
    refine AllReadyH.cons (o := { dst := some 26, op := Op.pick (Operand.tmp 21) (Operand.tmp 25) (Operand.const (Value.bool false)), type := 4, pos := "law.go:80", after := #[{ on := 1, ground := Ground.data }, { on := 5, ground := Ground.data }], guard := none }) rfl (fun K hK => ?_) AllReadyH.nil
    rw [if_pos (by rfl)]
    go_simp
    refine hK.out _ _ hHeld (fun hHeld => ?_)
    clear hK K
    try simp only [Act.put, List.setIfInBounds_toArray, List.set_cons_zero, List.set_cons_succ]
    refine' wpAnyH_take (i := 7) (oi := { dst := some 27, op := Op.move (Operand.tmp 26), type := 4, pos := "law.go:80", after := #[{ on := 6, ground := Ground.data }, { on := 1, ground := Ground.chain }], guard := none }) (v := .bool true) rfl (by kernel_rfl) (by kernel_rfl) (by kernel_rfl) (fun _ _ _ h => h) (.inl ⟨by rfl, fun _ _ => rfl⟩) (by assumption) ?qz7
    try simp only [Act.put, List.setIfInBounds_toArray, List.set_cons_zero, List.set_cons_succ]
    refine' wpAnyH_take (i := 8) (oi := { dst := some 28, op := Op.load 22 (Operand.tmp 6), type := 22, pos := "law.go:80", after := #[{ on := 7, ground := Ground.guard }], guard := some (7, true) }) (v := _) rfl (by kernel_rfl) (by kernel_rfl) (by kernel_rfl) (fun _ _ _ h => h) (yieldsIf_load_mid (by rfl) _ _ rfl gv39 0 rfl (u8s (k32 (bt s))) _ (fun w' hs => range_blk hs.2.2.2) Tryd.underlying22 rfl (k32_size' _)) (by assumption) ?qz8
    try simp only [Act.put, List.setIfInBounds_toArray, List.set_cons_zero, List.set_cons_succ]
    refine' wpAnyH_take (i := 9) (oi := { dst := some 29, op := Op.load 27 (Operand.tmp 3), type := 27, pos := "law.go:80", after := #[{ on := 7, ground := Ground.guard }], guard := some (7, true) }) (v := _) rfl (by kernel_rfl) (by kernel_rfl) (by kernel_rfl) (fun _ _ _ h => h) (yieldsIf_load_mid (by rfl) _ _ rfl gv13 0 rfl (cs) _ (fun w' hs => range_blk hs.2.1) Tryd.underlying27 rfl (fe_size' (H.len HF.out))) (by assumption) ?qz9
    try simp only [Act.put, List.setIfInBounds_toArray, List.set_cons_zero, List.set_cons_succ]
    refine wpAnyH_ready (rs := [10]) (by kernel_rfl) (by simp) ?_
    refine AllReadyH.cons (o := { dst := some 30, op := Op.call { callee := Callee.value (Operand.func 8), args := #[Operand.tmp 29], argTypes := #[27] }, type := 22, pos := "law.go:80", after := #[{ on := 9, ground := Ground.data }, { on := 7, ground := Ground.chain }, { on := 7, ground := Ground.guard }], guard := some (7, true) }) rfl (fun K hK => ?_) AllReadyH.nil
    rw [if_pos (by rfl)]
    go_simp
    with_reducible refine (H.bytes _ HF.out).mono ?_
    rintro _ wz10 ⟨rfl, hgz11⟩
    have hwz12 := World.grownBy.trans hw0_ hgz11
    refine hK.out _ _ ⟨hHeld.1.grown hgz11 (by simp), hHeld.2.1.grown hgz11 (by simp), hHeld.2.2.1.grown hgz11 (by simp), hHeld.2.2.2.grown hgz11 (by simp)⟩ (fun hHeld => ?_)
    clear hK K
    try simp only [Act.put, List.setIfInBounds_toArray, List.set_cons_zero, List.set_cons_succ]
    refine' wpAnyH_take (i := 11) (oi := { dst := some 31, op := Op.binOp BinOp.eql 22 (Operand.tmp 28) (Operand.tmp 30) 22, type := 4, pos := "law.go:80", after := #[{ on := 8, ground := Ground.data }, { on := 10, ground := Ground.data }, { on := 7, ground := Ground.guard }], guard := some (7, true) }) (v := .bool true) rfl (by kernel_rfl) (by kernel_rfl) (by kernel_rfl) (fun _ _ _ h => h) (yieldsIf_eql22 (by rfl) _ _ rfl rfl rfl (same32 _)) (by assumption) ?qz13
    try simp only [Act.put, List.setIfInBounds_toArray, List.set_cons_zero, List.set_cons_succ]
    refine' wpAnyH_take (i := 12) (oi := { dst := some 32, op := Op.move (Operand.tmp 31), type := 4, pos := "law.go:80", after := #[{ on := 11, ground := Ground.data }, { on := 10, ground := Ground.chain }, { on := 7, ground := Ground.guard }], guard := some (7, true) }) (v := .bool true) rfl (by kernel_rfl) (by kernel_rfl) (by kernel_rfl) (fun _ _ _ h => h) (.inl ⟨by rfl, fun _ _ => rfl⟩) (by assumption) ?qz14
    try simp only [Act.put, List.setIfInBounds_toArray, List.set_cons_zero, List.set_cons_succ]
    refine' wpAnyH_take (i := 13) (oi := { dst := some 33, op := Op.load 22 (Operand.tmp 6), type := 22, pos := "law.go:80", after := #[{ on := 12, ground := Ground.guard }], guard := some (12, false) }) (v := undef) rfl (by kernel_rfl) (by kernel_rfl) (by kernel_rfl) (fun _ _ _ h => h) (.inr ⟨by rfl, rfl⟩) (by assumption) ?qz15
    try simp only [Act.put, List.setIfInBounds_toArray, List.set_cons_zero, List.set_cons_succ]
    refine' wpAnyH_take (i := 14) (oi := { dst := some 34, op := Op.load 27 (Operand.tmp 3), type := 27, pos := "law.go:80", after := #[{ on := 12, ground := Ground.guard }], guard := some (12, false) }) (v := undef) rfl (by kernel_rfl) (by kernel_rfl) (by kernel_rfl) (fun _ _ _ h => h) (.inr ⟨by rfl, rfl⟩) (by assumption) ?qz16
    try simp only [Act.put, List.setIfInBounds_toArray, List.set_cons_zero, List.set_cons_succ]
    refine' wpAnyH_take (i := 15) (oi := { dst := some 35, op := Op.call { callee := Callee.value (Operand.func 17), args := #[Operand.tmp 34], argTypes := #[27] }, type := 27, pos := "law.go:80", after := #[{ on := 14, ground := Ground.data }, { on := 12, ground := Ground.chain }, { on := 12, ground := Ground.guard }], guard := some (12, false) }) (v := undef) rfl (by kernel_rfl) (by kernel_rfl) (by kernel_rfl) (fun _ _ _ h => h) (.inr ⟨by rfl, rfl⟩) (by assumption) ?qz17
    try simp only [Act.put, List.setIfInBounds_toArray, List.set_cons_zero, List.set_cons_succ]
    refine' wpAnyH_take (i := 16) (oi := { dst := some 36, op := Op.call { callee := Callee.value (Operand.func 8), args := #[Operand.tmp 35], argTypes := #[27] }, type := 22, pos := "law.go:80", after := #[{ on := 15, ground := Ground.data }, { on := 15, ground := Ground.chain }, { on := 12, ground := Ground.guard }], guard := some (12, false) }) (v := undef) rfl (by kernel_rfl) (by kernel_rfl) (by kernel_rfl) (fun _ _ _ h => h) (.inr ⟨by rfl, rfl⟩) (by assumption) ?qz18
    try simp only [Act.put, List.setIfInBounds_toArray, List.set_cons_zero, List.set_cons_succ]
    refine' wpAnyH_take (i := 17) (oi := { dst := some 37, op := Op.binOp BinOp.eql 22 (Operand.tmp 33) (Operand.tmp 36) 22, type := 4, pos := "law.go:80", after := #[{ on := 13, ground := Ground.data }, { on := 16, ground := Ground.data }, { on := 12, ground := Ground.guard }], guard := some (12, false) }) (v := undef) rfl (by kernel_rfl) (by kernel_rfl) (by kernel_rfl) (fun _ _ _ h => h) (.inr ⟨by rfl, rfl⟩) (by assumption) ?qz19
    try simp only [Act.put, List.setIfInBounds_toArray, List.set_cons_zero, List.set_cons_succ]
    refine wpAnyH_ready (rs := [18]) (by kernel_rfl) (by simp) ?_
    refine AllReadyH.cons (o := { dst := some 38, op := Op.pick (Operand.tmp 32) (Operand.const (Value.bool true)) (Operand.tmp 37), type := 4, pos := "law.go:80", after := #[{ on := 12, ground := Ground.data }, { on := 17, ground := Ground.data }, { on := 7, ground := Ground.guard }], guard := some (7, true) }) rfl (fun K hK => ?_) AllReadyH.nil
    rw [if_pos (by rfl)]
    go_simp
    refine hK.out _ _ hHeld (fun hHeld => ?_)
    clear hK K
    try simp only [Act.put, List.setIfInBounds_toArray, List.set_cons_zero, List.set_cons_succ]
    refine wpAnyH_ready (rs := [19]) (by kernel_rfl) (by simp) ?_
    refine AllReadyH.cons (o := { dst := some 39, op := Op.pick (Operand.tmp 27) (Operand.tmp 38) (Operand.const (Value.bool false)), type := 4, pos := "law.go:80", after := #[{ on := 7, ground := Ground.data }, { on := 18, ground := Ground.data }], guard := none }) rfl (fun K hK => ?_) AllReadyH.nil
    rw [if_pos (by rfl)]
    go_simp
    refine hK.out _ _ hHeld (fun hHeld => ?_)
    clear hK K
    try simp only [Act.put, List.setIfInBounds_toArray, List.set_cons_zero, List.set_cons_succ]
    refine wpAnyH_ready (rs := [20]) (by kernel_rfl) (by simp) ?_
    refine AllReadyH.cons (o := { dst := some 2, op := Op.assign (Operand.tmp 39), type := 4, pos := "law.go:80", after := #[{ on := 19, ground := Ground.data }, { on := 16, ground := Ground.chain }, { on := 0, ground := Ground.phase }, { on := 1, ground := Ground.phase }, { on := 2, ground := Ground.phase }, { on := 3, ground := Ground.phase }, { on := 4, ground := Ground.phase }, { on := 5, ground := Ground.phase }, { on := 6, ground := Ground.phase }, { on := 7, ground := Ground.phase }, { on := 8, ground := Ground.phase }, { on := 9, ground := Ground.phase }, { on := 10, ground := Ground.phase }, { on := 11, ground := Ground.phase }, { on := 12, ground := Ground.phase }, { on := 13, ground := Ground.phase }, { on := 14, ground := Ground.phase }, { on := 15, ground := Ground.phase }, { on := 16, ground := Ground.phase }, { on := 17, ground := Ground.phase }, { on := 18, ground := Ground.phase }, { on := 19, ground := Ground.phase }], guard := none }) rfl (fun K hK => ?_) AllReadyH.nil
    rw [if_pos (by rfl)]
    go_simp
    refine hK.out _ _ hHeld (fun hHeld => ?_)
    clear hK K
    try simp only [Act.put, List.setIfInBounds_toArray, List.set_cons_zero, List.set_cons_succ]
    refine wpAnyH_done (by kernel_rfl) ?_ _
    go_wp2_with (fail)
    go_ret
    exact ⟨rfl, hwz12⟩
  · subst hc
    have HC := Lib.hid hc2
    clear hc2
    have HP := Lib.hid hp
    have HO := Lib.hid ho
    have HR := Lib.hid hr
    have HN := Lib.hid hn
    have HE := Lib.hid he
    clear hp ho hr hn he
    have HT := Lib.hid ht
    clear ht
    go_enter Tryd.func6, Tryd.ntmps6
    go_wp2_with (first
      | (with_reducible refine wpList_box22 rfl _ k rfl rfl ?_
         intro wb1 hb_ hg_ hz_
         obtain ⟨gb2, hge_⟩ : ∃ g, g = w.heap.size := ⟨_, rfl⟩
         rw [← hge_] at hb_ ⊢
         have HB3 := Lib.hid hb_
         have HG4 : Hid (w.grownBy wb1 none) := Lib.hid hg_
         clear hb_ hg_ hz_ hge_)
      | (go_at_call 7
         with_reducible refine (alive_any H (HT.out.more HG4.out)).mono ?_
         rintro _ wc5 ⟨rfl, hg_⟩
         have HB6 := Lib.hid (HB3.out.grown hg_ (by simp))
         have HG7 : Hid (w.grownBy wc5 none) := Lib.hid (World.grownBy.trans HG4.out hg_)
         clear hg_)
      | (refine wpList_yields (S := fun w' => w' = wc5) (yieldsIf_load_mid (by rfl) _ _ rfl gb2 0 rfl (u8s (k32 k)) _ (fun w' hs => by rw [hs]; exact range_blk HB6.out) Tryd.underlying22 rfl (k32_size' _)) rfl ?_
    )
      | (go_at_call 9
         with_reducible refine (HO.out _).mono ?_
         rintro _ wc8 ⟨cs, hf, rfl, hg_⟩
         have HF := Lib.hid hf
         clear hf
         have HB9 := Lib.hid (HB6.out.grown hg_ (by simp))
         have HG10 : Hid (w.grownBy wc8 none) := Lib.hid (World.grownBy.trans HG7.out hg_)
         clear hg_)
      | (refine wpList_alloc28 rfl rfl ?_
         intro wa11 hb_ hg_ hz_
         obtain ⟨gv13, hge_⟩ : ∃ g, g = wc8.heap.size := ⟨_, rfl⟩
         rw [← hge_] at hb_ ⊢
         have HOwa11 := Lib.hid hb_
         have HAwa11 := Lib.hid hg_
         have HLwa11 : Hid (wc8.heap.size ≤ gv13) := Lib.hid (by omega)
         have HDgv13_k := Lib.hid (Nat.lt_of_lt_of_le HB9.out.lt HLwa11.out)
         have HSgv13 := Lib.hid (Nat.le_trans HG10.out.size HLwa11.out)
         clear hb_ hg_ hz_ hge_)
      | (refine wpList_store_row rfl 27 _ _ rfl gv13 (cs).toArray rfl rfl 27 _ HOwa11.out (fe_size (H.len HF.out)) ((fe_same (H.len HF.out)).symm) (all_oneCell_toArray (H.one HF.out)) ?_
         obtain ⟨ws12, hws_⟩ : ∃ w', w' = wa11.setRow gv13 (cs).toArray := ⟨_, rfl⟩
         have hs_ : wa11.grownBy ws12 (some gv13) := by rw [hws_]; exact grown_setRow _ _ _
         have hl_ : Blk ws12 gv13 27 (cs) := by rw [hws_]; exact Blk.setRow HOwa11.out
         rw [← hws_]
         have hg_ : wc8.grownBy ws12 none := World.grownBy.andThen HAwa11.out hs_ (by rintro _ ⟨⟩; exact .inl HLwa11.out)
         have HB14 := Lib.hid hl_
         have HB15 := Lib.hid (HB9.out.grown hg_ (by simp))
         have HG16 : Hid (w.grownBy ws12 none) := Lib.hid (World.grownBy.trans HG10.out hg_)
         clear hws_ hs_ hl_ hg_)
      | (refine wpList_yields (S := fun w' => w' = ws12) (yieldsIf_load_mid (by rfl) _ _ rfl gv13 0 rfl (cs) _ (fun w' hs => by rw [hs]; exact range_blk HB14.out) Tryd.underlying27 rfl (fe_size' (H.len HF.out))) rfl ?_
    )
      | (go_at_call 14
         with_reducible refine (HP.out _ _ _ HF.out HF.out).mono ?_
         rintro _ wc17 ⟨csq, hi, rfl, hg_⟩
         have HQ := Lib.hid hi
         clear hi
         have HB18 := Lib.hid (HB15.out.grown hg_ (by simp))
         have HB19 := Lib.hid (HB14.out.grown hg_ (by simp))
         have HG20 : Hid (w.grownBy wc17 none) := Lib.hid (World.grownBy.trans HG16.out hg_)
         clear hg_)
      | (go_at_call 15
         with_reducible refine (HR.out _ _ (HT.out.more HG20.out) HQ.out).mono ?_
         rintro _ wc21 ⟨csr, hi, rfl, hg_⟩
         have HS := Lib.hid hi
         clear hi
         have HB22 := Lib.hid (HB18.out.grown hg_ (by simp))
         have HB23 := Lib.hid (HB19.out.grown hg_ (by simp))
         have HG24 : Hid (w.grownBy wc21 none) := Lib.hid (World.grownBy.trans HG20.out hg_)
         clear hg_)
      | (refine wpList_alloc28 rfl rfl ?_
         intro wa25 hb_ hg_ hz_
         obtain ⟨gv27, hge_⟩ : ∃ g, g = wc21.heap.size := ⟨_, rfl⟩
         rw [← hge_] at hb_ ⊢
         have HOwa25 := Lib.hid hb_
         have HAwa25 := Lib.hid hg_
         have HLwa25 : Hid (wc21.heap.size ≤ gv27) := Lib.hid (by omega)
         have HDgv27_k := Lib.hid (Nat.lt_of_lt_of_le HB22.out.lt HLwa25.out)
         have HDgv27_x := Lib.hid (Nat.lt_of_lt_of_le HB23.out.lt HLwa25.out)
         have HSgv27 := Lib.hid (Nat.le_trans HG24.out.size HLwa25.out)
         clear hb_ hg_ hz_ hge_)
      | (refine wpList_store_row rfl 27 _ _ rfl gv27 (csr).toArray rfl rfl 27 _ HOwa25.out (fe_size (H.len HS.out)) ((fe_same (H.len HS.out)).symm) (all_oneCell_toArray (H.one HS.out)) ?_
         obtain ⟨ws26, hws_⟩ : ∃ w', w' = wa25.setRow gv27 (csr).toArray := ⟨_, rfl⟩
         have hs_ : wa25.grownBy ws26 (some gv27) := by rw [hws_]; exact grown_setRow _ _ _
         have hl_ : Blk ws26 gv27 27 (csr) := by rw [hws_]; exact Blk.setRow HOwa25.out
         rw [← hws_]
         have hg_ : wc21.grownBy ws26 none := World.grownBy.andThen HAwa25.out hs_ (by rintro _ ⟨⟩; exact .inl HLwa25.out)
         have HB28 := Lib.hid hl_
         have HB29 := Lib.hid (HB22.out.grown hg_ (by simp))
         have HB30 := Lib.hid (HB23.out.grown hg_ (by simp))
         have HG31 : Hid (w.grownBy ws26 none) := Lib.hid (World.grownBy.trans HG24.out hg_)
         clear hws_ hs_ hl_ hg_)
      | (refine wpList_yields (S := fun w' => w' = ws26) (yieldsIf_load_mid (by rfl) _ _ rfl gv27 0 rfl (csr) _ (fun w' hs => by rw [hs]; exact range_blk HB28.out) Tryd.underlying27 rfl (fe_size' (H.len HS.out))) rfl ?_
    )
      | (go_at_call 8
         with_reducible refine (H.bytes _ HS.out).mono ?_
         rintro _ wc32 ⟨rfl, hg_⟩
         have HB33 := Lib.hid (HB29.out.grown hg_ (by simp))
         have HB34 := Lib.hid (HB30.out.grown hg_ (by simp))
         have HB35 := Lib.hid (HB28.out.grown hg_ (by simp))
         have HG36 : Hid (w.grownBy wc32 none) := Lib.hid (World.grownBy.trans HG31.out hg_)
         clear hg_)
      | (refine wpList_alloc22 rfl rfl ?_
         intro wa37 hb_ hg_ hz_
         obtain ⟨gv39, hge_⟩ : ∃ g, g = wc32.heap.size := ⟨_, rfl⟩
         rw [← hge_] at hb_ ⊢
         have HOwa37 := Lib.hid hb_
         have HAwa37 := Lib.hid hg_
         have HLwa37 : Hid (wc32.heap.size ≤ gv39) := Lib.hid (by omega)
         have HDgv39_k := Lib.hid (Nat.lt_of_lt_of_le HB33.out.lt HLwa37.out)
         have HDgv39_x := Lib.hid (Nat.lt_of_lt_of_le HB34.out.lt HLwa37.out)
         have HDgv39_r := Lib.hid (Nat.lt_of_lt_of_le HB35.out.lt HLwa37.out)
         have HSgv39 := Lib.hid (Nat.le_trans HG36.out.size HLwa37.out)
         clear hb_ hg_ hz_ hge_)
      | (refine wpList_store_row rfl 22 _ _ rfl gv39 (u8s (k32 (bt s))).toArray rfl rfl 22 _ HOwa37.out (k32_size _) (k32_same _ _) (all_oneCell_toArray (u8s_one _)) ?_
         obtain ⟨ws38, hws_⟩ : ∃ w', w' = wa37.setRow gv39 (u8s (k32 (bt s))).toArray := ⟨_, rfl⟩
         have hs_ : wa37.grownBy ws38 (some gv39) := by rw [hws_]; exact grown_setRow _ _ _
         have hl_ : Blk ws38 gv39 22 (u8s (k32 (bt s))) := by rw [hws_]; exact Blk.setRow HOwa37.out
         rw [← hws_]
         have hg_ : wc32.grownBy ws38 none := World.grownBy.andThen HAwa37.out hs_ (by rintro _ ⟨⟩; exact .inl HLwa37.out)
         have HB40 := Lib.hid hl_
         have HB41 := Lib.hid (HB33.out.grown hg_ (by simp))
         have HB42 := Lib.hid (HB34.out.grown hg_ (by simp))
         have HB43 := Lib.hid (HB35.out.grown hg_ (by simp))
         have HG44 : Hid (w.grownBy ws38 none) := Lib.hid (World.grownBy.trans HG36.out hg_)
         clear hws_ hs_ hl_ hg_)
      | fail)
    refine wp_region_held_drew (S := fun w' => Blk w' gb2 22 (u8s (k32 k)) ∧ Blk w' gv13 27 (cs) ∧ Blk w' gv27 27 (csr) ∧ Blk w' gv39 22 (u8s (k32 (bt s)))) (by kernel_rfl) ⟨HB41.out.keep rfl, HB42.out.keep rfl, HB43.out.keep rfl, HB40.out.keep rfl⟩ (fun hHeld => ?_)
    have hw0_ := grown_drew HG44.out
    refine' wpAnyH_take (i := 0) (oi := { dst := some 20, op := Op.move (Operand.tmp 5), type := 4, pos := "law.go:80", after := #[], guard := none }) (v := .bool true) rfl (by kernel_rfl) (by kernel_rfl) (by kernel_rfl) (fun _ _ _ h => h) (.inl ⟨by rfl, fun _ _ => rfl⟩) (by assumption) ?qz20
    try simp only [Act.put, List.setIfInBounds_toArray, List.set_cons_zero, List.set_cons_succ]
    refine' wpAnyH_take (i := 1) (oi := { dst := some 21, op := Op.move (Operand.tmp 20), type := 4, pos := "law.go:80", after := #[{ on := 0, ground := Ground.data }], guard := none }) (v := .bool true) rfl (by kernel_rfl) (by kernel_rfl) (by kernel_rfl) (fun _ _ _ h => h) (.inl ⟨by rfl, fun _ _ => rfl⟩) (by assumption) ?qz21
    try simp only [Act.put, List.setIfInBounds_toArray, List.set_cons_zero, List.set_cons_succ]
    refine' wpAnyH_take (i := 2) (oi := { dst := some 22, op := Op.indexAddr 22 (Operand.tmp 6) (Operand.const (Value.int IntKind.i64 0)), type := 0, pos := "law.go:80", after := #[{ on := 1, ground := Ground.guard }], guard := some (1, true) }) (v := .pointer (some ⟨gv39, 0, none⟩)) rfl (by kernel_rfl) (by kernel_rfl) (by kernel_rfl) (fun _ _ _ h => h) (yieldsIf_index0 (by rfl) _ rfl rfl) (by assumption) ?qz22
    try simp only [Act.put, List.setIfInBounds_toArray, List.set_cons_zero, List.set_cons_succ]
    refine' wpAnyH_take (i := 3) (oi := { dst := some 23, op := Op.load 5 (Operand.tmp 22), type := 5, pos := "law.go:80", after := #[{ on := 2, ground := Ground.data }, { on := 1, ground := Ground.guard }], guard := some (1, true) }) (v := .int .u8 (bt s 0).toNat) rfl (by kernel_rfl) (by kernel_rfl) (by kernel_rfl) (fun _ _ _ h => h) (yieldsIf_load5 (by rfl) _ rfl rfl (fun w' hs => first_byte hs.2.2.2)) (by assumption) ?qz23
    try simp only [Act.put, List.setIfInBounds_toArray, List.set_cons_zero, List.set_cons_succ]
    refine' wpAnyH_take (i := 4) (oi := { dst := some 24, op := Op.binOp BinOp.rem 5 (Operand.tmp 23) (Operand.const (Value.int IntKind.u8 2)) 5, type := 5, pos := "law.go:80", after := #[{ on := 3, ground := Ground.data }, { on := 1, ground := Ground.guard }], guard := some (1, true) }) (v := .int .u8 0) rfl (by kernel_rfl) (by kernel_rfl) (by kernel_rfl) (fun _ _ _ h => h) (yieldsIf_rem2 (by rfl) _ rfl rfl (HE.out ())) (by assumption) ?qz24
    try simp only [Act.put, List.setIfInBounds_toArray, List.set_cons_zero, List.set_cons_succ]
    refine' wpAnyH_take (i := 5) (oi := { dst := some 25, op := Op.binOp BinOp.eql 5 (Operand.tmp 24) (Operand.const (Value.int IntKind.u8 0)) 5, type := 4, pos := "law.go:80", after := #[{ on := 4, ground := Ground.data }, { on := 1, ground := Ground.guard }], guard := some (1, true) }) (v := .bool true) rfl (by kernel_rfl) (by kernel_rfl) (by kernel_rfl) (fun _ _ _ h => h) (yieldsIf_eq50 (by rfl) _ rfl rfl) (by assumption) ?qz25
    try simp only [Act.put, List.setIfInBounds_toArray, List.set_cons_zero, List.set_cons_succ]
    refine wpAnyH_ready (rs := [6]) (by kernel_rfl) (by simp) ?_
    refine AllReadyH.cons (o := { dst := some 26, op := Op.pick (Operand.tmp 21) (Operand.tmp 25) (Operand.const (Value.bool false)), type := 4, pos := "law.go:80", after := #[{ on := 1, ground := Ground.data }, { on := 5, ground := Ground.data }], guard := none }) rfl (fun K hK => ?_) AllReadyH.nil
    rw [if_pos (by rfl)]
    go_simp
    refine hK.out _ _ hHeld (fun hHeld => ?_)
    clear hK K
    try simp only [Act.put, List.setIfInBounds_toArray, List.set_cons_zero, List.set_cons_succ]
    refine' wpAnyH_take (i := 7) (oi := { dst := some 27, op := Op.move (Operand.tmp 26), type := 4, pos := "law.go:80", after := #[{ on := 6, ground := Ground.data }, { on := 1, ground := Ground.chain }], guard := none }) (v := .bool true) rfl (by kernel_rfl) (by kernel_rfl) (by kernel_rfl) (fun _ _ _ h => h) (.inl ⟨by rfl, fun _ _ => rfl⟩) (by assumption) ?qz26
    try simp only [Act.put, List.setIfInBounds_toArray, List.set_cons_zero, List.set_cons_succ]
    refine' wpAnyH_take (i := 8) (oi := { dst := some 28, op := Op.load 22 (Operand.tmp 6), type := 22, pos := "law.go:80", after := #[{ on := 7, ground := Ground.guard }], guard := some (7, true) }) (v := _) rfl (by kernel_rfl) (by kernel_rfl) (by kernel_rfl) (fun _ _ _ h => h) (yieldsIf_load_mid (by rfl) _ _ rfl gv39 0 rfl (u8s (k32 (bt s))) _ (fun w' hs => range_blk hs.2.2.2) Tryd.underlying22 rfl (k32_size' _)) (by assumption) ?qz27
    try simp only [Act.put, List.setIfInBounds_toArray, List.set_cons_zero, List.set_cons_succ]
    refine' wpAnyH_take (i := 9) (oi := { dst := some 29, op := Op.load 27 (Operand.tmp 3), type := 27, pos := "law.go:80", after := #[{ on := 7, ground := Ground.guard }], guard := some (7, true) }) (v := _) rfl (by kernel_rfl) (by kernel_rfl) (by kernel_rfl) (fun _ _ _ h => h) (yieldsIf_load_mid (by rfl) _ _ rfl gv13 0 rfl (cs) _ (fun w' hs => range_blk hs.2.1) Tryd.underlying27 rfl (fe_size' (H.len HF.out))) (by assumption) ?qz28
    try simp only [Act.put, List.setIfInBounds_toArray, List.set_cons_zero, List.set_cons_succ]
    refine wpAnyH_ready (rs := [10]) (by kernel_rfl) (by simp) ?_
    refine AllReadyH.cons (o := { dst := some 30, op := Op.call { callee := Callee.value (Operand.func 8), args := #[Operand.tmp 29], argTypes := #[27] }, type := 22, pos := "law.go:80", after := #[{ on := 9, ground := Ground.data }, { on := 7, ground := Ground.chain }, { on := 7, ground := Ground.guard }], guard := some (7, true) }) rfl (fun K hK => ?_) AllReadyH.nil
    rw [if_pos (by rfl)]
    go_simp
    with_reducible refine (H.bytes _ HF.out).mono ?_
    rintro _ wz29 ⟨rfl, hgz30⟩
    have hwz31 := World.grownBy.trans hw0_ hgz30
    refine hK.out _ _ ⟨hHeld.1.grown hgz30 (by simp), hHeld.2.1.grown hgz30 (by simp), hHeld.2.2.1.grown hgz30 (by simp), hHeld.2.2.2.grown hgz30 (by simp)⟩ (fun hHeld => ?_)
    clear hK K
    try simp only [Act.put, List.setIfInBounds_toArray, List.set_cons_zero, List.set_cons_succ]
    refine' wpAnyH_take (i := 11) (oi := { dst := some 31, op := Op.binOp BinOp.eql 22 (Operand.tmp 28) (Operand.tmp 30) 22, type := 4, pos := "law.go:80", after := #[{ on := 8, ground := Ground.data }, { on := 10, ground := Ground.data }, { on := 7, ground := Ground.guard }], guard := some (7, true) }) (v := .bool false) rfl (by kernel_rfl) (by kernel_rfl) (by kernel_rfl) (fun _ _ _ h => h) (yieldsIf_eql22 (by rfl) _ _ rfl rfl rfl HC.out) (by assumption) ?qz32
    try simp only [Act.put, List.setIfInBounds_toArray, List.set_cons_zero, List.set_cons_succ]
    refine' wpAnyH_take (i := 12) (oi := { dst := some 32, op := Op.move (Operand.tmp 31), type := 4, pos := "law.go:80", after := #[{ on := 11, ground := Ground.data }, { on := 10, ground := Ground.chain }, { on := 7, ground := Ground.guard }], guard := some (7, true) }) (v := .bool false) rfl (by kernel_rfl) (by kernel_rfl) (by kernel_rfl) (fun _ _ _ h => h) (.inl ⟨by rfl, fun _ _ => rfl⟩) (by assumption) ?qz33
    try simp only [Act.put, List.setIfInBounds_toArray, List.set_cons_zero, List.set_cons_succ]
    refine' wpAnyH_take (i := 13) (oi := { dst := some 33, op := Op.load 22 (Operand.tmp 6), type := 22, pos := "law.go:80", after := #[{ on := 12, ground := Ground.guard }], guard := some (12, false) }) (v := _) rfl (by kernel_rfl) (by kernel_rfl) (by kernel_rfl) (fun _ _ _ h => h) (yieldsIf_load_mid (by rfl) _ _ rfl gv39 0 rfl (u8s (k32 (bt s))) _ (fun w' hs => range_blk hs.2.2.2) Tryd.underlying22 rfl (k32_size' _)) (by assumption) ?qz34
    try simp only [Act.put, List.setIfInBounds_toArray, List.set_cons_zero, List.set_cons_succ]
    refine' wpAnyH_take (i := 14) (oi := { dst := some 34, op := Op.load 27 (Operand.tmp 3), type := 27, pos := "law.go:80", after := #[{ on := 12, ground := Ground.guard }], guard := some (12, false) }) (v := _) rfl (by kernel_rfl) (by kernel_rfl) (by kernel_rfl) (fun _ _ _ h => h) (yieldsIf_load_mid (by rfl) _ _ rfl gv13 0 rfl (cs) _ (fun w' hs => range_blk hs.2.1) Tryd.underlying27 rfl (fe_size' (H.len HF.out))) (by assumption) ?qz35
    try simp only [Act.put, List.setIfInBounds_toArray, List.set_cons_zero, List.set_cons_succ]
    refine wpAnyH_ready (rs := [15]) (by kernel_rfl) (by simp) ?_
    refine AllReadyH.cons (o := { dst := some 35, op := Op.call { callee := Callee.value (Operand.func 17), args := #[Operand.tmp 34], argTypes := #[27] }, type := 27, pos := "law.go:80", after := #[{ on := 14, ground := Ground.data }, { on := 12, ground := Ground.chain }, { on := 12, ground := Ground.guard }], guard := some (12, false) }) rfl (fun K hK => ?_) AllReadyH.nil
    rw [if_pos (by rfl)]
    go_simp
    with_reducible refine (HN.out _ _ (HT.out.more hwz31) HF.out).mono ?_
    rintro _ wz36 ⟨csn, hm, rfl, hgz37⟩
    have HM := Lib.hid hm
    clear hm
    have hwz38 := World.grownBy.trans hwz31 hgz37
    refine hK.out _ _ ⟨hHeld.1.grown hgz37 (by simp), hHeld.2.1.grown hgz37 (by simp), hHeld.2.2.1.grown hgz37 (by simp), hHeld.2.2.2.grown hgz37 (by simp)⟩ (fun hHeld => ?_)
    clear hK K
    try simp only [Act.put, List.setIfInBounds_toArray, List.set_cons_zero, List.set_cons_succ]
    refine wpAnyH_ready (rs := [16]) (by kernel_rfl) (by simp) ?_
    refine AllReadyH.cons (o := { dst := some 36, op := Op.call { callee := Callee.value (Operand.func 8), args := #[Operand.tmp 35], argTypes := #[27] }, type := 22, pos := "law.go:80", after := #[{ on := 15, ground := Ground.data }, { on := 15, ground := Ground.chain }, { on := 12, ground := Ground.guard }], guard := some (12, false) }) rfl (fun K hK => ?_) AllReadyH.nil
    rw [if_pos (by rfl)]
    go_simp
    with_reducible refine (H.bytes _ HM.out).mono ?_
    rintro _ wz39 ⟨rfl, hgz40⟩
    have hwz41 := World.grownBy.trans hwz38 hgz40
    refine hK.out _ _ ⟨hHeld.1.grown hgz40 (by simp), hHeld.2.1.grown hgz40 (by simp), hHeld.2.2.1.grown hgz40 (by simp), hHeld.2.2.2.grown hgz40 (by simp)⟩ (fun hHeld => ?_)
    clear hK K
    try simp only [Act.put, List.setIfInBounds_toArray, List.set_cons_zero, List.set_cons_succ]
    refine' wpAnyH_take (i := 17) (oi := { dst := some 37, op := Op.binOp BinOp.eql 22 (Operand.tmp 33) (Operand.tmp 36) 22, type := 4, pos := "law.go:80", after := #[{ on := 13, ground := Ground.data }, { on := 16, ground := Ground.data }, { on := 12, ground := Ground.guard }], guard := some (12, false) }) (v := .bool true) rfl (by kernel_rfl) (by kernel_rfl) (by kernel_rfl) (fun _ _ _ h => h) (yieldsIf_eql22 (by rfl) _ _ rfl rfl rfl (same32 _)) (by assumption) ?qz42
    try simp only [Act.put, List.setIfInBounds_toArray, List.set_cons_zero, List.set_cons_succ]
    refine wpAnyH_ready (rs := [18]) (by kernel_rfl) (by simp) ?_
    refine AllReadyH.cons (o := { dst := some 38, op := Op.pick (Operand.tmp 32) (Operand.const (Value.bool true)) (Operand.tmp 37), type := 4, pos := "law.go:80", after := #[{ on := 12, ground := Ground.data }, { on := 17, ground := Ground.data }, { on := 7, ground := Ground.guard }], guard := some (7, true) }) rfl (fun K hK => ?_) AllReadyH.nil
    rw [if_pos (by rfl)]
    go_simp
    refine hK.out _ _ hHeld (fun hHeld => ?_)
    clear hK K
    try simp only [Act.put, List.setIfInBounds_toArray, List.set_cons_zero, List.set_cons_succ]
    refine wpAnyH_ready (rs := [19]) (by kernel_rfl) (by simp) ?_
    refine AllReadyH.cons (o := { dst := some 39, op := Op.pick (Operand.tmp 27) (Operand.tmp 38) (Operand.const (Value.bool false)), type := 4, pos := "law.go:80", after := #[{ on := 7, ground := Ground.data }, { on := 18, ground := Ground.data }], guard := none }) rfl (fun K hK => ?_) AllReadyH.nil
    rw [if_pos (by rfl)]
    go_simp
    refine hK.out _ _ hHeld (fun hHeld => ?_)
    clear hK K
    try simp only [Act.put, List.setIfInBounds_toArray, List.set_cons_zero, List.set_cons_succ]
    refine wpAnyH_ready (rs := [20]) (by kernel_rfl) (by simp) ?_
    refine AllReadyH.cons (o := { dst := some 2, op := Op.assign (Operand.tmp 39), type := 4, pos := "law.go:80", after := #[{ on := 19, ground := Ground.data }, { on := 16, ground := Ground.chain }, { on := 0, ground := Ground.phase }, { on := 1, ground := Ground.phase }, { on := 2, ground := Ground.phase }, { on := 3, ground := Ground.phase }, { on := 4, ground := Ground.phase }, { on := 5, ground := Ground.phase }, { on := 6, ground := Ground.phase }, { on := 7, ground := Ground.phase }, { on := 8, ground := Ground.phase }, { on := 9, ground := Ground.phase }, { on := 10, ground := Ground.phase }, { on := 11, ground := Ground.phase }, { on := 12, ground := Ground.phase }, { on := 13, ground := Ground.phase }, { on := 14, ground := Ground.phase }, { on := 15, ground := Ground.phase }, { on := 16, ground := Ground.phase }, { on := 17, ground := Ground.phase }, { on := 18, ground := Ground.phase }, { on := 19, ground := Ground.phase }], guard := none }) rfl (fun K hK => ?_) AllReadyH.nil
    rw [if_pos (by rfl)]
    go_simp
    refine hK.out _ _ hHeld (fun hHeld => ?_)
    clear hK K
    try simp only [Act.put, List.setIfInBounds_toArray, List.set_cons_zero, List.set_cons_succ]
    refine wpAnyH_done (by kernel_rfl) ?_ _
    go_wp2_with (fail)
    go_ret
    exact ⟨rfl, hwz41⟩
theorem even_first {s : Nat} (h : s % 2 = 0) : (bt s 0).toNat % 2 = 0 := by
  have := bt_low s 0 (by decide)
  rw [show (⟨2 * 0, by decide⟩ : Fin 32) = 0 from rfl] at this
  rw [this]
  unfold dgt
  omega
theorem fieldSquares_walk {Fe : List Value → Nat → Prop} (H : FeSays Fe) {w : World} (ht : Tab w) (k : Fin 32 → UInt8) : Calls Tryd.prog 6 #[.agg (u8s (k32 k)).toArray] w fun e w' => e = .returned (.bool true) ∧ w.grownBy w' none := by
  have hof := fun W => H.of W k
  have hx := val_lt k
  generalize val k = V at hof hx
  have hp := hx
  rw [fq_fp] at hp
  have hr := rootN_square hp
  have hev := evn_even hp
  refine fieldSquares_walk0 H ht k V (V * V % fq) (evn V) (ng V) hof (fun w cs ds h h' => H.mul w h h') (fun w cs h1 h => ?_) (fun w cs h1 h => H.neg h1 h) (fun _ => even_first hev) ?_
  · refine (root_got H h1 h).mono ?_
    rintro _ w' ⟨es, h1, rfl, hg⟩
    unfold rootD rootIs at *
    rw [← fq_fp] at hr
    rw [hr] at h1 ⊢
    exact ⟨es, h1, rfl, hg⟩
  · rw [← evn_ng hx]
    by_cases h1 : V % 2 = 1
    · rw [if_pos h1]
      refine .inr ⟨rfl, ?_⟩
      rw [bt_eq (ng_lt V) hx, decide_eq_false_iff_not]
      have h2 := evn_ng hx
      rw [if_pos h1] at h2
      intro h3
      rw [h3] at h2
      rw [← h2] at hev
      omega
    · rw [if_neg h1]
      exact .inl rfl
end Go.Proofs.YtoookolekpblhaaDoor
