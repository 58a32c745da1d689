/- wire.itemShape of an item with no more than a kind, an asker and a peer. Conditions: none. -/
import Derived.Test.YtklcjjmeknajlaaF
namespace Go.Proofs.Ytklcjjmeknajlaa
open Go.RowKit
theorem grown_drew (w : World) : w.grownBy w.drew none := ⟨rfl, rfl, rfl, Nat.le_refl _, fun _ _ _ => rfl⟩
theorem yieldsIf_buildS {ops : Array Oper} {S : World → Prop} {o : Oper} {a : Act} (hw : Region.wanted o (yielded ops a.tmps) = true) (x0 x1 x2 x3 x4 x5 : Operand) (ho : o.op = .build 79 #[(0, x0), (1, x1), (2, x2), (3, x3), (4, x4), (5, x5)]) (k b p : Int)
    (h0 : a.eval x0 = .int .u8 k) (h1 : a.eval x1 = .int .u8 b) (h2 : a.eval x2 = .int .u8 p) (h3 : a.eval x3 = .agg (lz (.int .i64 0)).toArray) (h4 : a.eval x4 = .agg bz.toArray) (h5 : a.eval x5 = .agg (oz (.int .i64 0)).toArray) : YieldsIf Try.prog ops S o (.agg (sv k b p).toArray) a :=
  .inl ⟨hw, fun w _ => by
    have hrun := run_buildS w k b p
    generalize sv k b p = q0 at *
    generalize lz (.int .i64 0) = q1 at *
    generalize bz = q2 at *
    generalize oz (.int .i64 0) = q3 at *
    unfold execOp
    simp only [ho, List.map_toArray, List.map_cons, List.map_nil, h0, h1, h2, h3, h4, h5, Sem.run_bind, hrun, Result.andThen_ok, Sem.run_pure]⟩
theorem ic_l {w : World} {g : Nat} {t : TypeId} {k a p : Int} (h : Blk w g t (ic k a p)) : w.rangeAt g 3 (lz nl) := range_mid h (pre := [.int .u8 k, .int .u8 a, .int .u8 p]) (post := bz ++ oz nl) rfl rfl
theorem ic_b {w : World} {g : Nat} {t : TypeId} {k a p : Int} (h : Blk w g t (ic k a p)) : w.rangeAt g 170 bz := range_mid h (pre := .int .u8 k :: .int .u8 a :: .int .u8 p :: lz nl) (post := oz nl) rfl (by show (lz nl).length + 3 = 170; rw [lz_length])
theorem ic_o {w : World} {g : Nat} {t : TypeId} {k a p : Int} (h : Blk w g t (ic k a p)) : w.rangeAt g 332 (oz nl) := range_mid h (pre := .int .u8 k :: .int .u8 a :: .int .u8 p :: (lz nl ++ bz)) (post := []) (by simp [ic, List.append_assoc]) (by show (lz nl ++ bz).length + 3 = 332; rw [List.length_append, lz_length, bz_length])
set_option maxRecDepth 100000 in
set_option maxHeartbeats 4000000 in
theorem ishape_any (w : World) (k a p : Int) : Calls Try.prog 21 #[.agg (ic k a p).toArray] w (NewV w (.agg (sv k a p).toArray)) := by
  obtain ⟨z, hz'⟩ : ∃ z, z = ic k a p := ⟨_, rfl⟩
  obtain ⟨y, hy⟩ : ∃ y, y = sv k a p := ⟨_, rfl⟩
  have HZ := Lib.hid hz'
  have HY := Lib.hid hy
  rw [← hz', ← hy]
  clear hz' hy
  go_enter Try.func21, Try.ntmps21
  go_wp2_with (first | (refine wpList_boxG rfl _ rfl (vs := z) rfl ?_) | fail)
  intro g w1 hg hbk hgr
  have HB := Lib.hid hbk.out
  have H1 := Lib.hid hgr.out
  clear hg hbk hgr
  go_wp2_with (first | (refine wpList_allocG zeS rfl rfl ?_) | fail)
  intro g2 w2 hg2 hbk2 hgr2
  have hb : Blk w2 g 49 (ic k a p) := by have h := HB.out.grown hgr2.out (by simp); rw [HZ.out] at h; exact h
  have HBI := Lib.hid hb
  have HG2 : Hid (w.heap.size ≤ g2) := by have h := H1.out.size; rw [hg2.out]; exact h
  have HNE : Hid (g ≠ g2) := by have h := HB.out.lt; rw [hg2.out]; exact Nat.ne_of_lt h
  have HB2 := Lib.hid hbk2.out
  have H2 := Lib.hid (H1.out.trans hgr2.out)
  clear hg2 hbk2 hgr2 hb
  go_wp2_with fail
  refine wp_region_held_drew (S := fun W => Blk W g 49 (ic k a p)) (by kernel_rfl) HBI.out (fun hHeld => ?_)
  obtain ⟨W, hW⟩ : ∃ W, W = w2.drew := ⟨_, rfl⟩
  have HBW : Hid (Blk W g2 79 (sv 0 0 0)) := by rw [hW]; exact HB2.out
  have HGW : Hid (w.grownBy W none) := by rw [hW]; exact H2.out.trans (grown_drew w2)
  rw [← hW] at hHeld ⊢
  clear hW
  refine' wpAnyH_take (i := 0) (oi := { dst := some 3, op := Op.fieldAddr 49 (Operand.tmp 1) 0, type := 0, pos := "shape.go:46", after := #[], guard := none }) (v := .pointer (some ⟨g, 0, none⟩)) rfl (by kernel_rfl) (by kernel_rfl) (by kernel_rfl) (fun _ _ _ h => h) (Or.inl ⟨by rfl, fun w' hSw => by go_simp⟩) (by assumption) ?qz1
  try simp only [Act.put, List.setIfInBounds_toArray, List.set_cons_zero, List.set_cons_succ]
  refine' wpAnyH_take (i := 1) (oi := { dst := some 4, op := Op.load 5 (Operand.tmp 3), type := 5, pos := "shape.go:46", after := #[{ on := 0, ground := Ground.data }], guard := none }) (v := .int .u8 k) rfl (by kernel_rfl) (by kernel_rfl) (by kernel_rfl) (fun _ _ _ h => h) (Or.inl ⟨by rfl, fun w' hSw => by have h3 := hSw.get 0 _ (by rfl); go_simp⟩) (by assumption) ?qz2
  try simp only [Act.put, List.setIfInBounds_toArray, List.set_cons_zero, List.set_cons_succ]
  refine' wpAnyH_take (i := 2) (oi := { dst := some 5, op := Op.fieldAddr 49 (Operand.tmp 1) 1, type := 0, pos := "shape.go:46", after := #[], guard := none }) (v := .pointer (some ⟨g, 1, none⟩)) rfl (by kernel_rfl) (by kernel_rfl) (by kernel_rfl) (fun _ _ _ h => h) (Or.inl ⟨by rfl, fun w' hSw => by go_simp⟩) (by assumption) ?qz3
  try simp only [Act.put, List.setIfInBounds_toArray, List.set_cons_zero, List.set_cons_succ]
  refine' wpAnyH_take (i := 3) (oi := { dst := some 6, op := Op.load 5 (Operand.tmp 5), type := 5, pos := "shape.go:46", after := #[{ on := 2, ground := Ground.data }], guard := none }) (v := .int .u8 a) rfl (by kernel_rfl) (by kernel_rfl) (by kernel_rfl) (fun _ _ _ h => h) (Or.inl ⟨by rfl, fun w' hSw => by have h3 := hSw.get 1 _ (by rfl); go_simp⟩) (by assumption) ?qz4
  try simp only [Act.put, List.setIfInBounds_toArray, List.set_cons_zero, List.set_cons_succ]
  refine' wpAnyH_take (i := 4) (oi := { dst := some 7, op := Op.fieldAddr 49 (Operand.tmp 1) 2, type := 0, pos := "shape.go:46", after := #[], guard := none }) (v := .pointer (some ⟨g, 2, none⟩)) rfl (by kernel_rfl) (by kernel_rfl) (by kernel_rfl) (fun _ _ _ h => h) (Or.inl ⟨by rfl, fun w' hSw => by go_simp⟩) (by assumption) ?qz5
  try simp only [Act.put, List.setIfInBounds_toArray, List.set_cons_zero, List.set_cons_succ]
  refine' wpAnyH_take (i := 5) (oi := { dst := some 8, op := Op.load 5 (Operand.tmp 7), type := 5, pos := "shape.go:46", after := #[{ on := 4, ground := Ground.data }], guard := none }) (v := .int .u8 p) rfl (by kernel_rfl) (by kernel_rfl) (by kernel_rfl) (fun _ _ _ h => h) (Or.inl ⟨by rfl, fun w' hSw => by have h3 := hSw.get 2 _ (by rfl); go_simp⟩) (by assumption) ?qz6
  try simp only [Act.put, List.setIfInBounds_toArray, List.set_cons_zero, List.set_cons_succ]
  refine' wpAnyH_take (i := 6) (oi := { dst := some 9, op := Op.fieldAddr 49 (Operand.tmp 1) 3, type := 0, pos := "shape.go:46", after := #[], guard := none }) (v := .pointer (some ⟨g, 3, none⟩)) rfl (by kernel_rfl) (by kernel_rfl) (by kernel_rfl) (fun _ _ _ h => h) (Or.inl ⟨by rfl, fun w' hSw => by go_simp⟩) (by assumption) ?qz7
  try simp only [Act.put, List.setIfInBounds_toArray, List.set_cons_zero, List.set_cons_succ]
  refine' wpAnyH_take (i := 7) (oi := { dst := some 10, op := Op.load 39 (Operand.tmp 9), type := 39, pos := "shape.go:46", after := #[{ on := 6, ground := Ground.data }], guard := none }) (v := .agg (lz nl).toArray) rfl (by kernel_rfl) (by kernel_rfl) (by kernel_rfl) (fun _ _ _ h => h) (yieldsIf_loadR agL (by rfl) (.tmp 9) rfl g 3 rfl (lz_length _) (fun _ h => ic_l h)) (by assumption) ?qz8
  try simp only [Act.put, List.setIfInBounds_toArray, List.set_cons_zero, List.set_cons_succ]
  refine' wpAnyH_take (i := 9) (oi := { dst := some 12, op := Op.fieldAddr 49 (Operand.tmp 1) 4, type := 0, pos := "shape.go:46", after := #[], guard := none }) (v := .pointer (some ⟨g, 170, none⟩)) rfl (by kernel_rfl) (by kernel_rfl) (by kernel_rfl) (fun _ _ _ h => h) (Or.inl ⟨by rfl, fun w' hSw => by go_simp⟩) (by assumption) ?qz9
  try simp only [Act.put, List.setIfInBounds_toArray, List.set_cons_zero, List.set_cons_succ]
  refine' wpAnyH_take (i := 10) (oi := { dst := some 13, op := Op.load 43 (Operand.tmp 12), type := 43, pos := "shape.go:46", after := #[{ on := 9, ground := Ground.data }], guard := none }) (v := .agg bz.toArray) rfl (by kernel_rfl) (by kernel_rfl) (by kernel_rfl) (fun _ _ _ h => h) (yieldsIf_loadR agB (by rfl) (.tmp 12) rfl g 170 rfl bz_length (fun _ h => ic_b h)) (by assumption) ?qz10
  try simp only [Act.put, List.setIfInBounds_toArray, List.set_cons_zero, List.set_cons_succ]
  refine' wpAnyH_take (i := 11) (oi := { dst := some 14, op := Op.fieldAddr 49 (Operand.tmp 1) 5, type := 0, pos := "shape.go:46", after := #[], guard := none }) (v := .pointer (some ⟨g, 332, none⟩)) rfl (by kernel_rfl) (by kernel_rfl) (by kernel_rfl) (fun _ _ _ h => h) (Or.inl ⟨by rfl, fun w' hSw => by go_simp⟩) (by assumption) ?qz11
  try simp only [Act.put, List.setIfInBounds_toArray, List.set_cons_zero, List.set_cons_succ]
  refine' wpAnyH_take (i := 12) (oi := { dst := some 15, op := Op.load 47 (Operand.tmp 14), type := 47, pos := "shape.go:46", after := #[{ on := 11, ground := Ground.data }], guard := none }) (v := .agg (oz nl).toArray) rfl (by kernel_rfl) (by kernel_rfl) (by kernel_rfl) (fun _ _ _ h => h) (yieldsIf_loadR agO (by rfl) (.tmp 14) rfl g 332 rfl (oz_length _) (fun _ h => ic_o h)) (by assumption) ?qz12
  try simp only [Act.put, List.setIfInBounds_toArray, List.set_cons_zero, List.set_cons_succ]
  refine wpAnyH_ready (rs := [8]) (by kernel_rfl) (by simp) ?_
  refine AllReadyH.cons (o := { dst := some 11, op := Op.call { callee := Callee.value (Operand.func 31), args := #[Operand.tmp 10], argTypes := #[39] }, type := 75, pos := "shape.go:46", after := #[{ on := 7, ground := Ground.data }], guard := none }) rfl (fun K hK => ?_) AllReadyH.nil
  rw [if_pos (by rfl)]
  go_simp
  with_reducible refine (lshape_any _).mono ?_
  rintro _ vz13 ⟨rfl, gz14⟩
  have bz15 := HBW.out.grown gz14 (by simp)
  have hz16 := World.grownBy.trans HGW.out gz14
  refine hK.out _ _ (hHeld.grown gz14 (by simp)) (fun hHeld => ?_)
  clear hK K
  try simp only [Act.put, List.setIfInBounds_toArray, List.set_cons_zero, List.set_cons_succ]
  refine wpAnyH_ready (rs := [13]) (by kernel_rfl) (by simp) ?_
  refine AllReadyH.cons (o := { dst := some 16, op := Op.call { callee := Callee.value (Operand.func 32), args := #[Operand.tmp 15], argTypes := #[47] }, type := 77, pos := "shape.go:46", after := #[{ on := 12, ground := Ground.data }, { on := 8, ground := Ground.chain }], guard := none }) rfl (fun K hK => ?_) AllReadyH.nil
  rw [if_pos (by rfl)]
  go_simp
  with_reducible refine (oshape_any _).mono ?_
  rintro _ vz17 ⟨rfl, gz18⟩
  have bz19 := bz15.grown gz18 (by simp)
  have hz20 := World.grownBy.trans hz16 gz18
  refine hK.out _ _ (hHeld.grown gz18 (by simp)) (fun hHeld => ?_)
  clear hK K
  try simp only [Act.put, List.setIfInBounds_toArray, List.set_cons_zero, List.set_cons_succ]
  refine' wpAnyH_take (i := 14) (oi := { dst := some 17, op := Op.build 79 #[(0, Operand.tmp 4), (1, Operand.tmp 6), (2, Operand.tmp 8), (3, Operand.tmp 11), (4, Operand.tmp 13), (5, Operand.tmp 16)], type := 79, pos := "shape.go:46", after := #[{ on := 1, ground := Ground.data }, { on := 3, ground := Ground.data }, { on := 5, ground := Ground.data }, { on := 8, ground := Ground.data }, { on := 10, ground := Ground.data }, { on := 13, ground := Ground.data }], guard := none }) (v := .agg (sv k a p).toArray) rfl (by kernel_rfl) (by kernel_rfl) (by kernel_rfl) (fun _ _ _ h => h) (yieldsIf_buildS (by rfl) (.tmp 4) (.tmp 6) (.tmp 8) (.tmp 11) (.tmp 13) (.tmp 16) rfl k a p rfl rfl rfl rfl rfl rfl) (by assumption) ?qz21
  try simp only [Act.put, List.setIfInBounds_toArray, List.set_cons_zero, List.set_cons_succ]
  refine wpAnyH_ready (rs := [15]) (by kernel_rfl) (by simp) ?_
  refine AllReadyH.cons (o := { dst := none, op := Op.store 79 (Operand.tmp 2) (Operand.tmp 17), type := 0, pos := "shape.go:46", after := #[{ on := 14, ground := Ground.data }, { on := 13, ground := Ground.chain }, { on := 0, ground := Ground.phase }, { on := 1, ground := Ground.phase }, { on := 2, ground := Ground.phase }, { on := 3, ground := Ground.phase }, { on := 4, ground := Ground.phase }, { on := 5, ground := Ground.phase }, { on := 6, ground := Ground.phase }, { on := 7, ground := Ground.phase }, { on := 8, ground := Ground.phase }, { on := 9, ground := Ground.phase }, { on := 10, ground := Ground.phase }, { on := 11, ground := Ground.phase }, { on := 12, ground := Ground.phase }, { on := 13, ground := Ground.phase }, { on := 14, ground := Ground.phase }], guard := none }) rfl (fun K hK => ?_) AllReadyH.nil
  rw [if_pos (by rfl)]
  refine wp_storeG agS _ _ rfl g2 rfl rfl bz19 (sv_length _ _ _) (sv_length _ _ _) (sv_one _ _ _) (fun w5 hb5 hg5 hz5 => ?_)
  refine hK.out _ _ (hHeld.grown hg5.out (by simpa using HNE.out)) (fun hHeld => ?_)
  clear hK K
  dsimp only [Act.put]
  refine wpAnyH_done (by kernel_rfl) ?_ _
  go_wp2_with fail
  refine bodyPost_ret (res_c rfl agS rfl hb5.out (sv_length _ _ _)) rfl ⟨by rw [HY.out], grown_in hz20 hg5.out HG2.out⟩
end Go.Proofs.Ytklcjjmeknajlaa
