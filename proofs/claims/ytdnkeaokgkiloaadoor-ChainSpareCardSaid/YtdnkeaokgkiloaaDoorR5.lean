/- chain.Root. Conditions: there is room for two more terms. -/
import Derived.Test.YtdnkeaokgkiloaaDoorR3
namespace Go.Proofs.YtdnkeaokgkiloaaDoor
open Go.RowKit T
theorem Reg.base {w w5 v : World} {ok okX : Nat → Prop} {p : Option Nat} {τ : Sg} (h : Reg w5 v ok okX p τ) (hg : w.grownBy w5 none) : Reg w v ok okX p τ :=
  ⟨h.sui, ⟨h.md.os.trans hg.os, h.md.tape.trans hg.tape, h.md.output.trans hg.output, Nat.le_trans hg.size h.md.size, fun k hk hn => (h.md.block k (Nat.lt_of_lt_of_le hk hg.size) hn).trans (hg.block k hk (by simp))⟩,
    fun b hb => (h.sub b hb).imp id fun h => ⟨Nat.le_trans hg.size h.1, h.2⟩⟩
/-- The next root, the new row's key, and the suite then. -/
def rootA (σ : Sg) (r s : List UInt8) : List UInt8 := mixV σ 82 [r, s]
def rootB (σ : Sg) (r s : List UInt8) : List UInt8 := mixV (mixS σ 82 [r, s]) 67 [r, s]
def rootS (σ : Sg) (r s : List UInt8) : Sg := mixS (mixS σ 82 [r, s]) 67 [r, s]
theorem rootA_length (σ : Sg) (r s : List UInt8) : (rootA σ r s).length = 32 := mixV_length _ _ _
theorem rootB_length (σ : Sg) (r s : List UInt8) : (rootB σ r s).length = 32 := mixV_length _ _ _
set_option maxRecDepth 100000 in
set_option maxHeartbeats 16000000 in
theorem root_any {w : World} {ok : Nat → Prop} {p : Option Nat} {σ : Sg} {r s : List UInt8} (h : Sui w ok p σ) (hr : Room 59900 σ) (hk : r.length = 32) (hs : s.length = 32) :
    Calls Tryd.prog 10 #[tab p, .agg (u8s r).toArray, .agg (u8s s).toArray] w fun e w' => e = .returned (.tuple #[.agg (u8s (rootA σ r s)).toArray, .agg (u8s (rootB σ r s)).toArray, .bool true]) ∧ Nx w ok p (rootS σ r s) w' := by
  obtain ⟨a, ha⟩ : ∃ a, a = rootA σ r s := ⟨_, rfl⟩
  obtain ⟨b, hb⟩ : ∃ b, b = rootB σ r s := ⟨_, rfl⟩
  obtain ⟨σ2, h2⟩ : ∃ t, t = rootS σ r s := ⟨_, rfl⟩
  rw [← ha, ← hb, ← h2]
  have hal : a.length = 32 := by rw [ha]; exact rootA_length _ _ _
  have hbl : b.length = 32 := by rw [hb]; exact rootB_length _ _ _
  obtain ⟨pv, hpv⟩ : ∃ v, v = Value.pointer (p.map fun b => (⟨b, 0, none⟩ : Addr)) := ⟨_, rfl⟩
  have htab : tab p = .agg [pv].toArray := by rw [hpv]; rfl
  obtain ⟨z, hz⟩ : ∃ z, z = u8s r := ⟨_, rfl⟩
  obtain ⟨y, hy⟩ : ∃ y, y = u8s s := ⟨_, rfl⟩
  have HA := Lib.hid ha
  have HB := Lib.hid hb
  have H2 := Lib.hid h2
  have HAL := Lib.hid hal
  have HBL := Lib.hid hbl
  have HS := Lib.hid h
  have HR := Lib.hid hr
  have HK := Lib.hid hk
  have HK2 := Lib.hid hs
  have HZ := Lib.hid hz
  have HY := Lib.hid hy
  have HTAB := Lib.hid htab
  rw [htab, ← hz, ← hy]
  clear ha hb h2 hal hbl h hr hk hs hz hy htab hpv
  go_enter Tryd.func10, Tryd.ntmps10
  go_wp2_with (first | (refine wpList_boxG rfl _ rfl (vs := [pv]) rfl ?_) | fail)
  intro g3 w1 e3 k3 q3
  go_wp2_with (first | (refine wpList_boxG rfl _ rfl (vs := z) rfl ?_) | fail)
  intro g4 w2 e4 k4 q4
  go_wp2_with (first | (refine wpList_boxG rfl _ rfl (vs := y) rfl ?_) | fail)
  intro g5 w3 e5 k5 q5
  go_wp2_with (first | (refine wpList_allocG zeY rfl rfl ?_) | fail)
  intro g6 w4 e6 k6 q6
  go_wp2_with (first | (refine wpList_allocG zeY rfl rfl ?_) | fail)
  intro g7 w5 e7 k7 q7
  have G5 := Lib.hid ((((q3.out.trans q4.out).trans q5.out).trans q6.out).trans q7.out)
  have B3 := Lib.hid ((((k3.out.grown q4.out (by simp)).grown q5.out (by simp)).grown q6.out (by simp)).grown q7.out (by simp))
  have B4 : Hid (C.Blk w5 g4 24 (u8s r)) := by have hh := ((k4.out.grown q5.out (by simp)).grown q6.out (by simp)).grown q7.out (by simp); rw [HZ.out] at hh; exact hh
  have B5 : Hid (C.Blk w5 g5 24 (u8s s)) := by have hh := (k5.out.grown q6.out (by simp)).grown q7.out (by simp); rw [HY.out] at hh; exact hh
  have B6 := Lib.hid (k6.out.grown q7.out (by simp))
  have B7 := Lib.hid k7.out
  have NE : Hid (w.heap.size ≤ g3 ∧ g3 < g4 ∧ g4 < g5 ∧ g5 < g6 ∧ g6 < g7 ∧ g7 < w5.heap.size) := by
    have a1 := e3.out; have a2 := e4.out; have a3 := e5.out; have a4 := e6.out; have a5 := e7.out; have b1 := k3.out.lt; have b2 := k4.out.lt; have b3 := k5.out.lt; have b4 := k6.out.lt; have b5 := k7.out.lt
    show _ ∧ _
    omega
  have NOK : Hid (∀ g, w.heap.size ≤ g → ¬ ok g) := fun g hg hb => by have := HS.out.lt g hb; omega
  have S5 := Lib.hid (HS.out.grown G5.out)
  clear e3 k3 q3 e4 k4 q4 e5 k5 q5 e6 k6 q6 e7 k7 q7
  go_wp2_with fail
  have NG3 := Lib.hid (NOK.out g3 (by have := NE.out; omega))
  have NG4 := Lib.hid (NOK.out g4 (by have := NE.out; omega))
  have NG5 := Lib.hid (NOK.out g5 (by have := NE.out; omega))
  have NG6 := Lib.hid (NOK.out g6 (by have := NE.out; omega))
  have NG7 := Lib.hid (NOK.out g7 (by have := NE.out; omega))
  have NOK5 : ∀ g, w5.heap.size ≤ g → ¬ ok g := fun g hg => NOK.out g (Nat.le_trans G5.out.size hg)
  have W6 : Hid (w.heap.size ≤ g6) := by have := NE.out; show _ ≤ _; omega
  have W7 : Hid (w.heap.size ≤ g7) := by have := NE.out; show _ ≤ _; omega
  have N67 : Hid (g6 ≠ g7) := by have := NE.out; show g6 ≠ g7; omega
  have N76 : Hid (g7 ≠ g6) := by have := NE.out; show g7 ≠ g6; omega
  have N36 : Hid (g3 ≠ g6) := by have := NE.out; show g3 ≠ g6; omega
  have N37 : Hid (g3 ≠ g7) := by have := NE.out; show g3 ≠ g7; omega
  refine wp_region_held_drew (S := fun W => W.rangeAt g3 0 [pv]) (by kernel_rfl) (range_of B3.out) (fun hHeld => ?_)
  have R0 := Reg.start S5.out
  obtain ⟨v0, hv0⟩ : ∃ v, v = w5.drew := ⟨_, rfl⟩
  rw [← hv0] at hHeld R0 ⊢
  clear hv0
  refine' wpAnyH_take (i := 0) (oi := { dst := some 9, op := Op.load 29 (Operand.tmp 3), type := 29, pos := "chain.go:21", after := #[], guard := none }) (v := .agg [pv].toArray) rfl (by kernel_rfl) (by kernel_rfl) (by kernel_rfl) (fun _ _ _ h => h) (yieldsIf_loadR agS (by rfl) (.tmp 3) rfl g3 0 rfl rfl (fun _ h => h)) (by assumption) ?qz1
  try simp only [Act.put, List.setIfInBounds_toArray, List.set_cons_zero, List.set_cons_succ]
  refine' wpAnyH_take (i := 1) (oi := { dst := some 10, op := Op.slice 24 (Operand.tmp 4) none none none, type := 66, pos := "chain.go:21", after := #[], guard := none }) (v := .slice (some ⟨g4, 0, none⟩) 32 32) rfl (by kernel_rfl) (by kernel_rfl) (by kernel_rfl) (fun _ _ _ h => h) (Or.inl ⟨by rfl, fun w' hSw => by go_simp⟩) (by assumption) ?qz2
  try simp only [Act.put, List.setIfInBounds_toArray, List.set_cons_zero, List.set_cons_succ]
  refine' wpAnyH_take (i := 2) (oi := { dst := some 11, op := Op.slice 24 (Operand.tmp 5) none none none, type := 66, pos := "chain.go:21", after := #[], guard := none }) (v := .slice (some ⟨g5, 0, none⟩) 32 32) rfl (by kernel_rfl) (by kernel_rfl) (by kernel_rfl) (fun _ _ _ h => h) (Or.inl ⟨by rfl, fun w' hSw => by go_simp⟩) (by assumption) ?qz3
  try simp only [Act.put, List.setIfInBounds_toArray, List.set_cons_zero, List.set_cons_succ]
  refine wpAnyH_ready (rs := [3]) (by kernel_rfl) (by simp) ?_
  refine AllReadyH.cons (o := { dst := some 12, op := Op.buildSlice 75 2 #[(0, Operand.tmp 10), (1, Operand.tmp 11)], type := 75, pos := "chain.go:21", after := #[{ on := 1, ground := Ground.data }, { on := 2, ground := Ground.data }], guard := none }) rfl (fun K hK => ?_) AllReadyH.nil
  rw [if_pos (by rfl)]
  go_simp
  have qz5 := World.grownBy_alloc v0 (.cells #[.slice (some ⟨g4, 0, none⟩) 32 32, .slice (some ⟨g5, 0, none⟩) 32 32] 66) none
  obtain ⟨vz4, hvz6⟩ : ∃ w', v0.alloc (.cells #[.slice (some ⟨g4, 0, none⟩) 32 32, .slice (some ⟨g5, 0, none⟩) 32 32] 66) = w' := ⟨_, rfl⟩
  obtain ⟨gl, hgl⟩ : ∃ g, g = v0.heap.size := ⟨_, rfl⟩
  have lz7 := lst_two HK.out HK2.out (byt_of0 (Reg.blk R0 B4.out NG4.out)) (byt_of0 (Reg.blk R0 B5.out NG5.out)) (Reg.blk R0 B4.out NG4.out).lt (Reg.blk R0 B5.out NG5.out).lt hvz6 hgl
  rw [hvz6] at qz5 ⊢
  rw [← hgl]
  have nlz8 : ¬ ok gl := NOK5 gl (by rw [hgl]; exact R0.md.size)
  have Rz9 := R0.alloc qz5
  have hll : gl < vz4.heap.size := by rw [← hvz6, World.size_alloc, hgl]; exact Nat.lt_succ_self _
  clear hgl hvz6
  refine hK.out _ _ (range_of (Reg.blk Rz9 B3.out NG3.out)) (fun hHeld => ?_)
  clear hK K
  try simp only [Act.put, List.setIfInBounds_toArray, List.set_cons_zero, List.set_cons_succ]
  refine wpAnyH_ready (rs := [4]) (by kernel_rfl) (by simp) ?_
  refine AllReadyH.cons (o := { dst := some 13, op := Op.call { callee := Callee.value (Operand.func 23), args := #[Operand.tmp 9, Operand.const (Value.int IntKind.u8 82), Operand.const (Value.int IntKind.u8 67), Operand.tmp 12], argTypes := #[29, 5, 5, 75] }, type := 25, pos := "chain.go:21", after := #[{ on := 0, ground := Ground.data }, { on := 3, ground := Ground.data }], guard := none }) rfl (fun K hK => ?_) AllReadyH.nil
  rw [if_pos (by rfl)]
  go_simp
  have hcz12 : Calls Tryd.prog 23 #[.agg #[pv], .int .u8 82, .int .u8 67, .slice (some ⟨gl, 0, none⟩) 2 2] vz4 fun e w' => e = .returned (.tuple #[.agg (u8s a).toArray, .agg (u8s b).toArray, .bool true]) ∧ Nx vz4 ok p σ2 w' := by
    have h := mixes_any (c := 2) 82 67 Rz9.sui HR.out lz7 (fun b hb => hb.elim (fun e => by rw [e]; exact ⟨(Reg.blk Rz9 B4.out NG4.out).lt, NG4.out⟩) (fun hb => hb.elim (fun e => by rw [e]; exact ⟨(Reg.blk Rz9 B5.out NG5.out).lt, NG5.out⟩) (fun e => by rw [e]; exact ⟨hll, nlz8⟩))) rfl (mixOk_two HK.out HK2.out)
    rw [HTAB.out] at h
    refine h.mono fun e w' ⟨he, hn⟩ => ⟨?_, by rw [H2.out]; exact hn⟩
    rw [HA.out, HB.out]
    exact he
  with_reducible refine hcz12.mono ?_
  rintro _ vz10 ⟨rfl, nxz11⟩
  have Rz13 := Rz9.call nxz11
  have nz14 : ¬ More ok vz4 vz10 g6 := More.not NG6.out (((Reg.blk R0 B6.out NG6.out).grown qz5 (by simp))).lt
  have nz14b := (Nx.blk nxz11 (((Reg.blk R0 B6.out NG6.out).grown qz5 (by simp))) NG6.out)
  have nz15 : ¬ More ok vz4 vz10 g7 := More.not NG7.out (((Reg.blk R0 B7.out NG7.out).grown qz5 (by simp))).lt
  have nz15b := (Nx.blk nxz11 (((Reg.blk R0 B7.out NG7.out).grown qz5 (by simp))) NG7.out)
  refine hK.out _ _ (range_of (Reg.blk Rz13 B3.out NG3.out)) (fun hHeld => ?_)
  clear hK K
  try simp only [Act.put, List.setIfInBounds_toArray, List.set_cons_zero, List.set_cons_succ]
  refine' wpAnyH_take (i := 5) (oi := { dst := some 14, op := Op.extract (Operand.tmp 13) 0, type := 24, pos := "chain.go:21", after := #[{ on := 4, ground := Ground.data }], guard := none }) (v := .agg (u8s a).toArray) rfl (by kernel_rfl) (by kernel_rfl) (by kernel_rfl) (fun _ _ _ h => h) (Or.inl ⟨by rfl, fun _ _ => rfl⟩) (by assumption) ?qz16
  try simp only [Act.put, List.setIfInBounds_toArray, List.set_cons_zero, List.set_cons_succ]
  refine' wpAnyH_take (i := 6) (oi := { dst := some 15, op := Op.extract (Operand.tmp 13) 1, type := 24, pos := "chain.go:21", after := #[{ on := 4, ground := Ground.data }], guard := none }) (v := .agg (u8s b).toArray) rfl (by kernel_rfl) (by kernel_rfl) (by kernel_rfl) (fun _ _ _ h => h) (Or.inl ⟨by rfl, fun _ _ => rfl⟩) (by assumption) ?qz17
  try simp only [Act.put, List.setIfInBounds_toArray, List.set_cons_zero, List.set_cons_succ]
  refine' wpAnyH_take (i := 7) (oi := { dst := some 16, op := Op.extract (Operand.tmp 13) 2, type := 4, pos := "chain.go:21", after := #[{ on := 4, ground := Ground.data }], guard := none }) (v := .bool true) rfl (by kernel_rfl) (by kernel_rfl) (by kernel_rfl) (fun _ _ _ h => h) (Or.inl ⟨by rfl, fun _ _ => rfl⟩) (by assumption) ?qz18
  try simp only [Act.put, List.setIfInBounds_toArray, List.set_cons_zero, List.set_cons_succ]
  refine wpAnyH_ready (rs := [8]) (by kernel_rfl) (by simp) ?_
  refine AllReadyH.cons (o := { dst := none, op := Op.store 24 (Operand.tmp 6) (Operand.tmp 14), type := 0, pos := "chain.go:21", after := #[{ on := 5, ground := Ground.data }, { on := 4, ground := Ground.chain }, { on := 0, ground := Ground.phase }, { on := 1, ground := Ground.phase }, { on := 2, ground := Ground.phase }, { on := 3, ground := Ground.phase }, { on := 4, ground := Ground.phase }, { on := 5, ground := Ground.phase }, { on := 6, ground := Ground.phase }, { on := 7, ground := Ground.phase }], guard := none }) rfl (fun K hK => ?_) AllReadyH.nil
  rw [if_pos (by rfl)]
  have Rz24 := Rz13.base G5.out
  refine wp_storeG agY _ _ rfl g6 rfl rfl (nz14b) (by rw [u8s_length, z32_length]) (by rw [u8s_length, HAL.out]) (u8s_one _) (fun vz19 kz20 qz21 zz22 => ?_)
  have Rz23 := Rz24.store qz21.out nz14 W6.out HS.out.two
  have nbz25 := (nz15b).grown qz21.out (by simpa using N76.out)
  refine hK.out _ _ (range_keep hHeld fun hlt => qz21.out.block g3 hlt (by simpa using N36.out)) (fun hHeld => ?_)
  clear hK K
  dsimp only [Act.put]
  refine wpAnyH_ready (rs := [9]) (by kernel_rfl) (by simp) ?_
  refine AllReadyH.cons (o := { dst := none, op := Op.store 24 (Operand.tmp 7) (Operand.tmp 15), type := 0, pos := "chain.go:21", after := #[{ on := 6, ground := Ground.data }, { on := 8, ground := Ground.chain }, { on := 0, ground := Ground.phase }, { on := 1, ground := Ground.phase }, { on := 2, ground := Ground.phase }, { on := 3, ground := Ground.phase }, { on := 4, ground := Ground.phase }, { on := 5, ground := Ground.phase }, { on := 6, ground := Ground.phase }, { on := 7, ground := Ground.phase }, { on := 8, ground := Ground.phase }], guard := none }) rfl (fun K hK => ?_) AllReadyH.nil
  rw [if_pos (by rfl)]
  refine wp_storeG agY _ _ rfl g7 rfl rfl (nbz25) (by rw [u8s_length, z32_length]) (by rw [u8s_length, HBL.out]) (u8s_one _) (fun vz26 kz27 qz28 zz29 => ?_)
  have Rz30 := Rz23.store qz28.out nz15 W7.out HS.out.two
  have nbz31 := (kz20.out).grown qz28.out (by simpa using N67.out)
  refine hK.out _ _ (range_keep hHeld fun hlt => qz28.out.block g3 hlt (by simpa using N37.out)) (fun hHeld => ?_)
  clear hK K
  dsimp only [Act.put]
  refine wpAnyH_ready (rs := [10]) (by kernel_rfl) (by simp) ?_
  refine AllReadyH.cons (o := { dst := some 8, op := Op.assign (Operand.tmp 16), type := 4, pos := "chain.go:21", after := #[{ on := 7, ground := Ground.data }, { on := 9, ground := Ground.chain }, { on := 0, ground := Ground.phase }, { on := 1, ground := Ground.phase }, { on := 2, ground := Ground.phase }, { on := 3, ground := Ground.phase }, { on := 4, ground := Ground.phase }, { on := 5, ground := Ground.phase }, { on := 6, ground := Ground.phase }, { on := 7, ground := Ground.phase }, { on := 8, ground := Ground.phase }, { on := 9, ground := Ground.phase }], guard := none }) rfl (fun K hK => ?_) AllReadyH.nil
  rw [if_pos (by rfl)]
  go_simp
  refine hK.out _ _ hHeld (fun hHeld => ?_)
  clear hK K
  try simp only [Act.put, List.setIfInBounds_toArray, List.set_cons_zero, List.set_cons_succ]
  refine wpAnyH_done (by kernel_rfl) ?_ _
  go_wp2_with fail
  refine bodyPost_ret (res_ccs rfl agY agY rfl rfl rfl (nbz31) (kz27.out) (by rw [u8s_length, HAL.out]) (by rw [u8s_length, HBL.out])) rfl ⟨rfl, Rz30.nx HS.out.lt⟩
end Go.Proofs.YtdnkeaokgkiloaaDoor
