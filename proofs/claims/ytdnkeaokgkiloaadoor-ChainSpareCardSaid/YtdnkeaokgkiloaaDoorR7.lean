/- missiveref17.Root. Conditions: there is room for two more terms. -/
import Derived.Test.YtdnkeaokgkiloaaDoorR5
import Derived.Test.YtdnkeaokgkiloaaDoorR6
namespace Go.Proofs.YtdnkeaokgkiloaaDoor
open Go.RowKit T
set_option maxRecDepth 100000 in
set_option maxHeartbeats 16000000 in
theorem rroot_any {w : World} {ok : Nat → Prop} {p : Option Nat} {σ : Sg} {r s : List UInt8} (h : Rui w ok p σ) (hr : Room 59900 σ) (hk : r.length = 32) (hs : s.length = 32) :
    Calls Tryd.prog 12 #[tab p, .agg (u8s r).toArray, .agg (u8s s).toArray] w fun e w' => e = .returned (.tuple #[.agg (u8s (rootA σ r s)).toArray, .agg (u8s (rootB σ r s)).toArray, .bool true]) ∧ Rx w ok p (rootS σ r s) w' := by
  obtain ⟨a, ha⟩ : ∃ a, a = rootA σ r s := ⟨_, rfl⟩
  obtain ⟨b, hb⟩ : ∃ b, b = rootB σ r s := ⟨_, rfl⟩
  obtain ⟨σ1, h1⟩ : ∃ t, t = mixS σ 82 [r, s] := ⟨_, rfl⟩
  obtain ⟨σ2, h2⟩ : ∃ t, t = rootS σ r s := ⟨_, rfl⟩
  have hr1 : Room 60000 σ1 := by rw [h1]; exact (hr.mix (mixOk_two hk hs) (by omega)).mono (by omega)
  rw [← ha, ← hb, ← h2]
  have hal : a.length = 32 := by rw [ha]; exact rootA_length _ _ _
  have hbl : b.length = 32 := by rw [hb]; exact rootB_length _ _ _
  unfold rootA at ha
  unfold rootB at hb
  unfold rootS at h2
  rw [← h1] at hb h2
  obtain ⟨pv, hpv⟩ : ∃ v, v = Value.pointer (p.map fun b => (⟨b, 0, none⟩ : Addr)) := ⟨_, rfl⟩
  have htab : tab p = .agg [pv].toArray := by rw [hpv]; rfl
  obtain ⟨z, hz⟩ : ∃ z, z = u8s r := ⟨_, rfl⟩
  obtain ⟨y, hy⟩ : ∃ y, y = u8s s := ⟨_, rfl⟩
  have HA := Lib.hid ha
  have HB := Lib.hid hb
  have H2 := Lib.hid h2
  have HAL := Lib.hid hal
  have HBL := Lib.hid hbl
  have HS := Lib.hid h
  have HR := Lib.hid (hr.mono (show 59900 ≤ 60000 by omega))
  have HR1 := Lib.hid hr1
  have H1 := Lib.hid h1
  have HK := Lib.hid hk
  have HK2 := Lib.hid hs
  have HZ := Lib.hid hz
  have HY := Lib.hid hy
  have HTAB := Lib.hid htab
  rw [htab, ← hz, ← hy]
  clear ha hb h1 h2 hal hbl h hr hr1 hk hs hz hy htab hpv
  go_enter Tryd.func12, Tryd.ntmps12
  go_wp2_with (first | (refine wpList_boxG rfl _ rfl (vs := [pv]) rfl ?_) | fail)
  intro g3 w1 e3 k3 q3
  go_wp2_with (first | (refine wpList_boxG rfl _ rfl (vs := z) rfl ?_) | fail)
  intro g4 w2 e4 k4 q4
  go_wp2_with (first | (refine wpList_boxG rfl _ rfl (vs := y) rfl ?_) | fail)
  intro g5 w3 e5 k5 q5
  go_wp2_with (first | (refine wpList_allocG zeA rfl rfl ?_) | fail)
  intro g6 w4 e6 k6 q6
  go_wp2_with (first | (refine wpList_allocG zeA rfl rfl ?_) | fail)
  intro g7 w5 e7 k7 q7
  have G5 := Lib.hid ((((q3.out.trans q4.out).trans q5.out).trans q6.out).trans q7.out)
  have B3 := Lib.hid ((((k3.out.grown q4.out (by simp)).grown q5.out (by simp)).grown q6.out (by simp)).grown q7.out (by simp))
  have B4 : Hid (C.Blk w5 g4 22 (u8s r)) := by have hh := ((k4.out.grown q5.out (by simp)).grown q6.out (by simp)).grown q7.out (by simp); rw [HZ.out] at hh; exact hh
  have B5 : Hid (C.Blk w5 g5 22 (u8s s)) := by have hh := (k5.out.grown q6.out (by simp)).grown q7.out (by simp); rw [HY.out] at hh; exact hh
  have B6 := Lib.hid (k6.out.grown q7.out (by simp))
  have B7 := Lib.hid k7.out
  have NE : Hid (w.heap.size ≤ g3 ∧ g3 < g4 ∧ g4 < g5 ∧ g5 < g6 ∧ g6 < g7 ∧ g7 < w5.heap.size) := by
    have a1 := e3.out; have a2 := e4.out; have a3 := e5.out; have a4 := e6.out; have a5 := e7.out; have b1 := k3.out.lt; have b2 := k4.out.lt; have b3 := k5.out.lt; have b4 := k6.out.lt; have b5 := k7.out.lt
    show _ ∧ _
    omega
  have NOK : Hid (∀ g, w.heap.size ≤ g → ¬ ok g) := fun g hg hb => by have := HS.out.lt g hb; omega
  have S5 := Lib.hid (HS.out.grown G5.out)
  clear e3 k3 q3 e4 k4 q4 e5 k5 q5 e6 k6 q6 e7 k7 q7
  go_wp2_with fail
  have NG3 := Lib.hid (NOK.out g3 (by have := NE.out; omega))
  have NG4 := Lib.hid (NOK.out g4 (by have := NE.out; omega))
  have NG5 := Lib.hid (NOK.out g5 (by have := NE.out; omega))
  have NOK5 : ∀ g, w5.heap.size ≤ g → ¬ ok g := fun g hg => NOK.out g (Nat.le_trans G5.out.size hg)
  apply cutN2 (F := fun w' g9 _ => ∃ okX, Rrg w5 w' ok okX p σ1 ∧ ¬ okX g9 ∧ C.Blk w' g9 22 (u8s a) ∧ w5.heap.size ≤ g9)
  · intro hrest_
    refine wp_region_held_drew (S := fun W => W.rangeAt g3 0 [pv]) (by kernel_rfl) (range_of B3.out) (fun hHeld => ?_)
    have R0 := Rrg.start S5.out
    obtain ⟨v0, hv0⟩ : ∃ v, v = w5.drew := ⟨_, rfl⟩
    rw [← hv0] at hHeld R0 ⊢
    clear hv0
    refine' wpAnyH_take (i := 0) (oi := { dst := some 14, op := Op.load 35 (Operand.tmp 3), type := 35, pos := "ref.go:11", after := #[], guard := none }) (v := .agg [pv].toArray) rfl (by kernel_rfl) (by kernel_rfl) (by kernel_rfl) (fun _ _ _ h => h) (yieldsIf_loadR agR (by rfl) (.tmp 3) rfl g3 0 rfl rfl (fun _ h => h)) (by assumption) ?qz1
    try simp only [Act.put, List.setIfInBounds_toArray, List.set_cons_zero, List.set_cons_succ]
    refine' wpAnyH_take (i := 1) (oi := { dst := some 15, op := Op.slice 22 (Operand.tmp 4) none none none, type := 66, pos := "ref.go:11", after := #[], guard := none }) (v := .slice (some ⟨g4, 0, none⟩) 32 32) rfl (by kernel_rfl) (by kernel_rfl) (by kernel_rfl) (fun _ _ _ h => h) (Or.inl ⟨by rfl, fun w' hSw => by go_simp⟩) (by assumption) ?qz2
    try simp only [Act.put, List.setIfInBounds_toArray, List.set_cons_zero, List.set_cons_succ]
    refine' wpAnyH_take (i := 2) (oi := { dst := some 16, op := Op.slice 22 (Operand.tmp 5) none none none, type := 66, pos := "ref.go:11", after := #[], guard := none }) (v := .slice (some ⟨g5, 0, none⟩) 32 32) rfl (by kernel_rfl) (by kernel_rfl) (by kernel_rfl) (fun _ _ _ h => h) (Or.inl ⟨by rfl, fun w' hSw => by go_simp⟩) (by assumption) ?qz3
    try simp only [Act.put, List.setIfInBounds_toArray, List.set_cons_zero, List.set_cons_succ]
    refine wpAnyH_ready (rs := [3, 8]) (by kernel_rfl) (by simp) ?_
    refine AllReadyH.cons (o := { dst := some 17, op := Op.buildSlice 75 2 #[(0, Operand.tmp 15), (1, Operand.tmp 16)], type := 75, pos := "ref.go:11", after := #[{ on := 1, ground := Ground.data }, { on := 2, ground := Ground.data }], guard := none }) rfl (fun K hK => ?_) (AllReadyH.cons (o := { dst := some 9, op := Op.alloc 22, type := 0, pos := "ref.go:11", after := #[], guard := none }) rfl (fun K hK => ?_) AllReadyH.nil)
    · rw [if_pos (by rfl)]
      go_simp
      have qz5 := World.grownBy_alloc v0 (.cells #[.slice (some ⟨g4, 0, none⟩) 32 32, .slice (some ⟨g5, 0, none⟩) 32 32] 66) none
      obtain ⟨vz4, hvz6⟩ : ∃ w', v0.alloc (.cells #[.slice (some ⟨g4, 0, none⟩) 32 32, .slice (some ⟨g5, 0, none⟩) 32 32] 66) = w' := ⟨_, rfl⟩
      obtain ⟨gl, hgl⟩ : ∃ g, g = v0.heap.size := ⟨_, rfl⟩
      have lz7 := lst_two HK.out HK2.out (byt_of0 (Rrg.blk R0 B4.out NG4.out)) (byt_of0 (Rrg.blk R0 B5.out NG5.out)) (Rrg.blk R0 B4.out NG4.out).lt (Rrg.blk R0 B5.out NG5.out).lt hvz6 hgl
      rw [hvz6] at qz5 ⊢
      rw [← hgl]
      have nlz8 : ¬ ok gl := NOK5 gl (by rw [hgl]; exact R0.md.size)
      have Rz9 := R0.alloc qz5
      have hll : gl < vz4.heap.size := by rw [← hvz6, World.size_alloc, hgl]; exact Nat.lt_succ_self _
      clear hgl hvz6
      refine hK.out _ _ (range_of (Rrg.blk Rz9 B3.out NG3.out)) (fun hHeld => ?_)
      clear hK K
      try simp only [Act.put, List.setIfInBounds_toArray, List.set_cons_zero, List.set_cons_succ]
      refine wpAnyH_ready (rs := [4, 8]) (by kernel_rfl) (by simp) ?_
      refine AllReadyH.cons (o := { dst := some 18, op := Op.call { callee := Callee.value (Operand.func 26), args := #[Operand.tmp 14, Operand.const (Value.int IntKind.u8 82), Operand.tmp 17], argTypes := #[35, 5, 75] }, type := 68, pos := "ref.go:11", after := #[{ on := 0, ground := Ground.data }, { on := 3, ground := Ground.data }], guard := none }) rfl (fun K hK => ?_) (AllReadyH.cons (o := { dst := some 9, op := Op.alloc 22, type := 0, pos := "ref.go:11", after := #[], guard := none }) rfl (fun K hK => ?_) AllReadyH.nil)
      · rw [if_pos (by rfl)]
        go_simp
        have hcz12 : Calls Tryd.prog 26 #[.agg #[pv], .int .u8 82, .slice (some ⟨gl, 0, none⟩) 2 2] vz4 fun e w' => e = .returned (.tuple #[.agg (u8s a).toArray, .bool true]) ∧ Rx vz4 ok p σ1 w' := by
          have hd : ∀ b, (b = g4 ∨ b = g5 ∨ b = gl) → b < vz4.heap.size ∧ ¬ ok b := (fun b hb => hb.elim (fun e => by rw [e]; exact ⟨(Rrg.blk Rz9 B4.out NG4.out).lt, NG4.out⟩) (fun hb => hb.elim (fun e => by rw [e]; exact ⟨(Rrg.blk Rz9 B5.out NG5.out).lt, NG5.out⟩) (fun e => by rw [e]; exact ⟨hll, nlz8⟩)))
          have h := rmix_any (c := 2) 82 Rz9.sui HR.out lz7 (fun b hb => (hd b hb).1) rfl (mixOk_two HK.out HK2.out)
          rw [HTAB.out] at h
          refine h.mono fun e w' ⟨he, hn⟩ => ⟨?_, by rw [H1.out]; exact hn⟩
          rw [HA.out]
          exact he
        with_reducible refine hcz12.mono ?_
        rintro _ vz10 ⟨rfl, nxz11⟩
        have Rz13 := Rz9.call nxz11
        refine hK.out _ _ (range_of (Rrg.blk Rz13 B3.out NG3.out)) (fun hHeld => ?_)
        clear hK K
        try simp only [Act.put, List.setIfInBounds_toArray, List.set_cons_zero, List.set_cons_succ]
        refine' wpAnyH_take (i := 5) (oi := { dst := some 13, op := Op.move (Operand.tmp 18), type := 68, pos := "ref.go:11", after := #[{ on := 4, ground := Ground.data }], guard := none }) (v := .tuple #[.agg (u8s a).toArray, .bool true]) rfl (by kernel_rfl) (by kernel_rfl) (by kernel_rfl) (fun _ _ _ h => h) (Or.inl ⟨by rfl, fun _ _ => rfl⟩) (by assumption) ?qz14
        try simp only [Act.put, List.setIfInBounds_toArray, List.set_cons_zero, List.set_cons_succ]
        refine' wpAnyH_take (i := 6) (oi := { dst := some 19, op := Op.extract (Operand.tmp 13) 0, type := 22, pos := "ref.go:11", after := #[{ on := 5, ground := Ground.data }], guard := none }) (v := .agg (u8s a).toArray) rfl (by kernel_rfl) (by kernel_rfl) (by kernel_rfl) (fun _ _ _ h => h) (Or.inl ⟨by rfl, fun _ _ => rfl⟩) (by assumption) ?qz15
        try simp only [Act.put, List.setIfInBounds_toArray, List.set_cons_zero, List.set_cons_succ]
        refine' wpAnyH_take (i := 7) (oi := { dst := some 20, op := Op.extract (Operand.tmp 13) 1, type := 4, pos := "ref.go:11", after := #[{ on := 5, ground := Ground.data }, { on := 9, ground := Ground.gcOnly Departure.lateStores }], guard := none }) (v := .bool true) rfl (by kernel_rfl) (by kernel_rfl) (by kernel_rfl) (fun _ _ _ h => h) (Or.inl ⟨by rfl, fun _ _ => rfl⟩) (by assumption) ?qz16
        try simp only [Act.put, List.setIfInBounds_toArray, List.set_cons_zero, List.set_cons_succ]
        refine wpAnyH_ready (rs := [8]) (by kernel_rfl) (by simp) ?_
        refine AllReadyH.cons (o := { dst := some 9, op := Op.alloc 22, type := 0, pos := "ref.go:11", after := #[], guard := none }) rfl (fun K hK => ?_) AllReadyH.nil
        rw [if_pos (by rfl)]
        refine wp_allocG zeA rfl (fun g9 vz17 ez18 kz19 qz20 => ?_)
        have nz22 : ¬ (More ok vz4 vz10) g9 := Rz13.not_new (Nat.le_of_eq ez18.out.symm)
        have Rz21 := Rz13.alloc qz20.out
        have nz22w : w5.heap.size ≤ g9 := by rw [ez18.out]; exact Rz13.md.size
        refine hK.out _ _ (range_of (Rrg.blk Rz21 B3.out NG3.out)) (fun hHeld => ?_)
        clear hK K
        try simp only [Act.put, List.setIfInBounds_toArray, List.set_cons_zero, List.set_cons_succ]
        refine wpAnyH_ready (rs := [9]) (by kernel_rfl) (by simp) ?_
        refine AllReadyH.cons (o := { dst := none, op := Op.store 22 (Operand.tmp 9) (Operand.tmp 19), type := 0, pos := "ref.go:11", after := #[{ on := 8, ground := Ground.data }, { on := 6, ground := Ground.data }, { on := 4, ground := Ground.chain }, { on := 0, ground := Ground.phase }, { on := 1, ground := Ground.phase }, { on := 2, ground := Ground.phase }, { on := 3, ground := Ground.phase }, { on := 4, ground := Ground.phase }, { on := 5, ground := Ground.phase }, { on := 6, ground := Ground.phase }, { on := 7, ground := Ground.textOnly Departure.lateStores }, { on := 8, ground := Ground.phase }], guard := none }) rfl (fun K hK => ?_) AllReadyH.nil
        rw [if_pos (by rfl)]
        refine wp_storeG agA _ _ rfl g9 rfl rfl (kz19.out) (by rw [u8s_length, z32_length]) (by rw [u8s_length, HAL.out]) (u8s_one _) (fun vz23 kz24 qz25 zz26 => ?_)
        have Rz27 := Rz21.store qz25.out nz22 nz22w
        refine hK.out _ _ (range_of (Rrg.blk Rz27 B3.out NG3.out)) (fun hHeld => ?_)
        clear hK K
        dsimp only [Act.put]
        refine wpAnyH_ready (rs := [10]) (by kernel_rfl) (by simp) ?_
        refine AllReadyH.cons (o := { dst := some 10, op := Op.assign (Operand.tmp 20), type := 4, pos := "ref.go:11", after := #[{ on := 7, ground := Ground.data }, { on := 9, ground := Ground.chain }, { on := 0, ground := Ground.phase }, { on := 1, ground := Ground.phase }, { on := 2, ground := Ground.phase }, { on := 3, ground := Ground.phase }, { on := 4, ground := Ground.phase }, { on := 5, ground := Ground.phase }, { on := 6, ground := Ground.phase }, { on := 7, ground := Ground.phase }, { on := 8, ground := Ground.phase }, { on := 9, ground := Ground.phase }], guard := none }) rfl (fun K hK => ?_) AllReadyH.nil
        rw [if_pos (by rfl)]
        go_simp
        refine hK.out _ _ hHeld (fun hHeld => ?_)
        clear hK K
        try simp only [Act.put, List.setIfInBounds_toArray, List.set_cons_zero, List.set_cons_succ]
        refine wpAnyH_done (by kernel_rfl) ?_ _
        exact hrest_ _ g9 gl ⟨_, Rz27, nz22, kz24.out, nz22w⟩
      · rw [if_pos (by rfl)]
        refine wp_allocG zeA rfl (fun g9 vz28 ez29 kz30 qz31 => ?_)
        have nz33 : ¬ ok g9 := Rz9.not_new (Nat.le_of_eq ez29.out.symm)
        have Rz32 := Rz9.alloc qz31.out
        have nz33w : w5.heap.size ≤ g9 := by rw [ez29.out]; exact Rz9.md.size
        have dz36 : ∀ b, (b = g4 ∨ b = g5 ∨ b = gl) → b < vz4.heap.size ∧ ¬ ok b := (fun b hb => hb.elim (fun e => by rw [e]; exact ⟨(Rrg.blk Rz9 B4.out NG4.out).lt, NG4.out⟩) (fun hb => hb.elim (fun e => by rw [e]; exact ⟨(Rrg.blk Rz9 B5.out NG5.out).lt, NG5.out⟩) (fun e => by rw [e]; exact ⟨hll, nlz8⟩)))
        have lz34 := lz7.keep fun b hb => qz31.out.block b (dz36 b hb).1 (by simp)
        have hllz35 := Nat.lt_of_lt_of_le hll qz31.out.size
        refine hK.out _ _ (range_of (Rrg.blk Rz32 B3.out NG3.out)) (fun hHeld => ?_)
        clear hK K
        try simp only [Act.put, List.setIfInBounds_toArray, List.set_cons_zero, List.set_cons_succ]
        refine wpAnyH_ready (rs := [4]) (by kernel_rfl) (by simp) ?_
        refine AllReadyH.cons (o := { dst := some 18, op := Op.call { callee := Callee.value (Operand.func 26), args := #[Operand.tmp 14, Operand.const (Value.int IntKind.u8 82), Operand.tmp 17], argTypes := #[35, 5, 75] }, type := 68, pos := "ref.go:11", after := #[{ on := 0, ground := Ground.data }, { on := 3, ground := Ground.data }], guard := none }) rfl (fun K hK => ?_) AllReadyH.nil
        rw [if_pos (by rfl)]
        go_simp
        have hcz39 : Calls Tryd.prog 26 #[.agg #[pv], .int .u8 82, .slice (some ⟨gl, 0, none⟩) 2 2] vz28 fun e w' => e = .returned (.tuple #[.agg (u8s a).toArray, .bool true]) ∧ Rx vz28 ok p σ1 w' := by
          have hd : ∀ b, (b = g4 ∨ b = g5 ∨ b = gl) → b < vz28.heap.size ∧ ¬ ok b := (fun b hb => hb.elim (fun e => by rw [e]; exact ⟨(Rrg.blk Rz32 B4.out NG4.out).lt, NG4.out⟩) (fun hb => hb.elim (fun e => by rw [e]; exact ⟨(Rrg.blk Rz32 B5.out NG5.out).lt, NG5.out⟩) (fun e => by rw [e]; exact ⟨hllz35, nlz8⟩)))
          have h := rmix_any (c := 2) 82 Rz32.sui HR.out lz34 (fun b hb => (hd b hb).1) rfl (mixOk_two HK.out HK2.out)
          rw [HTAB.out] at h
          refine h.mono fun e w' ⟨he, hn⟩ => ⟨?_, by rw [H1.out]; exact hn⟩
          rw [HA.out]
          exact he
        with_reducible refine hcz39.mono ?_
        rintro _ vz37 ⟨rfl, nxz38⟩
        have Rz40 := Rz32.call nxz38
        have nz41 : ¬ More ok vz28 vz37 g9 := More.not nz33 (kz30.out).lt
        have nz41b := (Rx.blk nxz38 (kz30.out) nz33)
        refine hK.out _ _ (range_of (Rrg.blk Rz40 B3.out NG3.out)) (fun hHeld => ?_)
        clear hK K
        try simp only [Act.put, List.setIfInBounds_toArray, List.set_cons_zero, List.set_cons_succ]
        refine' wpAnyH_take (i := 5) (oi := { dst := some 13, op := Op.move (Operand.tmp 18), type := 68, pos := "ref.go:11", after := #[{ on := 4, ground := Ground.data }], guard := none }) (v := .tuple #[.agg (u8s a).toArray, .bool true]) rfl (by kernel_rfl) (by kernel_rfl) (by kernel_rfl) (fun _ _ _ h => h) (Or.inl ⟨by rfl, fun _ _ => rfl⟩) (by assumption) ?qz42
        try simp only [Act.put, List.setIfInBounds_toArray, List.set_cons_zero, List.set_cons_succ]
        refine' wpAnyH_take (i := 6) (oi := { dst := some 19, op := Op.extract (Operand.tmp 13) 0, type := 22, pos := "ref.go:11", after := #[{ on := 5, ground := Ground.data }], guard := none }) (v := .agg (u8s a).toArray) rfl (by kernel_rfl) (by kernel_rfl) (by kernel_rfl) (fun _ _ _ h => h) (Or.inl ⟨by rfl, fun _ _ => rfl⟩) (by assumption) ?qz43
        try simp only [Act.put, List.setIfInBounds_toArray, List.set_cons_zero, List.set_cons_succ]
        refine' wpAnyH_take (i := 7) (oi := { dst := some 20, op := Op.extract (Operand.tmp 13) 1, type := 4, pos := "ref.go:11", after := #[{ on := 5, ground := Ground.data }, { on := 9, ground := Ground.gcOnly Departure.lateStores }], guard := none }) (v := .bool true) rfl (by kernel_rfl) (by kernel_rfl) (by kernel_rfl) (fun _ _ _ h => h) (Or.inl ⟨by rfl, fun _ _ => rfl⟩) (by assumption) ?qz44
        try simp only [Act.put, List.setIfInBounds_toArray, List.set_cons_zero, List.set_cons_succ]
        refine wpAnyH_ready (rs := [9]) (by kernel_rfl) (by simp) ?_
        refine AllReadyH.cons (o := { dst := none, op := Op.store 22 (Operand.tmp 9) (Operand.tmp 19), type := 0, pos := "ref.go:11", after := #[{ on := 8, ground := Ground.data }, { on := 6, ground := Ground.data }, { on := 4, ground := Ground.chain }, { on := 0, ground := Ground.phase }, { on := 1, ground := Ground.phase }, { on := 2, ground := Ground.phase }, { on := 3, ground := Ground.phase }, { on := 4, ground := Ground.phase }, { on := 5, ground := Ground.phase }, { on := 6, ground := Ground.phase }, { on := 7, ground := Ground.textOnly Departure.lateStores }, { on := 8, ground := Ground.phase }], guard := none }) rfl (fun K hK => ?_) AllReadyH.nil
        rw [if_pos (by rfl)]
        refine wp_storeG agA _ _ rfl g9 rfl rfl (nz41b) (by rw [u8s_length, z32_length]) (by rw [u8s_length, HAL.out]) (u8s_one _) (fun vz45 kz46 qz47 zz48 => ?_)
        have Rz49 := Rz40.store qz47.out nz41 nz33w
        refine hK.out _ _ (range_of (Rrg.blk Rz49 B3.out NG3.out)) (fun hHeld => ?_)
        clear hK K
        dsimp only [Act.put]
        refine wpAnyH_ready (rs := [10]) (by kernel_rfl) (by simp) ?_
        refine AllReadyH.cons (o := { dst := some 10, op := Op.assign (Operand.tmp 20), type := 4, pos := "ref.go:11", after := #[{ on := 7, ground := Ground.data }, { on := 9, ground := Ground.chain }, { on := 0, ground := Ground.phase }, { on := 1, ground := Ground.phase }, { on := 2, ground := Ground.phase }, { on := 3, ground := Ground.phase }, { on := 4, ground := Ground.phase }, { on := 5, ground := Ground.phase }, { on := 6, ground := Ground.phase }, { on := 7, ground := Ground.phase }, { on := 8, ground := Ground.phase }, { on := 9, ground := Ground.phase }], guard := none }) rfl (fun K hK => ?_) AllReadyH.nil
        rw [if_pos (by rfl)]
        go_simp
        refine hK.out _ _ hHeld (fun hHeld => ?_)
        clear hK K
        try simp only [Act.put, List.setIfInBounds_toArray, List.set_cons_zero, List.set_cons_succ]
        refine wpAnyH_done (by kernel_rfl) ?_ _
        exact hrest_ _ g9 gl ⟨_, Rz49, nz41, kz46.out, nz33w⟩
    · rw [if_pos (by rfl)]
      refine wp_allocG zeA rfl (fun g9 vz50 ez51 kz52 qz53 => ?_)
      have nz55 : ¬ ok g9 := R0.not_new (Nat.le_of_eq ez51.out.symm)
      have Rz54 := R0.alloc qz53.out
      have nz55w : w5.heap.size ≤ g9 := by rw [ez51.out]; exact R0.md.size
      refine hK.out _ _ (range_of (Rrg.blk Rz54 B3.out NG3.out)) (fun hHeld => ?_)
      clear hK K
      try simp only [Act.put, List.setIfInBounds_toArray, List.set_cons_zero, List.set_cons_succ]
      refine wpAnyH_ready (rs := [3]) (by kernel_rfl) (by simp) ?_
      refine AllReadyH.cons (o := { dst := some 17, op := Op.buildSlice 75 2 #[(0, Operand.tmp 15), (1, Operand.tmp 16)], type := 75, pos := "ref.go:11", after := #[{ on := 1, ground := Ground.data }, { on := 2, ground := Ground.data }], guard := none }) rfl (fun K hK => ?_) AllReadyH.nil
      rw [if_pos (by rfl)]
      go_simp
      have qz57 := World.grownBy_alloc vz50 (.cells #[.slice (some ⟨g4, 0, none⟩) 32 32, .slice (some ⟨g5, 0, none⟩) 32 32] 66) none
      obtain ⟨vz56, hvz58⟩ : ∃ w', vz50.alloc (.cells #[.slice (some ⟨g4, 0, none⟩) 32 32, .slice (some ⟨g5, 0, none⟩) 32 32] 66) = w' := ⟨_, rfl⟩
      obtain ⟨gl, hgl⟩ : ∃ g, g = vz50.heap.size := ⟨_, rfl⟩
      have lz59 := lst_two HK.out HK2.out (byt_of0 (Rrg.blk Rz54 B4.out NG4.out)) (byt_of0 (Rrg.blk Rz54 B5.out NG5.out)) (Rrg.blk Rz54 B4.out NG4.out).lt (Rrg.blk Rz54 B5.out NG5.out).lt hvz58 hgl
      rw [hvz58] at qz57 ⊢
      rw [← hgl]
      have nlz60 : ¬ ok gl := NOK5 gl (by rw [hgl]; exact Rz54.md.size)
      have Rz61 := Rz54.alloc qz57
      have hll : gl < vz56.heap.size := by rw [← hvz58, World.size_alloc, hgl]; exact Nat.lt_succ_self _
      clear hgl hvz58
      refine hK.out _ _ (range_of (Rrg.blk Rz61 B3.out NG3.out)) (fun hHeld => ?_)
      clear hK K
      try simp only [Act.put, List.setIfInBounds_toArray, List.set_cons_zero, List.set_cons_succ]
      refine wpAnyH_ready (rs := [4]) (by kernel_rfl) (by simp) ?_
      refine AllReadyH.cons (o := { dst := some 18, op := Op.call { callee := Callee.value (Operand.func 26), args := #[Operand.tmp 14, Operand.const (Value.int IntKind.u8 82), Operand.tmp 17], argTypes := #[35, 5, 75] }, type := 68, pos := "ref.go:11", after := #[{ on := 0, ground := Ground.data }, { on := 3, ground := Ground.data }], guard := none }) rfl (fun K hK => ?_) AllReadyH.nil
      rw [if_pos (by rfl)]
      go_simp
      have hcz64 : Calls Tryd.prog 26 #[.agg #[pv], .int .u8 82, .slice (some ⟨gl, 0, none⟩) 2 2] vz56 fun e w' => e = .returned (.tuple #[.agg (u8s a).toArray, .bool true]) ∧ Rx vz56 ok p σ1 w' := by
        have hd : ∀ b, (b = g4 ∨ b = g5 ∨ b = gl) → b < vz56.heap.size ∧ ¬ ok b := (fun b hb => hb.elim (fun e => by rw [e]; exact ⟨(Rrg.blk Rz61 B4.out NG4.out).lt, NG4.out⟩) (fun hb => hb.elim (fun e => by rw [e]; exact ⟨(Rrg.blk Rz61 B5.out NG5.out).lt, NG5.out⟩) (fun e => by rw [e]; exact ⟨hll, nlz60⟩)))
        have h := rmix_any (c := 2) 82 Rz61.sui HR.out lz59 (fun b hb => (hd b hb).1) rfl (mixOk_two HK.out HK2.out)
        rw [HTAB.out] at h
        refine h.mono fun e w' ⟨he, hn⟩ => ⟨?_, by rw [H1.out]; exact hn⟩
        rw [HA.out]
        exact he
      with_reducible refine hcz64.mono ?_
      rintro _ vz62 ⟨rfl, nxz63⟩
      have Rz65 := Rz61.call nxz63
      have nz66 : ¬ More ok vz56 vz62 g9 := More.not nz55 ((kz52.out.grown qz57 (by simp))).lt
      have nz66b := (Rx.blk nxz63 ((kz52.out.grown qz57 (by simp))) nz55)
      refine hK.out _ _ (range_of (Rrg.blk Rz65 B3.out NG3.out)) (fun hHeld => ?_)
      clear hK K
      try simp only [Act.put, List.setIfInBounds_toArray, List.set_cons_zero, List.set_cons_succ]
      refine' wpAnyH_take (i := 5) (oi := { dst := some 13, op := Op.move (Operand.tmp 18), type := 68, pos := "ref.go:11", after := #[{ on := 4, ground := Ground.data }], guard := none }) (v := .tuple #[.agg (u8s a).toArray, .bool true]) rfl (by kernel_rfl) (by kernel_rfl) (by kernel_rfl) (fun _ _ _ h => h) (Or.inl ⟨by rfl, fun _ _ => rfl⟩) (by assumption) ?qz67
      try simp only [Act.put, List.setIfInBounds_toArray, List.set_cons_zero, List.set_cons_succ]
      refine' wpAnyH_take (i := 6) (oi := { dst := some 19, op := Op.extract (Operand.tmp 13) 0, type := 22, pos := "ref.go:11", after := #[{ on := 5, ground := Ground.data }], guard := none }) (v := .agg (u8s a).toArray) rfl (by kernel_rfl) (by kernel_rfl) (by kernel_rfl) (fun _ _ _ h => h) (Or.inl ⟨by rfl, fun _ _ => rfl⟩) (by assumption) ?qz68
      try simp only [Act.put, List.setIfInBounds_toArray, List.set_cons_zero, List.set_cons_succ]
      refine' wpAnyH_take (i := 7) (oi := { dst := some 20, op := Op.extract (Operand.tmp 13) 1, type := 4, pos := "ref.go:11", after := #[{ on := 5, ground := Ground.data }, { on := 9, ground := Ground.gcOnly Departure.lateStores }], guard := none }) (v := .bool true) rfl (by kernel_rfl) (by kernel_rfl) (by kernel_rfl) (fun _ _ _ h => h) (Or.inl ⟨by rfl, fun _ _ => rfl⟩) (by assumption) ?qz69
      try simp only [Act.put, List.setIfInBounds_toArray, List.set_cons_zero, List.set_cons_succ]
      refine wpAnyH_ready (rs := [9]) (by kernel_rfl) (by simp) ?_
      refine AllReadyH.cons (o := { dst := none, op := Op.store 22 (Operand.tmp 9) (Operand.tmp 19), type := 0, pos := "ref.go:11", after := #[{ on := 8, ground := Ground.data }, { on := 6, ground := Ground.data }, { on := 4, ground := Ground.chain }, { on := 0, ground := Ground.phase }, { on := 1, ground := Ground.phase }, { on := 2, ground := Ground.phase }, { on := 3, ground := Ground.phase }, { on := 4, ground := Ground.phase }, { on := 5, ground := Ground.phase }, { on := 6, ground := Ground.phase }, { on := 7, ground := Ground.textOnly Departure.lateStores }, { on := 8, ground := Ground.phase }], guard := none }) rfl (fun K hK => ?_) AllReadyH.nil
      rw [if_pos (by rfl)]
      refine wp_storeG agA _ _ rfl g9 rfl rfl (nz66b) (by rw [u8s_length, z32_length]) (by rw [u8s_length, HAL.out]) (u8s_one _) (fun vz70 kz71 qz72 zz73 => ?_)
      have Rz74 := Rz65.store qz72.out nz66 nz55w
      refine hK.out _ _ (range_of (Rrg.blk Rz74 B3.out NG3.out)) (fun hHeld => ?_)
      clear hK K
      dsimp only [Act.put]
      refine wpAnyH_ready (rs := [10]) (by kernel_rfl) (by simp) ?_
      refine AllReadyH.cons (o := { dst := some 10, op := Op.assign (Operand.tmp 20), type := 4, pos := "ref.go:11", after := #[{ on := 7, ground := Ground.data }, { on := 9, ground := Ground.chain }, { on := 0, ground := Ground.phase }, { on := 1, ground := Ground.phase }, { on := 2, ground := Ground.phase }, { on := 3, ground := Ground.phase }, { on := 4, ground := Ground.phase }, { on := 5, ground := Ground.phase }, { on := 6, ground := Ground.phase }, { on := 7, ground := Ground.phase }, { on := 8, ground := Ground.phase }, { on := 9, ground := Ground.phase }], guard := none }) rfl (fun K hK => ?_) AllReadyH.nil
      rw [if_pos (by rfl)]
      go_simp
      refine hK.out _ _ hHeld (fun hHeld => ?_)
      clear hK K
      try simp only [Act.put, List.setIfInBounds_toArray, List.set_cons_zero, List.set_cons_succ]
      refine wpAnyH_done (by kernel_rfl) ?_ _
      exact hrest_ _ g9 gl ⟨_, Rz74, nz66, kz71.out, nz55w⟩
  · intro w6 g9 gl ⟨okX, r6, n9, b9, w9⟩
    have R6 := Lib.hid r6
    have N9 := Lib.hid n9
    have B9 := Lib.hid b9
    have W9 := Lib.hid w9
    have B3b := Lib.hid (r6.blk B3.out NG3.out)
    have B4b := Lib.hid (r6.blk B4.out NG4.out)
    have B5b := Lib.hid (r6.blk B5.out NG5.out)
    have NG3b := Lib.hid (r6.not_old B3.out.lt NG3.out)
    have NG4b := Lib.hid (r6.not_old B4.out.lt NG4.out)
    have NG5b := Lib.hid (r6.not_old B5.out.lt NG5.out)
    have NOK6 : ∀ g, w6.heap.size ≤ g → ¬ okX g := fun g hg => r6.not_new hg
    have S6 := Lib.hid r6.sui
    clear r6 n9 b9 w9
    go_wp2_with fail
    apply cutN2 (F := fun w' g11 _ => ∃ okY, Rrg w6 w' okX okY p σ2 ∧ ¬ okY g11 ∧ C.Blk w' g11 22 (u8s b) ∧ w6.heap.size ≤ g11)
    · intro hrest2_
      refine wp_region_held_drew (S := fun W => W.rangeAt g3 0 [pv]) (by kernel_rfl) (range_of B3b.out) (fun hHeld => ?_)
      have R0 := Rrg.start S6.out
      obtain ⟨v0, hv0⟩ : ∃ v, v = w6.drew := ⟨_, rfl⟩
      rw [← hv0] at hHeld R0 ⊢
      clear hv0
      refine' wpAnyH_take (i := 0) (oi := { dst := some 22, op := Op.load 35 (Operand.tmp 3), type := 35, pos := "ref.go:12", after := #[], guard := none }) (v := .agg [pv].toArray) rfl (by kernel_rfl) (by kernel_rfl) (by kernel_rfl) (fun _ _ _ h => h) (yieldsIf_loadR agR (by rfl) (.tmp 3) rfl g3 0 rfl rfl (fun _ h => h)) (by assumption) ?qz2001
      try simp only [Act.put, List.setIfInBounds_toArray, List.set_cons_zero, List.set_cons_succ]
      refine' wpAnyH_take (i := 1) (oi := { dst := some 23, op := Op.slice 22 (Operand.tmp 4) none none none, type := 66, pos := "ref.go:12", after := #[], guard := none }) (v := .slice (some ⟨g4, 0, none⟩) 32 32) rfl (by kernel_rfl) (by kernel_rfl) (by kernel_rfl) (fun _ _ _ h => h) (Or.inl ⟨by rfl, fun w' hSw => by go_simp⟩) (by assumption) ?qz2002
      try simp only [Act.put, List.setIfInBounds_toArray, List.set_cons_zero, List.set_cons_succ]
      refine' wpAnyH_take (i := 2) (oi := { dst := some 24, op := Op.slice 22 (Operand.tmp 5) none none none, type := 66, pos := "ref.go:12", after := #[], guard := none }) (v := .slice (some ⟨g5, 0, none⟩) 32 32) rfl (by kernel_rfl) (by kernel_rfl) (by kernel_rfl) (fun _ _ _ h => h) (Or.inl ⟨by rfl, fun w' hSw => by go_simp⟩) (by assumption) ?qz2003
      try simp only [Act.put, List.setIfInBounds_toArray, List.set_cons_zero, List.set_cons_succ]
      refine wpAnyH_ready (rs := [3, 8]) (by kernel_rfl) (by simp) ?_
      refine AllReadyH.cons (o := { dst := some 25, op := Op.buildSlice 75 2 #[(0, Operand.tmp 23), (1, Operand.tmp 24)], type := 75, pos := "ref.go:12", after := #[{ on := 1, ground := Ground.data }, { on := 2, ground := Ground.data }], guard := none }) rfl (fun K hK => ?_) (AllReadyH.cons (o := { dst := some 11, op := Op.alloc 22, type := 0, pos := "ref.go:12", after := #[], guard := none }) rfl (fun K hK => ?_) AllReadyH.nil)
      · rw [if_pos (by rfl)]
        go_simp
        have qz2005 := World.grownBy_alloc v0 (.cells #[.slice (some ⟨g4, 0, none⟩) 32 32, .slice (some ⟨g5, 0, none⟩) 32 32] 66) none
        obtain ⟨vz2004, hvz2006⟩ : ∃ w', v0.alloc (.cells #[.slice (some ⟨g4, 0, none⟩) 32 32, .slice (some ⟨g5, 0, none⟩) 32 32] 66) = w' := ⟨_, rfl⟩
        obtain ⟨gl, hgl⟩ : ∃ g, g = v0.heap.size := ⟨_, rfl⟩
        have lz2007 := lst_two HK.out HK2.out (byt_of0 (Rrg.blk R0 B4b.out NG4b.out)) (byt_of0 (Rrg.blk R0 B5b.out NG5b.out)) (Rrg.blk R0 B4b.out NG4b.out).lt (Rrg.blk R0 B5b.out NG5b.out).lt hvz2006 hgl
        rw [hvz2006] at qz2005 ⊢
        rw [← hgl]
        have nlz2008 : ¬ okX gl := NOK6 gl (by rw [hgl]; exact R0.md.size)
        have Rz2009 := R0.alloc qz2005
        have hll : gl < vz2004.heap.size := by rw [← hvz2006, World.size_alloc, hgl]; exact Nat.lt_succ_self _
        clear hgl hvz2006
        refine hK.out _ _ (range_of (Rrg.blk Rz2009 B3b.out NG3b.out)) (fun hHeld => ?_)
        clear hK K
        try simp only [Act.put, List.setIfInBounds_toArray, List.set_cons_zero, List.set_cons_succ]
        refine wpAnyH_ready (rs := [4, 8]) (by kernel_rfl) (by simp) ?_
        refine AllReadyH.cons (o := { dst := some 26, op := Op.call { callee := Callee.value (Operand.func 26), args := #[Operand.tmp 22, Operand.const (Value.int IntKind.u8 67), Operand.tmp 25], argTypes := #[35, 5, 75] }, type := 68, pos := "ref.go:12", after := #[{ on := 0, ground := Ground.data }, { on := 3, ground := Ground.data }], guard := none }) rfl (fun K hK => ?_) (AllReadyH.cons (o := { dst := some 11, op := Op.alloc 22, type := 0, pos := "ref.go:12", after := #[], guard := none }) rfl (fun K hK => ?_) AllReadyH.nil)
        · rw [if_pos (by rfl)]
          go_simp
          have hcz2012 : Calls Tryd.prog 26 #[.agg #[pv], .int .u8 67, .slice (some ⟨gl, 0, none⟩) 2 2] vz2004 fun e w' => e = .returned (.tuple #[.agg (u8s b).toArray, .bool true]) ∧ Rx vz2004 okX p σ2 w' := by
            have hd : ∀ b, (b = g4 ∨ b = g5 ∨ b = gl) → b < vz2004.heap.size ∧ ¬ okX b := (fun b hb => hb.elim (fun e => by rw [e]; exact ⟨(Rrg.blk Rz2009 B4b.out NG4b.out).lt, NG4b.out⟩) (fun hb => hb.elim (fun e => by rw [e]; exact ⟨(Rrg.blk Rz2009 B5b.out NG5b.out).lt, NG5b.out⟩) (fun e => by rw [e]; exact ⟨hll, nlz2008⟩)))
            have h := rmix_any (c := 2) 67 Rz2009.sui HR1.out lz2007 (fun b hb => (hd b hb).1) rfl (mixOk_two HK.out HK2.out)
            rw [HTAB.out] at h
            refine h.mono fun e w' ⟨he, hn⟩ => ⟨?_, by rw [H2.out]; exact hn⟩
            rw [HB.out]
            exact he
          with_reducible refine hcz2012.mono ?_
          rintro _ vz2010 ⟨rfl, nxz2011⟩
          have Rz2013 := Rz2009.call nxz2011
          refine hK.out _ _ (range_of (Rrg.blk Rz2013 B3b.out NG3b.out)) (fun hHeld => ?_)
          clear hK K
          try simp only [Act.put, List.setIfInBounds_toArray, List.set_cons_zero, List.set_cons_succ]
          refine' wpAnyH_take (i := 5) (oi := { dst := some 21, op := Op.move (Operand.tmp 26), type := 68, pos := "ref.go:12", after := #[{ on := 4, ground := Ground.data }], guard := none }) (v := .tuple #[.agg (u8s b).toArray, .bool true]) rfl (by kernel_rfl) (by kernel_rfl) (by kernel_rfl) (fun _ _ _ h => h) (Or.inl ⟨by rfl, fun _ _ => rfl⟩) (by assumption) ?qz2014
          try simp only [Act.put, List.setIfInBounds_toArray, List.set_cons_zero, List.set_cons_succ]
          refine' wpAnyH_take (i := 6) (oi := { dst := some 27, op := Op.extract (Operand.tmp 21) 0, type := 22, pos := "ref.go:12", after := #[{ on := 5, ground := Ground.data }], guard := none }) (v := .agg (u8s b).toArray) rfl (by kernel_rfl) (by kernel_rfl) (by kernel_rfl) (fun _ _ _ h => h) (Or.inl ⟨by rfl, fun _ _ => rfl⟩) (by assumption) ?qz2015
          try simp only [Act.put, List.setIfInBounds_toArray, List.set_cons_zero, List.set_cons_succ]
          refine' wpAnyH_take (i := 7) (oi := { dst := some 28, op := Op.extract (Operand.tmp 21) 1, type := 4, pos := "ref.go:12", after := #[{ on := 5, ground := Ground.data }, { on := 9, ground := Ground.gcOnly Departure.lateStores }], guard := none }) (v := .bool true) rfl (by kernel_rfl) (by kernel_rfl) (by kernel_rfl) (fun _ _ _ h => h) (Or.inl ⟨by rfl, fun _ _ => rfl⟩) (by assumption) ?qz2016
          try simp only [Act.put, List.setIfInBounds_toArray, List.set_cons_zero, List.set_cons_succ]
          refine wpAnyH_ready (rs := [8]) (by kernel_rfl) (by simp) ?_
          refine AllReadyH.cons (o := { dst := some 11, op := Op.alloc 22, type := 0, pos := "ref.go:12", after := #[], guard := none }) rfl (fun K hK => ?_) AllReadyH.nil
          rw [if_pos (by rfl)]
          refine wp_allocG zeA rfl (fun g11 vz2017 ez2018 kz2019 qz2020 => ?_)
          have nz2022 : ¬ (More okX vz2004 vz2010) g11 := Rz2013.not_new (Nat.le_of_eq ez2018.out.symm)
          have Rz2021 := Rz2013.alloc qz2020.out
          have nz2022w : w6.heap.size ≤ g11 := by rw [ez2018.out]; exact Rz2013.md.size
          refine hK.out _ _ (range_of (Rrg.blk Rz2021 B3b.out NG3b.out)) (fun hHeld => ?_)
          clear hK K
          try simp only [Act.put, List.setIfInBounds_toArray, List.set_cons_zero, List.set_cons_succ]
          refine wpAnyH_ready (rs := [9]) (by kernel_rfl) (by simp) ?_
          refine AllReadyH.cons (o := { dst := none, op := Op.store 22 (Operand.tmp 11) (Operand.tmp 27), type := 0, pos := "ref.go:12", after := #[{ on := 8, ground := Ground.data }, { on := 6, ground := Ground.data }, { on := 4, ground := Ground.chain }, { on := 0, ground := Ground.phase }, { on := 1, ground := Ground.phase }, { on := 2, ground := Ground.phase }, { on := 3, ground := Ground.phase }, { on := 4, ground := Ground.phase }, { on := 5, ground := Ground.phase }, { on := 6, ground := Ground.phase }, { on := 7, ground := Ground.textOnly Departure.lateStores }, { on := 8, ground := Ground.phase }], guard := none }) rfl (fun K hK => ?_) AllReadyH.nil
          rw [if_pos (by rfl)]
          refine wp_storeG agA _ _ rfl g11 rfl rfl (kz2019.out) (by rw [u8s_length, z32_length]) (by rw [u8s_length, HBL.out]) (u8s_one _) (fun vz2023 kz2024 qz2025 zz2026 => ?_)
          have Rz2027 := Rz2021.store qz2025.out nz2022 nz2022w
          refine hK.out _ _ (range_of (Rrg.blk Rz2027 B3b.out NG3b.out)) (fun hHeld => ?_)
          clear hK K
          dsimp only [Act.put]
          refine wpAnyH_ready (rs := [10]) (by kernel_rfl) (by simp) ?_
          refine AllReadyH.cons (o := { dst := some 12, op := Op.assign (Operand.tmp 28), type := 4, pos := "ref.go:12", after := #[{ on := 7, ground := Ground.data }, { on := 9, ground := Ground.chain }, { on := 0, ground := Ground.phase }, { on := 1, ground := Ground.phase }, { on := 2, ground := Ground.phase }, { on := 3, ground := Ground.phase }, { on := 4, ground := Ground.phase }, { on := 5, ground := Ground.phase }, { on := 6, ground := Ground.phase }, { on := 7, ground := Ground.phase }, { on := 8, ground := Ground.phase }, { on := 9, ground := Ground.phase }], guard := none }) rfl (fun K hK => ?_) AllReadyH.nil
          rw [if_pos (by rfl)]
          go_simp
          refine hK.out _ _ hHeld (fun hHeld => ?_)
          clear hK K
          try simp only [Act.put, List.setIfInBounds_toArray, List.set_cons_zero, List.set_cons_succ]
          refine wpAnyH_done (by kernel_rfl) ?_ _
          exact hrest2_ _ g11 gl ⟨_, Rz2027, nz2022, kz2024.out, nz2022w⟩
        · rw [if_pos (by rfl)]
          refine wp_allocG zeA rfl (fun g11 vz2028 ez2029 kz2030 qz2031 => ?_)
          have nz2033 : ¬ okX g11 := Rz2009.not_new (Nat.le_of_eq ez2029.out.symm)
          have Rz2032 := Rz2009.alloc qz2031.out
          have nz2033w : w6.heap.size ≤ g11 := by rw [ez2029.out]; exact Rz2009.md.size
          have dz2036 : ∀ b, (b = g4 ∨ b = g5 ∨ b = gl) → b < vz2004.heap.size ∧ ¬ okX b := (fun b hb => hb.elim (fun e => by rw [e]; exact ⟨(Rrg.blk Rz2009 B4b.out NG4b.out).lt, NG4b.out⟩) (fun hb => hb.elim (fun e => by rw [e]; exact ⟨(Rrg.blk Rz2009 B5b.out NG5b.out).lt, NG5b.out⟩) (fun e => by rw [e]; exact ⟨hll, nlz2008⟩)))
          have lz2034 := lz2007.keep fun b hb => qz2031.out.block b (dz2036 b hb).1 (by simp)
          have hllz2035 := Nat.lt_of_lt_of_le hll qz2031.out.size
          refine hK.out _ _ (range_of (Rrg.blk Rz2032 B3b.out NG3b.out)) (fun hHeld => ?_)
          clear hK K
          try simp only [Act.put, List.setIfInBounds_toArray, List.set_cons_zero, List.set_cons_succ]
          refine wpAnyH_ready (rs := [4]) (by kernel_rfl) (by simp) ?_
          refine AllReadyH.cons (o := { dst := some 26, op := Op.call { callee := Callee.value (Operand.func 26), args := #[Operand.tmp 22, Operand.const (Value.int IntKind.u8 67), Operand.tmp 25], argTypes := #[35, 5, 75] }, type := 68, pos := "ref.go:12", after := #[{ on := 0, ground := Ground.data }, { on := 3, ground := Ground.data }], guard := none }) rfl (fun K hK => ?_) AllReadyH.nil
          rw [if_pos (by rfl)]
          go_simp
          have hcz2039 : Calls Tryd.prog 26 #[.agg #[pv], .int .u8 67, .slice (some ⟨gl, 0, none⟩) 2 2] vz2028 fun e w' => e = .returned (.tuple #[.agg (u8s b).toArray, .bool true]) ∧ Rx vz2028 okX p σ2 w' := by
            have hd : ∀ b, (b = g4 ∨ b = g5 ∨ b = gl) → b < vz2028.heap.size ∧ ¬ okX b := (fun b hb => hb.elim (fun e => by rw [e]; exact ⟨(Rrg.blk Rz2032 B4b.out NG4b.out).lt, NG4b.out⟩) (fun hb => hb.elim (fun e => by rw [e]; exact ⟨(Rrg.blk Rz2032 B5b.out NG5b.out).lt, NG5b.out⟩) (fun e => by rw [e]; exact ⟨hllz2035, nlz2008⟩)))
            have h := rmix_any (c := 2) 67 Rz2032.sui HR1.out lz2034 (fun b hb => (hd b hb).1) rfl (mixOk_two HK.out HK2.out)
            rw [HTAB.out] at h
            refine h.mono fun e w' ⟨he, hn⟩ => ⟨?_, by rw [H2.out]; exact hn⟩
            rw [HB.out]
            exact he
          with_reducible refine hcz2039.mono ?_
          rintro _ vz2037 ⟨rfl, nxz2038⟩
          have Rz2040 := Rz2032.call nxz2038
          have nz2041 : ¬ More okX vz2028 vz2037 g11 := More.not nz2033 (kz2030.out).lt
          have nz2041b := (Rx.blk nxz2038 (kz2030.out) nz2033)
          refine hK.out _ _ (range_of (Rrg.blk Rz2040 B3b.out NG3b.out)) (fun hHeld => ?_)
          clear hK K
          try simp only [Act.put, List.setIfInBounds_toArray, List.set_cons_zero, List.set_cons_succ]
          refine' wpAnyH_take (i := 5) (oi := { dst := some 21, op := Op.move (Operand.tmp 26), type := 68, pos := "ref.go:12", after := #[{ on := 4, ground := Ground.data }], guard := none }) (v := .tuple #[.agg (u8s b).toArray, .bool true]) rfl (by kernel_rfl) (by kernel_rfl) (by kernel_rfl) (fun _ _ _ h => h) (Or.inl ⟨by rfl, fun _ _ => rfl⟩) (by assumption) ?qz2042
          try simp only [Act.put, List.setIfInBounds_toArray, List.set_cons_zero, List.set_cons_succ]
          refine' wpAnyH_take (i := 6) (oi := { dst := some 27, op := Op.extract (Operand.tmp 21) 0, type := 22, pos := "ref.go:12", after := #[{ on := 5, ground := Ground.data }], guard := none }) (v := .agg (u8s b).toArray) rfl (by kernel_rfl) (by kernel_rfl) (by kernel_rfl) (fun _ _ _ h => h) (Or.inl ⟨by rfl, fun _ _ => rfl⟩) (by assumption) ?qz2043
          try simp only [Act.put, List.setIfInBounds_toArray, List.set_cons_zero, List.set_cons_succ]
          refine' wpAnyH_take (i := 7) (oi := { dst := some 28, op := Op.extract (Operand.tmp 21) 1, type := 4, pos := "ref.go:12", after := #[{ on := 5, ground := Ground.data }, { on := 9, ground := Ground.gcOnly Departure.lateStores }], guard := none }) (v := .bool true) rfl (by kernel_rfl) (by kernel_rfl) (by kernel_rfl) (fun _ _ _ h => h) (Or.inl ⟨by rfl, fun _ _ => rfl⟩) (by assumption) ?qz2044
          try simp only [Act.put, List.setIfInBounds_toArray, List.set_cons_zero, List.set_cons_succ]
          refine wpAnyH_ready (rs := [9]) (by kernel_rfl) (by simp) ?_
          refine AllReadyH.cons (o := { dst := none, op := Op.store 22 (Operand.tmp 11) (Operand.tmp 27), type := 0, pos := "ref.go:12", after := #[{ on := 8, ground := Ground.data }, { on := 6, ground := Ground.data }, { on := 4, ground := Ground.chain }, { on := 0, ground := Ground.phase }, { on := 1, ground := Ground.phase }, { on := 2, ground := Ground.phase }, { on := 3, ground := Ground.phase }, { on := 4, ground := Ground.phase }, { on := 5, ground := Ground.phase }, { on := 6, ground := Ground.phase }, { on := 7, ground := Ground.textOnly Departure.lateStores }, { on := 8, ground := Ground.phase }], guard := none }) rfl (fun K hK => ?_) AllReadyH.nil
          rw [if_pos (by rfl)]
          refine wp_storeG agA _ _ rfl g11 rfl rfl (nz2041b) (by rw [u8s_length, z32_length]) (by rw [u8s_length, HBL.out]) (u8s_one _) (fun vz2045 kz2046 qz2047 zz2048 => ?_)
          have Rz2049 := Rz2040.store qz2047.out nz2041 nz2033w
          refine hK.out _ _ (range_of (Rrg.blk Rz2049 B3b.out NG3b.out)) (fun hHeld => ?_)
          clear hK K
          dsimp only [Act.put]
          refine wpAnyH_ready (rs := [10]) (by kernel_rfl) (by simp) ?_
          refine AllReadyH.cons (o := { dst := some 12, op := Op.assign (Operand.tmp 28), type := 4, pos := "ref.go:12", after := #[{ on := 7, ground := Ground.data }, { on := 9, ground := Ground.chain }, { on := 0, ground := Ground.phase }, { on := 1, ground := Ground.phase }, { on := 2, ground := Ground.phase }, { on := 3, ground := Ground.phase }, { on := 4, ground := Ground.phase }, { on := 5, ground := Ground.phase }, { on := 6, ground := Ground.phase }, { on := 7, ground := Ground.phase }, { on := 8, ground := Ground.phase }, { on := 9, ground := Ground.phase }], guard := none }) rfl (fun K hK => ?_) AllReadyH.nil
          rw [if_pos (by rfl)]
          go_simp
          refine hK.out _ _ hHeld (fun hHeld => ?_)
          clear hK K
          try simp only [Act.put, List.setIfInBounds_toArray, List.set_cons_zero, List.set_cons_succ]
          refine wpAnyH_done (by kernel_rfl) ?_ _
          exact hrest2_ _ g11 gl ⟨_, Rz2049, nz2041, kz2046.out, nz2033w⟩
      · rw [if_pos (by rfl)]
        refine wp_allocG zeA rfl (fun g11 vz2050 ez2051 kz2052 qz2053 => ?_)
        have nz2055 : ¬ okX g11 := R0.not_new (Nat.le_of_eq ez2051.out.symm)
        have Rz2054 := R0.alloc qz2053.out
        have nz2055w : w6.heap.size ≤ g11 := by rw [ez2051.out]; exact R0.md.size
        refine hK.out _ _ (range_of (Rrg.blk Rz2054 B3b.out NG3b.out)) (fun hHeld => ?_)
        clear hK K
        try simp only [Act.put, List.setIfInBounds_toArray, List.set_cons_zero, List.set_cons_succ]
        refine wpAnyH_ready (rs := [3]) (by kernel_rfl) (by simp) ?_
        refine AllReadyH.cons (o := { dst := some 25, op := Op.buildSlice 75 2 #[(0, Operand.tmp 23), (1, Operand.tmp 24)], type := 75, pos := "ref.go:12", after := #[{ on := 1, ground := Ground.data }, { on := 2, ground := Ground.data }], guard := none }) rfl (fun K hK => ?_) AllReadyH.nil
        rw [if_pos (by rfl)]
        go_simp
        have qz2057 := World.grownBy_alloc vz2050 (.cells #[.slice (some ⟨g4, 0, none⟩) 32 32, .slice (some ⟨g5, 0, none⟩) 32 32] 66) none
        obtain ⟨vz2056, hvz2058⟩ : ∃ w', vz2050.alloc (.cells #[.slice (some ⟨g4, 0, none⟩) 32 32, .slice (some ⟨g5, 0, none⟩) 32 32] 66) = w' := ⟨_, rfl⟩
        obtain ⟨gl, hgl⟩ : ∃ g, g = vz2050.heap.size := ⟨_, rfl⟩
        have lz2059 := lst_two HK.out HK2.out (byt_of0 (Rrg.blk Rz2054 B4b.out NG4b.out)) (byt_of0 (Rrg.blk Rz2054 B5b.out NG5b.out)) (Rrg.blk Rz2054 B4b.out NG4b.out).lt (Rrg.blk Rz2054 B5b.out NG5b.out).lt hvz2058 hgl
        rw [hvz2058] at qz2057 ⊢
        rw [← hgl]
        have nlz2060 : ¬ okX gl := NOK6 gl (by rw [hgl]; exact Rz2054.md.size)
        have Rz2061 := Rz2054.alloc qz2057
        have hll : gl < vz2056.heap.size := by rw [← hvz2058, World.size_alloc, hgl]; exact Nat.lt_succ_self _
        clear hgl hvz2058
        refine hK.out _ _ (range_of (Rrg.blk Rz2061 B3b.out NG3b.out)) (fun hHeld => ?_)
        clear hK K
        try simp only [Act.put, List.setIfInBounds_toArray, List.set_cons_zero, List.set_cons_succ]
        refine wpAnyH_ready (rs := [4]) (by kernel_rfl) (by simp) ?_
        refine AllReadyH.cons (o := { dst := some 26, op := Op.call { callee := Callee.value (Operand.func 26), args := #[Operand.tmp 22, Operand.const (Value.int IntKind.u8 67), Operand.tmp 25], argTypes := #[35, 5, 75] }, type := 68, pos := "ref.go:12", after := #[{ on := 0, ground := Ground.data }, { on := 3, ground := Ground.data }], guard := none }) rfl (fun K hK => ?_) AllReadyH.nil
        rw [if_pos (by rfl)]
        go_simp
        have hcz2064 : Calls Tryd.prog 26 #[.agg #[pv], .int .u8 67, .slice (some ⟨gl, 0, none⟩) 2 2] vz2056 fun e w' => e = .returned (.tuple #[.agg (u8s b).toArray, .bool true]) ∧ Rx vz2056 okX p σ2 w' := by
          have hd : ∀ b, (b = g4 ∨ b = g5 ∨ b = gl) → b < vz2056.heap.size ∧ ¬ okX b := (fun b hb => hb.elim (fun e => by rw [e]; exact ⟨(Rrg.blk Rz2061 B4b.out NG4b.out).lt, NG4b.out⟩) (fun hb => hb.elim (fun e => by rw [e]; exact ⟨(Rrg.blk Rz2061 B5b.out NG5b.out).lt, NG5b.out⟩) (fun e => by rw [e]; exact ⟨hll, nlz2060⟩)))
          have h := rmix_any (c := 2) 67 Rz2061.sui HR1.out lz2059 (fun b hb => (hd b hb).1) rfl (mixOk_two HK.out HK2.out)
          rw [HTAB.out] at h
          refine h.mono fun e w' ⟨he, hn⟩ => ⟨?_, by rw [H2.out]; exact hn⟩
          rw [HB.out]
          exact he
        with_reducible refine hcz2064.mono ?_
        rintro _ vz2062 ⟨rfl, nxz2063⟩
        have Rz2065 := Rz2061.call nxz2063
        have nz2066 : ¬ More okX vz2056 vz2062 g11 := More.not nz2055 ((kz2052.out.grown qz2057 (by simp))).lt
        have nz2066b := (Rx.blk nxz2063 ((kz2052.out.grown qz2057 (by simp))) nz2055)
        refine hK.out _ _ (range_of (Rrg.blk Rz2065 B3b.out NG3b.out)) (fun hHeld => ?_)
        clear hK K
        try simp only [Act.put, List.setIfInBounds_toArray, List.set_cons_zero, List.set_cons_succ]
        refine' wpAnyH_take (i := 5) (oi := { dst := some 21, op := Op.move (Operand.tmp 26), type := 68, pos := "ref.go:12", after := #[{ on := 4, ground := Ground.data }], guard := none }) (v := .tuple #[.agg (u8s b).toArray, .bool true]) rfl (by kernel_rfl) (by kernel_rfl) (by kernel_rfl) (fun _ _ _ h => h) (Or.inl ⟨by rfl, fun _ _ => rfl⟩) (by assumption) ?qz2067
        try simp only [Act.put, List.setIfInBounds_toArray, List.set_cons_zero, List.set_cons_succ]
        refine' wpAnyH_take (i := 6) (oi := { dst := some 27, op := Op.extract (Operand.tmp 21) 0, type := 22, pos := "ref.go:12", after := #[{ on := 5, ground := Ground.data }], guard := none }) (v := .agg (u8s b).toArray) rfl (by kernel_rfl) (by kernel_rfl) (by kernel_rfl) (fun _ _ _ h => h) (Or.inl ⟨by rfl, fun _ _ => rfl⟩) (by assumption) ?qz2068
        try simp only [Act.put, List.setIfInBounds_toArray, List.set_cons_zero, List.set_cons_succ]
        refine' wpAnyH_take (i := 7) (oi := { dst := some 28, op := Op.extract (Operand.tmp 21) 1, type := 4, pos := "ref.go:12", after := #[{ on := 5, ground := Ground.data }, { on := 9, ground := Ground.gcOnly Departure.lateStores }], guard := none }) (v := .bool true) rfl (by kernel_rfl) (by kernel_rfl) (by kernel_rfl) (fun _ _ _ h => h) (Or.inl ⟨by rfl, fun _ _ => rfl⟩) (by assumption) ?qz2069
        try simp only [Act.put, List.setIfInBounds_toArray, List.set_cons_zero, List.set_cons_succ]
        refine wpAnyH_ready (rs := [9]) (by kernel_rfl) (by simp) ?_
        refine AllReadyH.cons (o := { dst := none, op := Op.store 22 (Operand.tmp 11) (Operand.tmp 27), type := 0, pos := "ref.go:12", after := #[{ on := 8, ground := Ground.data }, { on := 6, ground := Ground.data }, { on := 4, ground := Ground.chain }, { on := 0, ground := Ground.phase }, { on := 1, ground := Ground.phase }, { on := 2, ground := Ground.phase }, { on := 3, ground := Ground.phase }, { on := 4, ground := Ground.phase }, { on := 5, ground := Ground.phase }, { on := 6, ground := Ground.phase }, { on := 7, ground := Ground.textOnly Departure.lateStores }, { on := 8, ground := Ground.phase }], guard := none }) rfl (fun K hK => ?_) AllReadyH.nil
        rw [if_pos (by rfl)]
        refine wp_storeG agA _ _ rfl g11 rfl rfl (nz2066b) (by rw [u8s_length, z32_length]) (by rw [u8s_length, HBL.out]) (u8s_one _) (fun vz2070 kz2071 qz2072 zz2073 => ?_)
        have Rz2074 := Rz2065.store qz2072.out nz2066 nz2055w
        refine hK.out _ _ (range_of (Rrg.blk Rz2074 B3b.out NG3b.out)) (fun hHeld => ?_)
        clear hK K
        dsimp only [Act.put]
        refine wpAnyH_ready (rs := [10]) (by kernel_rfl) (by simp) ?_
        refine AllReadyH.cons (o := { dst := some 12, op := Op.assign (Operand.tmp 28), type := 4, pos := "ref.go:12", after := #[{ on := 7, ground := Ground.data }, { on := 9, ground := Ground.chain }, { on := 0, ground := Ground.phase }, { on := 1, ground := Ground.phase }, { on := 2, ground := Ground.phase }, { on := 3, ground := Ground.phase }, { on := 4, ground := Ground.phase }, { on := 5, ground := Ground.phase }, { on := 6, ground := Ground.phase }, { on := 7, ground := Ground.phase }, { on := 8, ground := Ground.phase }, { on := 9, ground := Ground.phase }], guard := none }) rfl (fun K hK => ?_) AllReadyH.nil
        rw [if_pos (by rfl)]
        go_simp
        refine hK.out _ _ hHeld (fun hHeld => ?_)
        clear hK K
        try simp only [Act.put, List.setIfInBounds_toArray, List.set_cons_zero, List.set_cons_succ]
        refine wpAnyH_done (by kernel_rfl) ?_ _
        exact hrest2_ _ g11 gl ⟨_, Rz2074, nz2066, kz2071.out, nz2055w⟩
    · intro w7 g11 gl2 ⟨okY, r7, n11, b11, w11⟩
      have R7 : Hid (Rrg w w7 ok okY p σ2) := (R6.out.trans r7).base G5.out
      have B11 := Lib.hid b11
      have W11 := Lib.hid w11
      have B9c := Lib.hid (r7.blk B9.out N9.out)
      have B6c := Lib.hid ((R6.out.trans r7).blk B6.out (NOK.out g6 (by have := NE.out; omega)))
      have B7c := Lib.hid ((R6.out.trans r7).blk B7.out (NOK.out g7 (by have := NE.out; omega)))
      have NM6 := Lib.hid ((R6.out.trans r7).not_old B6.out.lt (NOK.out g6 (by have := NE.out; omega)))
      have NM7 := Lib.hid ((R6.out.trans r7).not_old B7.out.lt (NOK.out g7 (by have := NE.out; omega)))
      have NX6 : Hid (g9 ≠ g6 ∧ g11 ≠ g6) := by have := NE.out; have := W9.out; have := W11.out; have := R6.out.md.size; show _ ∧ _; omega
      have NX7 : Hid (g9 ≠ g7 ∧ g11 ≠ g7) := by have := NE.out; have := W9.out; have := W11.out; have := R6.out.md.size; show _ ∧ _; omega
      have N76 : Hid (g7 ≠ g6) := by have := NE.out; show g7 ≠ g6; omega
      have N67 : Hid (g6 ≠ g7) := by have := NE.out; show g6 ≠ g7; omega
      clear r7 n11 b11 w11
      go_wp2_with fail
      refine wp_region_held_drew (S := fun W => W.rangeAt g9 0 (u8s a) ∧ W.rangeAt g11 0 (u8s b)) (by kernel_rfl) ⟨range_of B9c.out, range_of B11.out⟩ (fun hHeld => ?_)
      refine' wpAnyH_take (i := 0) (oi := { dst := some 29, op := Op.load 22 (Operand.tmp 9), type := 22, pos := "ref.go:13", after := #[], guard := none }) (v := .agg (u8s a).toArray) rfl (by kernel_rfl) (by kernel_rfl) (by kernel_rfl) (fun _ _ _ h => h) (yieldsIf_loadR agA (by rfl) (.tmp 9) rfl g9 0 rfl (by rw [u8s_length, HAL.out]) (fun _ h => h.1)) (by assumption) ?qz7001
      try simp only [Act.put, List.setIfInBounds_toArray, List.set_cons_zero, List.set_cons_succ]
      refine' wpAnyH_take (i := 1) (oi := { dst := some 30, op := Op.load 22 (Operand.tmp 11), type := 22, pos := "ref.go:13", after := #[{ on := 6, ground := Ground.gcOnly Departure.lateStores }], guard := none }) (v := .agg (u8s b).toArray) rfl (by kernel_rfl) (by kernel_rfl) (by kernel_rfl) (fun _ _ _ h => h) (yieldsIf_loadR agA (by rfl) (.tmp 11) rfl g11 0 rfl (by rw [u8s_length, HBL.out]) (fun _ h => h.2)) (by assumption) ?qz7002
      try simp only [Act.put, List.setIfInBounds_toArray, List.set_cons_zero, List.set_cons_succ]
      refine' wpAnyH_take (i := 2) (oi := { dst := some 31, op := Op.move (Operand.tmp 10), type := 4, pos := "ref.go:13", after := #[], guard := none }) (v := .bool true) rfl (by kernel_rfl) (by kernel_rfl) (by kernel_rfl) (fun _ _ _ h => h) (Or.inl ⟨by rfl, fun w' hSw => by go_simp⟩) (by assumption) ?qz7003
      try simp only [Act.put, List.setIfInBounds_toArray, List.set_cons_zero, List.set_cons_succ]
      refine' wpAnyH_take (i := 3) (oi := { dst := some 32, op := Op.move (Operand.tmp 31), type := 4, pos := "ref.go:13", after := #[{ on := 2, ground := Ground.data }], guard := none }) (v := .bool true) rfl (by kernel_rfl) (by kernel_rfl) (by kernel_rfl) (fun _ _ _ h => h) (Or.inl ⟨by rfl, fun w' hSw => by go_simp⟩) (by assumption) ?qz7004
      try simp only [Act.put, List.setIfInBounds_toArray, List.set_cons_zero, List.set_cons_succ]
      refine' wpAnyH_take (i := 4) (oi := { dst := some 33, op := Op.move (Operand.tmp 12), type := 4, pos := "ref.go:13", after := #[{ on := 3, ground := Ground.guard }, { on := 7, ground := Ground.gcOnly Departure.lateStores }], guard := some (3, true) }) (v := .bool true) rfl (by kernel_rfl) (by kernel_rfl) (by kernel_rfl) (fun _ _ _ h => h) (Or.inl ⟨by rfl, fun w' hSw => by go_simp⟩) (by assumption) ?qz7005
      try simp only [Act.put, List.setIfInBounds_toArray, List.set_cons_zero, List.set_cons_succ]
      refine' wpAnyH_take (i := 5) (oi := { dst := some 34, op := Op.pick (Operand.tmp 32) (Operand.tmp 33) (Operand.const (Value.bool false)), type := 4, pos := "ref.go:13", after := #[{ on := 3, ground := Ground.data }, { on := 4, ground := Ground.data }, { on := 7, ground := Ground.gcOnly Departure.lateStores }], guard := none }) (v := .bool true) rfl (by kernel_rfl) (by kernel_rfl) (by kernel_rfl) (fun _ _ _ h => h) (Or.inl ⟨by rfl, fun w' hSw => by go_simp⟩) (by assumption) ?qz7006
      try simp only [Act.put, List.setIfInBounds_toArray, List.set_cons_zero, List.set_cons_succ]
      refine wpAnyH_ready (rs := [6]) (by kernel_rfl) (by simp) ?_
      refine AllReadyH.cons (o := { dst := none, op := Op.store 22 (Operand.tmp 6) (Operand.tmp 29), type := 0, pos := "ref.go:13", after := #[{ on := 0, ground := Ground.data }, { on := 3, ground := Ground.chain }, { on := 0, ground := Ground.phase }, { on := 1, ground := Ground.textOnly Departure.lateStores }, { on := 2, ground := Ground.textOnly Departure.lateStores }, { on := 3, ground := Ground.textOnly Departure.lateStores }, { on := 4, ground := Ground.textOnly Departure.lateStores }, { on := 5, ground := Ground.textOnly Departure.lateStores }], guard := none }) rfl (fun K hK => ?_) AllReadyH.nil
      rw [if_pos (by rfl)]
      refine wp_storeG agA _ _ rfl g6 rfl rfl B6c.out (by rw [u8s_length, z32_length]) (by rw [u8s_length, HAL.out]) (u8s_one _) (fun w8 k6 q6 z6 => ?_)
      have B7d := Lib.hid ((B7c.out.grown (grown_drew _) (by simp)).grown q6.out (by simpa using N76.out))
      refine hK.out _ _ ⟨range_keep hHeld.1 fun hlt => q6.out.block g9 hlt (by simpa using NX6.out.1), range_keep hHeld.2 fun hlt => q6.out.block g11 hlt (by simpa using NX6.out.2)⟩ (fun hHeld => ?_)
      clear hK K
      dsimp only [Act.put]
      refine wpAnyH_ready (rs := [7]) (by kernel_rfl) (by simp) ?_
      refine AllReadyH.cons (o := { dst := none, op := Op.store 22 (Operand.tmp 7) (Operand.tmp 30), type := 0, pos := "ref.go:13", after := #[{ on := 1, ground := Ground.data }, { on := 6, ground := Ground.chain }, { on := 0, ground := Ground.phase }, { on := 1, ground := Ground.phase }, { on := 2, ground := Ground.textOnly Departure.lateStores }, { on := 3, ground := Ground.textOnly Departure.lateStores }, { on := 4, ground := Ground.textOnly Departure.lateStores }, { on := 5, ground := Ground.textOnly Departure.lateStores }, { on := 6, ground := Ground.phase }], guard := none }) rfl (fun K hK => ?_) AllReadyH.nil
      rw [if_pos (by rfl)]
      refine wp_storeG agA _ _ rfl g7 rfl rfl B7d.out (by rw [u8s_length, z32_length]) (by rw [u8s_length, HBL.out]) (u8s_one _) (fun w9 k7 q7 z7 => ?_)
      refine hK.out _ _ ⟨range_keep hHeld.1 fun hlt => q7.out.block g9 hlt (by simpa using NX7.out.1), range_keep hHeld.2 fun hlt => q7.out.block g11 hlt (by simpa using NX7.out.2)⟩ (fun hHeld => ?_)
      clear hK K
      dsimp only [Act.put]
      refine wpAnyH_ready (rs := [8]) (by kernel_rfl) (by simp) ?_
      refine AllReadyH.cons (o := { dst := some 8, op := Op.assign (Operand.tmp 34), type := 4, pos := "ref.go:13", after := #[{ on := 5, ground := Ground.data }, { on := 7, ground := Ground.chain }, { on := 0, ground := Ground.phase }, { on := 1, ground := Ground.phase }, { on := 2, ground := Ground.phase }, { on := 3, ground := Ground.phase }, { on := 4, ground := Ground.phase }, { on := 5, ground := Ground.phase }, { on := 6, ground := Ground.phase }, { on := 7, ground := Ground.phase }], guard := none }) rfl (fun K hK => ?_) AllReadyH.nil
      rw [if_pos (by rfl)]
      go_simp
      refine hK.out _ _ hHeld (fun hHeld => ?_)
      clear hK K
      try simp only [Act.put, List.setIfInBounds_toArray, List.set_cons_zero, List.set_cons_succ]
      refine wpAnyH_done (by kernel_rfl) ?_ _
      go_wp2_with fail
      refine bodyPost_ret (res_ccs rfl agA agA rfl rfl rfl (k6.out.grown q7.out (by simpa using N67.out)) k7.out (by rw [u8s_length, HAL.out]) (by rw [u8s_length, HBL.out])) rfl ⟨rfl, ?_⟩
      exact (((R7.out.alloc (grown_drew w7)).store q6.out NM6.out (by have := NE.out; omega)).store q7.out NM7.out (by have := NE.out; omega)).nx HS.out.lt
end Go.Proofs.YtdnkeaokgkiloaaDoor
