/- missiveref17.Next. Conditions: there is room for two more terms. -/
import Derived.Test.YtdnkeaokgkiloaaDoorR4
namespace Go.Proofs.YtdnkeaokgkiloaaDoor
open Go.RowKit T
theorem Rrg.base {w w5 v : World} {ok okX : Nat → Prop} {p : Option Nat} {τ : Sg} (h : Rrg w5 v ok okX p τ) (hg : w.grownBy w5 none) : Rrg w v ok okX p τ :=
  ⟨h.sui, ⟨h.md.os.trans hg.os, h.md.tape.trans hg.tape, h.md.output.trans hg.output, Nat.le_trans hg.size h.md.size, fun k hk hn => (h.md.block k (Nat.lt_of_lt_of_le hk hg.size) hn).trans (hg.block k hk (by simp))⟩,
    fun b hb => (h.sub b hb).imp id fun h => ⟨Nat.le_trans hg.size h.1, h.2⟩⟩
theorem Rrg.trans {w w5 v : World} {ok okX okY : Nat → Prop} {p : Option Nat} {σ τ : Sg} (h : Rrg w w5 ok okX p σ) (h2 : Rrg w5 v okX okY p τ) : Rrg w v ok okY p τ :=
  ⟨h2.sui, h.md.trans (h2.md.imp fun b _ hb => h.sub b hb), fun b hb => (h2.sub b hb).elim (fun hb => more_up (h.sub b hb) h2.md.size) fun hb => .inr ⟨Nat.le_trans h.md.size hb.1, hb.2⟩⟩
/-- What the reference's Next answers. -/
def RNextE (w : World) (ok : Nat → Prop) (p : Option Nat) (σ : Sg) (k : List UInt8) (n : Nat) (e : Ending) (w' : World) : Prop :=
  (n = 65535 ∧ e = .returned (.tuple #[.agg (rv z32 0).toArray, .agg (u8s z32).toArray, .int .i64 7]) ∧ w.grownBy w' none) ∨
  (n < 65535 ∧ e = .returned (.tuple #[.agg (rv (nextK σ k) (n + 1)).toArray, .agg (u8s (nextL σ k)).toArray, .int .i64 0]) ∧ Rx w ok p (nextS σ k) w')
set_option maxRecDepth 100000 in
set_option maxHeartbeats 16000000 in
theorem rnext_any {w : World} {ok : Nat → Prop} {p : Option Nat} {σ : Sg} {k : List UInt8} {n : Nat} (h : Rui w ok p σ) (hr : Room 59900 σ) (hk : k.length = 32) (hn : n < 65536) (hw2 : 2 ≤ w.heap.size) :
    Calls Tryd.prog 15 #[tab p, .agg (rv k n).toArray] w (RNextE w ok p σ k n) := by
  obtain ⟨a, ha⟩ : ∃ a, a = nextL σ k := ⟨_, rfl⟩
  obtain ⟨b, hb⟩ : ∃ b, b = nextK σ k := ⟨_, rfl⟩
  obtain ⟨σ1, h1⟩ : ∃ s, s = mixS σ 77 [k] := ⟨_, rfl⟩
  obtain ⟨σ2, h2⟩ : ∃ s, s = nextS σ k := ⟨_, rfl⟩
  have hr1 : Room 60000 σ1 := by rw [h1]; exact (hr.mix (mixOk_one hk) (by omega)).mono (by omega)
  unfold RNextE
  rw [← ha, ← hb, ← h2]
  have hal : a.length = 32 := by rw [ha]; exact nextL_length _ _
  have hbl : b.length = 32 := by rw [hb]; exact nextK_length _ _
  unfold nextL at ha
  unfold nextK at hb
  unfold nextS at h2
  rw [← h1] at hb h2
  obtain ⟨pv, hpv⟩ : ∃ v, v = Value.pointer (p.map fun b => (⟨b, 0, none⟩ : Addr)) := ⟨_, rfl⟩
  have htab : tab p = .agg [pv].toArray := by rw [hpv]; rfl
  obtain ⟨z, hz⟩ : ∃ z, z = rv k n := ⟨_, rfl⟩
  have HA := Lib.hid ha
  have HB := Lib.hid hb
  have H1 := Lib.hid h1
  have H2 := Lib.hid h2
  have HAL := Lib.hid hal
  have HBL := Lib.hid hbl
  have HS := Lib.hid h
  have HR := Lib.hid (hr.mono (show 59900 ≤ 60000 by omega))
  have HR1 := Lib.hid hr1
  have HK := Lib.hid hk
  have HZ := Lib.hid hz
  have HTAB := Lib.hid htab
  have HW2 := Lib.hid hw2
  rw [htab, ← hz]
  clear ha hb h1 h2 hal hbl h hr hr1 hk hz htab hpv hw2
  go_enter Tryd.func15, Tryd.ntmps15
  go_wp2_with (first | (refine wpList_boxG rfl _ rfl (vs := [pv]) rfl ?_) | fail)
  intro g2 w1 e2 k2 q2
  go_wp2_with (first | (refine wpList_boxG rfl _ rfl (vs := z) rfl ?_) | fail)
  intro g3 w2 e3 k3 q3
  go_wp2_with (first | (refine wpList_allocG zeC rfl rfl ?_) | fail)
  intro g4 w3 e4 k4 q4
  go_wp2_with (first | (refine wpList_allocG zeA rfl rfl ?_) | fail)
  intro g5 w4 e5 k5 q5
  have G4 := Lib.hid (((q2.out.trans q3.out).trans q4.out).trans q5.out)
  have B2 := Lib.hid (((k2.out.grown q3.out (by simp)).grown q4.out (by simp)).grown q5.out (by simp))
  have B3 : Hid (C.Blk w4 g3 40 (rv k n)) := by have hh := (k3.out.grown q4.out (by simp)).grown q5.out (by simp); rw [HZ.out] at hh; exact hh
  have B4 := Lib.hid (k4.out.grown q5.out (by simp))
  have B5 := Lib.hid k5.out
  have NE : Hid (w.heap.size ≤ g2 ∧ g2 < g3 ∧ g3 < g4 ∧ g4 < g5 ∧ g5 < w4.heap.size) := by
    have a1 := e2.out; have a2 := e3.out; have a3 := e4.out; have a4 := e5.out; have a5 := k2.out.lt; have a6 := k3.out.lt; have a7 := k4.out.lt; have a8 := k5.out.lt
    show _ ∧ _
    omega
  have NOK : Hid (∀ g, w.heap.size ≤ g → ¬ ok g) := fun g hg hb => by have := HS.out.lt g hb; omega
  have S4 := Lib.hid (HS.out.grown G4.out)
  have hc := blk_n B3.out HK.out
  clear e2 k2 q2 e3 k3 q3 e4 k4 q4 e5 k5 q5
  by_cases h65 : n = 65535
  · have d1 : ((n : Int) == 65535) = true := by simp; omega
    have d2 : decide ((n : Int) = 65535) = true := by simp; omega
    have H65 := Lib.hid h65
    clear h65
    go_wp2_with (first | (refine wpList_zeroG zeC rfl rfl ?_) | (refine wpList_zeroG zeA rfl rfl ?_) | (refine wpList_storeG agC rfl _ _ rfl g4 rfl rfl B4.out (rv_length z32_length) (rv_length z32_length) (rv_one _ _) ?_) | fail)
    intro w5 k5 q5 z5
    have B5b := Lib.hid (B5.out.grown q5.out (by have := NE.out; simp; omega))
    go_wp2_with (first | (refine wpList_storeG agA rfl _ _ rfl g5 rfl rfl B5b.out (by rw [u8s_length, z32_length]) (by rw [u8s_length, z32_length]) (u8s_one _) ?_) | fail)
    intro w6 k6 q6 z6
    go_wp2_with fail
    refine bodyPost_ret (res_ccs rfl agC agA rfl rfl rfl (k5.out.grown q6.out (by have := NE.out; simp; omega)) k6.out (rv_length z32_length) (by rw [u8s_length, z32_length])) rfl (.inl ⟨H65.out, rfl, ?_⟩)
    exact World.grownBy.andThen (World.grownBy.andThen G4.out q5.out (by rintro _ ⟨⟩; exact .inl (by have := NE.out; omega))) q6.out (by rintro _ ⟨⟩; exact .inl (by have := NE.out; omega))
  · have d1 : ((n : Int) == 65535) = false := by simp; omega
    have d2 : decide ((n : Int) = 65535) = false := by simp; omega
    have H65 : Hid (n < 65535) := by show n < 65535; omega
    clear h65
    go_wp2_with fail
    have NG2 := Lib.hid (NOK.out g2 (by have := NE.out; omega))
    have NG3 := Lib.hid (NOK.out g3 (by have := NE.out; omega))
    have NOK4 : ∀ g, w4.heap.size ≤ g → ¬ ok g := fun g hg => NOK.out g (Nat.le_trans G4.out.size hg)
    clear hc
    apply cutN2 (F := fun w' g7 _ => ∃ okX, Rrg w4 w' ok okX p σ1 ∧ ¬ okX g7 ∧ C.Blk w' g7 22 (u8s a) ∧ w4.heap.size ≤ g7)
    · intro hrest_
      refine wp_region_held_drew (S := fun W => W.rangeAt g2 0 [pv]) (by kernel_rfl) (range_of B2.out) (fun hHeld => ?_)
      have R0 := Rrg.start S4.out
      obtain ⟨v0, hv0⟩ : ∃ v, v = w4.drew := ⟨_, rfl⟩
      rw [← hv0] at hHeld R0 ⊢
      clear hv0
      refine' wpAnyH_take (i := 0) (oi := { dst := some 17, op := Op.load 35 (Operand.tmp 2), type := 35, pos := "ref.go:21", after := #[], guard := none }) (v := .agg [pv].toArray) rfl (by kernel_rfl) (by kernel_rfl) (by kernel_rfl) (fun _ _ _ h => h) (yieldsIf_loadR agR (by rfl) (.tmp 2) rfl g2 0 rfl rfl (fun _ h => h)) (by assumption) ?qz1
      try simp only [Act.put, List.setIfInBounds_toArray, List.set_cons_zero, List.set_cons_succ]
      refine' wpAnyH_take (i := 1) (oi := { dst := some 18, op := Op.fieldAddr 40 (Operand.tmp 3) 0, type := 0, pos := "ref.go:21", after := #[], guard := none }) (v := .pointer (some ⟨g3, 0, none⟩)) rfl (by kernel_rfl) (by kernel_rfl) (by kernel_rfl) (fun _ _ _ h => h) (Or.inl ⟨by rfl, fun w' hSw => by go_simp⟩) (by assumption) ?qz2
      try simp only [Act.put, List.setIfInBounds_toArray, List.set_cons_zero, List.set_cons_succ]
      refine' wpAnyH_take (i := 2) (oi := { dst := some 19, op := Op.slice 24 (Operand.tmp 18) none none none, type := 66, pos := "ref.go:21", after := #[{ on := 1, ground := Ground.data }], guard := none }) (v := .slice (some ⟨g3, 0, none⟩) 32 32) rfl (by kernel_rfl) (by kernel_rfl) (by kernel_rfl) (fun _ _ _ h => h) (Or.inl ⟨by rfl, fun w' hSw => by go_simp⟩) (by assumption) ?qz3
      try simp only [Act.put, List.setIfInBounds_toArray, List.set_cons_zero, List.set_cons_succ]
      refine wpAnyH_ready (rs := [3, 8]) (by kernel_rfl) (by simp) ?_
      refine AllReadyH.cons (o := { dst := some 20, op := Op.buildSlice 75 1 #[(0, Operand.tmp 19)], type := 75, pos := "ref.go:21", after := #[{ on := 2, ground := Ground.data }], guard := none }) rfl (fun K hK => ?_) (AllReadyH.cons (o := { dst := some 7, op := Op.alloc 22, type := 0, pos := "ref.go:21", after := #[], guard := none }) rfl (fun K hK => ?_) AllReadyH.nil)
      · rw [if_pos (by rfl)]
        go_simp
        have qz5 := World.grownBy_alloc v0 (.cells #[.slice (some ⟨g3, 0, none⟩) 32 32] 66) none
        obtain ⟨vz4, hvz6⟩ : ∃ w', v0.alloc (.cells #[.slice (some ⟨g3, 0, none⟩) 32 32] 66) = w' := ⟨_, rfl⟩
        obtain ⟨gl, hgl⟩ : ∃ g, g = v0.heap.size := ⟨_, rfl⟩
        have lz7 := lst_one HK.out (byt_of (Rrg.blk R0 B3.out NG3.out)) (Rrg.blk R0 B3.out NG3.out).lt hvz6 hgl
        rw [hvz6] at qz5 ⊢
        rw [← hgl]
        have nlz8 : ¬ ok gl := NOK4 gl (by rw [hgl]; exact R0.md.size)
        have Rz9 := R0.alloc qz5
        have hll : gl < vz4.heap.size := by rw [← hvz6, World.size_alloc, hgl]; exact Nat.lt_succ_self _
        clear hgl hvz6
        refine hK.out _ _ (range_of (Rrg.blk Rz9 B2.out NG2.out)) (fun hHeld => ?_)
        clear hK K
        try simp only [Act.put, List.setIfInBounds_toArray, List.set_cons_zero, List.set_cons_succ]
        refine wpAnyH_ready (rs := [4, 8]) (by kernel_rfl) (by simp) ?_
        refine AllReadyH.cons (o := { dst := some 21, op := Op.call { callee := Callee.value (Operand.func 26), args := #[Operand.tmp 17, Operand.const (Value.int IntKind.u8 77), Operand.tmp 20], argTypes := #[35, 5, 75] }, type := 68, pos := "ref.go:21", after := #[{ on := 0, ground := Ground.data }, { on := 3, ground := Ground.data }], guard := none }) rfl (fun K hK => ?_) (AllReadyH.cons (o := { dst := some 7, op := Op.alloc 22, type := 0, pos := "ref.go:21", after := #[], guard := none }) rfl (fun K hK => ?_) AllReadyH.nil)
        · rw [if_pos (by rfl)]
          go_simp
          have hcz12 : Calls Tryd.prog 26 #[.agg #[pv], .int .u8 77, .slice (some ⟨gl, 0, none⟩) 1 1] vz4 fun e w' => e = .returned (.tuple #[.agg (u8s a).toArray, .bool true]) ∧ Rx vz4 ok p σ1 w' := by
            have hd : ∀ b, (b = g3 ∨ b = gl) → b < vz4.heap.size ∧ ¬ ok b := (fun b hb => hb.elim (fun e => by rw [e]; exact ⟨(Rrg.blk Rz9 B3.out NG3.out).lt, NG3.out⟩) (fun e => by rw [e]; exact ⟨hll, nlz8⟩))
            have h := rmix_any (c := 1) 77 Rz9.sui HR.out lz7 (fun b hb => (hd b hb).1) rfl (mixOk_one HK.out)
            rw [HTAB.out] at h
            refine h.mono fun e w' ⟨he, hn⟩ => ⟨?_, by rw [H1.out]; exact hn⟩
            rw [HA.out]
            exact he
          with_reducible refine hcz12.mono ?_
          rintro _ vz10 ⟨rfl, nxz11⟩
          have Rz13 := Rz9.call nxz11
          refine hK.out _ _ (range_of (Rrg.blk Rz13 B2.out NG2.out)) (fun hHeld => ?_)
          clear hK K
          try simp only [Act.put, List.setIfInBounds_toArray, List.set_cons_zero, List.set_cons_succ]
          refine' wpAnyH_take (i := 5) (oi := { dst := some 16, op := Op.move (Operand.tmp 21), type := 68, pos := "ref.go:21", after := #[{ on := 4, ground := Ground.data }], guard := none }) (v := .tuple #[.agg (u8s a).toArray, .bool true]) rfl (by kernel_rfl) (by kernel_rfl) (by kernel_rfl) (fun _ _ _ h => h) (Or.inl ⟨by rfl, fun _ _ => rfl⟩) (by assumption) ?qz14
          try simp only [Act.put, List.setIfInBounds_toArray, List.set_cons_zero, List.set_cons_succ]
          refine' wpAnyH_take (i := 6) (oi := { dst := some 22, op := Op.extract (Operand.tmp 16) 0, type := 22, pos := "ref.go:21", after := #[{ on := 5, ground := Ground.data }], guard := none }) (v := .agg (u8s a).toArray) rfl (by kernel_rfl) (by kernel_rfl) (by kernel_rfl) (fun _ _ _ h => h) (Or.inl ⟨by rfl, fun _ _ => rfl⟩) (by assumption) ?qz15
          try simp only [Act.put, List.setIfInBounds_toArray, List.set_cons_zero, List.set_cons_succ]
          refine' wpAnyH_take (i := 7) (oi := { dst := some 23, op := Op.extract (Operand.tmp 16) 1, type := 4, pos := "ref.go:21", after := #[{ on := 5, ground := Ground.data }, { on := 9, ground := Ground.gcOnly Departure.lateStores }], guard := none }) (v := .bool true) rfl (by kernel_rfl) (by kernel_rfl) (by kernel_rfl) (fun _ _ _ h => h) (Or.inl ⟨by rfl, fun _ _ => rfl⟩) (by assumption) ?qz16
          try simp only [Act.put, List.setIfInBounds_toArray, List.set_cons_zero, List.set_cons_succ]
          refine wpAnyH_ready (rs := [8]) (by kernel_rfl) (by simp) ?_
          refine AllReadyH.cons (o := { dst := some 7, op := Op.alloc 22, type := 0, pos := "ref.go:21", after := #[], guard := none }) rfl (fun K hK => ?_) AllReadyH.nil
          rw [if_pos (by rfl)]
          refine wp_allocG zeA rfl (fun g7 vz17 ez18 kz19 qz20 => ?_)
          have nz22 : ¬ (More ok vz4 vz10) g7 := Rz13.not_new (Nat.le_of_eq ez18.out.symm)
          have Rz21 := Rz13.alloc qz20.out
          have nz22w : w4.heap.size ≤ g7 := by rw [ez18.out]; exact Rz13.md.size
          refine hK.out _ _ (range_of (Rrg.blk Rz21 B2.out NG2.out)) (fun hHeld => ?_)
          clear hK K
          try simp only [Act.put, List.setIfInBounds_toArray, List.set_cons_zero, List.set_cons_succ]
          refine wpAnyH_ready (rs := [9]) (by kernel_rfl) (by simp) ?_
          refine AllReadyH.cons (o := { dst := none, op := Op.store 22 (Operand.tmp 7) (Operand.tmp 22), type := 0, pos := "ref.go:21", after := #[{ on := 8, ground := Ground.data }, { on := 6, ground := Ground.data }, { on := 4, ground := Ground.chain }, { on := 0, ground := Ground.phase }, { on := 1, ground := Ground.phase }, { on := 2, ground := Ground.phase }, { on := 3, ground := Ground.phase }, { on := 4, ground := Ground.phase }, { on := 5, ground := Ground.phase }, { on := 6, ground := Ground.phase }, { on := 7, ground := Ground.textOnly Departure.lateStores }, { on := 8, ground := Ground.phase }], guard := none }) rfl (fun K hK => ?_) AllReadyH.nil
          rw [if_pos (by rfl)]
          refine wp_storeG agA _ _ rfl g7 rfl rfl (kz19.out) (by rw [u8s_length, z32_length]) (by rw [u8s_length, HAL.out]) (u8s_one _) (fun vz23 kz24 qz25 zz26 => ?_)
          have Rz27 := Rz21.store qz25.out nz22 nz22w
          refine hK.out _ _ (range_of (Rrg.blk Rz27 B2.out NG2.out)) (fun hHeld => ?_)
          clear hK K
          dsimp only [Act.put]
          refine wpAnyH_ready (rs := [10]) (by kernel_rfl) (by simp) ?_
          refine AllReadyH.cons (o := { dst := some 8, op := Op.assign (Operand.tmp 23), type := 4, pos := "ref.go:21", after := #[{ on := 7, ground := Ground.data }, { on := 9, ground := Ground.chain }, { on := 0, ground := Ground.phase }, { on := 1, ground := Ground.phase }, { on := 2, ground := Ground.phase }, { on := 3, ground := Ground.phase }, { on := 4, ground := Ground.phase }, { on := 5, ground := Ground.phase }, { on := 6, ground := Ground.phase }, { on := 7, ground := Ground.phase }, { on := 8, ground := Ground.phase }, { on := 9, ground := Ground.phase }], guard := none }) rfl (fun K hK => ?_) AllReadyH.nil
          rw [if_pos (by rfl)]
          go_simp
          refine hK.out _ _ hHeld (fun hHeld => ?_)
          clear hK K
          try simp only [Act.put, List.setIfInBounds_toArray, List.set_cons_zero, List.set_cons_succ]
          refine wpAnyH_done (by kernel_rfl) ?_ _
          exact hrest_ _ g7 gl ⟨_, Rz27, nz22, kz24.out, nz22w⟩
        · rw [if_pos (by rfl)]
          refine wp_allocG zeA rfl (fun g7 vz28 ez29 kz30 qz31 => ?_)
          have nz33 : ¬ ok g7 := Rz9.not_new (Nat.le_of_eq ez29.out.symm)
          have Rz32 := Rz9.alloc qz31.out
          have nz33w : w4.heap.size ≤ g7 := by rw [ez29.out]; exact Rz9.md.size
          have dz36 : ∀ b, (b = g3 ∨ b = gl) → b < vz4.heap.size ∧ ¬ ok b := (fun b hb => hb.elim (fun e => by rw [e]; exact ⟨(Rrg.blk Rz9 B3.out NG3.out).lt, NG3.out⟩) (fun e => by rw [e]; exact ⟨hll, nlz8⟩))
          have lz34 := lz7.keep fun b hb => qz31.out.block b (dz36 b hb).1 (by simp)
          have hllz35 := Nat.lt_of_lt_of_le hll qz31.out.size
          refine hK.out _ _ (range_of (Rrg.blk Rz32 B2.out NG2.out)) (fun hHeld => ?_)
          clear hK K
          try simp only [Act.put, List.setIfInBounds_toArray, List.set_cons_zero, List.set_cons_succ]
          refine wpAnyH_ready (rs := [4]) (by kernel_rfl) (by simp) ?_
          refine AllReadyH.cons (o := { dst := some 21, op := Op.call { callee := Callee.value (Operand.func 26), args := #[Operand.tmp 17, Operand.const (Value.int IntKind.u8 77), Operand.tmp 20], argTypes := #[35, 5, 75] }, type := 68, pos := "ref.go:21", after := #[{ on := 0, ground := Ground.data }, { on := 3, ground := Ground.data }], guard := none }) rfl (fun K hK => ?_) AllReadyH.nil
          rw [if_pos (by rfl)]
          go_simp
          have hcz39 : Calls Tryd.prog 26 #[.agg #[pv], .int .u8 77, .slice (some ⟨gl, 0, none⟩) 1 1] vz28 fun e w' => e = .returned (.tuple #[.agg (u8s a).toArray, .bool true]) ∧ Rx vz28 ok p σ1 w' := by
            have hd : ∀ b, (b = g3 ∨ b = gl) → b < vz28.heap.size ∧ ¬ ok b := (fun b hb => hb.elim (fun e => by rw [e]; exact ⟨(Rrg.blk Rz32 B3.out NG3.out).lt, NG3.out⟩) (fun e => by rw [e]; exact ⟨hllz35, nlz8⟩))
            have h := rmix_any (c := 1) 77 Rz32.sui HR.out lz34 (fun b hb => (hd b hb).1) rfl (mixOk_one HK.out)
            rw [HTAB.out] at h
            refine h.mono fun e w' ⟨he, hn⟩ => ⟨?_, by rw [H1.out]; exact hn⟩
            rw [HA.out]
            exact he
          with_reducible refine hcz39.mono ?_
          rintro _ vz37 ⟨rfl, nxz38⟩
          have Rz40 := Rz32.call nxz38
          have nz41 : ¬ More ok vz28 vz37 g7 := More.not nz33 (kz30.out).lt
          have nz41b := (Rx.blk nxz38 (kz30.out) nz33)
          refine hK.out _ _ (range_of (Rrg.blk Rz40 B2.out NG2.out)) (fun hHeld => ?_)
          clear hK K
          try simp only [Act.put, List.setIfInBounds_toArray, List.set_cons_zero, List.set_cons_succ]
          refine' wpAnyH_take (i := 5) (oi := { dst := some 16, op := Op.move (Operand.tmp 21), type := 68, pos := "ref.go:21", after := #[{ on := 4, ground := Ground.data }], guard := none }) (v := .tuple #[.agg (u8s a).toArray, .bool true]) rfl (by kernel_rfl) (by kernel_rfl) (by kernel_rfl) (fun _ _ _ h => h) (Or.inl ⟨by rfl, fun _ _ => rfl⟩) (by assumption) ?qz42
          try simp only [Act.put, List.setIfInBounds_toArray, List.set_cons_zero, List.set_cons_succ]
          refine' wpAnyH_take (i := 6) (oi := { dst := some 22, op := Op.extract (Operand.tmp 16) 0, type := 22, pos := "ref.go:21", after := #[{ on := 5, ground := Ground.data }], guard := none }) (v := .agg (u8s a).toArray) rfl (by kernel_rfl) (by kernel_rfl) (by kernel_rfl) (fun _ _ _ h => h) (Or.inl ⟨by rfl, fun _ _ => rfl⟩) (by assumption) ?qz43
          try simp only [Act.put, List.setIfInBounds_toArray, List.set_cons_zero, List.set_cons_succ]
          refine' wpAnyH_take (i := 7) (oi := { dst := some 23, op := Op.extract (Operand.tmp 16) 1, type := 4, pos := "ref.go:21", after := #[{ on := 5, ground := Ground.data }, { on := 9, ground := Ground.gcOnly Departure.lateStores }], guard := none }) (v := .bool true) rfl (by kernel_rfl) (by kernel_rfl) (by kernel_rfl) (fun _ _ _ h => h) (Or.inl ⟨by rfl, fun _ _ => rfl⟩) (by assumption) ?qz44
          try simp only [Act.put, List.setIfInBounds_toArray, List.set_cons_zero, List.set_cons_succ]
          refine wpAnyH_ready (rs := [9]) (by kernel_rfl) (by simp) ?_
          refine AllReadyH.cons (o := { dst := none, op := Op.store 22 (Operand.tmp 7) (Operand.tmp 22), type := 0, pos := "ref.go:21", after := #[{ on := 8, ground := Ground.data }, { on := 6, ground := Ground.data }, { on := 4, ground := Ground.chain }, { on := 0, ground := Ground.phase }, { on := 1, ground := Ground.phase }, { on := 2, ground := Ground.phase }, { on := 3, ground := Ground.phase }, { on := 4, ground := Ground.phase }, { on := 5, ground := Ground.phase }, { on := 6, ground := Ground.phase }, { on := 7, ground := Ground.textOnly Departure.lateStores }, { on := 8, ground := Ground.phase }], guard := none }) rfl (fun K hK => ?_) AllReadyH.nil
          rw [if_pos (by rfl)]
          refine wp_storeG agA _ _ rfl g7 rfl rfl (nz41b) (by rw [u8s_length, z32_length]) (by rw [u8s_length, HAL.out]) (u8s_one _) (fun vz45 kz46 qz47 zz48 => ?_)
          have Rz49 := Rz40.store qz47.out nz41 nz33w
          refine hK.out _ _ (range_of (Rrg.blk Rz49 B2.out NG2.out)) (fun hHeld => ?_)
          clear hK K
          dsimp only [Act.put]
          refine wpAnyH_ready (rs := [10]) (by kernel_rfl) (by simp) ?_
          refine AllReadyH.cons (o := { dst := some 8, op := Op.assign (Operand.tmp 23), type := 4, pos := "ref.go:21", after := #[{ on := 7, ground := Ground.data }, { on := 9, ground := Ground.chain }, { on := 0, ground := Ground.phase }, { on := 1, ground := Ground.phase }, { on := 2, ground := Ground.phase }, { on := 3, ground := Ground.phase }, { on := 4, ground := Ground.phase }, { on := 5, ground := Ground.phase }, { on := 6, ground := Ground.phase }, { on := 7, ground := Ground.phase }, { on := 8, ground := Ground.phase }, { on := 9, ground := Ground.phase }], guard := none }) rfl (fun K hK => ?_) AllReadyH.nil
          rw [if_pos (by rfl)]
          go_simp
          refine hK.out _ _ hHeld (fun hHeld => ?_)
          clear hK K
          try simp only [Act.put, List.setIfInBounds_toArray, List.set_cons_zero, List.set_cons_succ]
          refine wpAnyH_done (by kernel_rfl) ?_ _
          exact hrest_ _ g7 gl ⟨_, Rz49, nz41, kz46.out, nz33w⟩
      · rw [if_pos (by rfl)]
        refine wp_allocG zeA rfl (fun g7 vz50 ez51 kz52 qz53 => ?_)
        have nz55 : ¬ ok g7 := R0.not_new (Nat.le_of_eq ez51.out.symm)
        have Rz54 := R0.alloc qz53.out
        have nz55w : w4.heap.size ≤ g7 := by rw [ez51.out]; exact R0.md.size
        refine hK.out _ _ (range_of (Rrg.blk Rz54 B2.out NG2.out)) (fun hHeld => ?_)
        clear hK K
        try simp only [Act.put, List.setIfInBounds_toArray, List.set_cons_zero, List.set_cons_succ]
        refine wpAnyH_ready (rs := [3]) (by kernel_rfl) (by simp) ?_
        refine AllReadyH.cons (o := { dst := some 20, op := Op.buildSlice 75 1 #[(0, Operand.tmp 19)], type := 75, pos := "ref.go:21", after := #[{ on := 2, ground := Ground.data }], guard := none }) rfl (fun K hK => ?_) AllReadyH.nil
        rw [if_pos (by rfl)]
        go_simp
        have qz57 := World.grownBy_alloc vz50 (.cells #[.slice (some ⟨g3, 0, none⟩) 32 32] 66) none
        obtain ⟨vz56, hvz58⟩ : ∃ w', vz50.alloc (.cells #[.slice (some ⟨g3, 0, none⟩) 32 32] 66) = w' := ⟨_, rfl⟩
        obtain ⟨gl, hgl⟩ : ∃ g, g = vz50.heap.size := ⟨_, rfl⟩
        have lz59 := lst_one HK.out (byt_of (Rrg.blk Rz54 B3.out NG3.out)) (Rrg.blk Rz54 B3.out NG3.out).lt hvz58 hgl
        rw [hvz58] at qz57 ⊢
        rw [← hgl]
        have nlz60 : ¬ ok gl := NOK4 gl (by rw [hgl]; exact Rz54.md.size)
        have Rz61 := Rz54.alloc qz57
        have hll : gl < vz56.heap.size := by rw [← hvz58, World.size_alloc, hgl]; exact Nat.lt_succ_self _
        clear hgl hvz58
        refine hK.out _ _ (range_of (Rrg.blk Rz61 B2.out NG2.out)) (fun hHeld => ?_)
        clear hK K
        try simp only [Act.put, List.setIfInBounds_toArray, List.set_cons_zero, List.set_cons_succ]
        refine wpAnyH_ready (rs := [4]) (by kernel_rfl) (by simp) ?_
        refine AllReadyH.cons (o := { dst := some 21, op := Op.call { callee := Callee.value (Operand.func 26), args := #[Operand.tmp 17, Operand.const (Value.int IntKind.u8 77), Operand.tmp 20], argTypes := #[35, 5, 75] }, type := 68, pos := "ref.go:21", after := #[{ on := 0, ground := Ground.data }, { on := 3, ground := Ground.data }], guard := none }) rfl (fun K hK => ?_) AllReadyH.nil
        rw [if_pos (by rfl)]
        go_simp
        have hcz64 : Calls Tryd.prog 26 #[.agg #[pv], .int .u8 77, .slice (some ⟨gl, 0, none⟩) 1 1] vz56 fun e w' => e = .returned (.tuple #[.agg (u8s a).toArray, .bool true]) ∧ Rx vz56 ok p σ1 w' := by
          have hd : ∀ b, (b = g3 ∨ b = gl) → b < vz56.heap.size ∧ ¬ ok b := (fun b hb => hb.elim (fun e => by rw [e]; exact ⟨(Rrg.blk Rz61 B3.out NG3.out).lt, NG3.out⟩) (fun e => by rw [e]; exact ⟨hll, nlz60⟩))
          have h := rmix_any (c := 1) 77 Rz61.sui HR.out lz59 (fun b hb => (hd b hb).1) rfl (mixOk_one HK.out)
          rw [HTAB.out] at h
          refine h.mono fun e w' ⟨he, hn⟩ => ⟨?_, by rw [H1.out]; exact hn⟩
          rw [HA.out]
          exact he
        with_reducible refine hcz64.mono ?_
        rintro _ vz62 ⟨rfl, nxz63⟩
        have Rz65 := Rz61.call nxz63
        have nz66 : ¬ More ok vz56 vz62 g7 := More.not nz55 ((kz52.out.grown qz57 (by simp))).lt
        have nz66b := (Rx.blk nxz63 ((kz52.out.grown qz57 (by simp))) nz55)
        refine hK.out _ _ (range_of (Rrg.blk Rz65 B2.out NG2.out)) (fun hHeld => ?_)
        clear hK K
        try simp only [Act.put, List.setIfInBounds_toArray, List.set_cons_zero, List.set_cons_succ]
        refine' wpAnyH_take (i := 5) (oi := { dst := some 16, op := Op.move (Operand.tmp 21), type := 68, pos := "ref.go:21", after := #[{ on := 4, ground := Ground.data }], guard := none }) (v := .tuple #[.agg (u8s a).toArray, .bool true]) rfl (by kernel_rfl) (by kernel_rfl) (by kernel_rfl) (fun _ _ _ h => h) (Or.inl ⟨by rfl, fun _ _ => rfl⟩) (by assumption) ?qz67
        try simp only [Act.put, List.setIfInBounds_toArray, List.set_cons_zero, List.set_cons_succ]
        refine' wpAnyH_take (i := 6) (oi := { dst := some 22, op := Op.extract (Operand.tmp 16) 0, type := 22, pos := "ref.go:21", after := #[{ on := 5, ground := Ground.data }], guard := none }) (v := .agg (u8s a).toArray) rfl (by kernel_rfl) (by kernel_rfl) (by kernel_rfl) (fun _ _ _ h => h) (Or.inl ⟨by rfl, fun _ _ => rfl⟩) (by assumption) ?qz68
        try simp only [Act.put, List.setIfInBounds_toArray, List.set_cons_zero, List.set_cons_succ]
        refine' wpAnyH_take (i := 7) (oi := { dst := some 23, op := Op.extract (Operand.tmp 16) 1, type := 4, pos := "ref.go:21", after := #[{ on := 5, ground := Ground.data }, { on := 9, ground := Ground.gcOnly Departure.lateStores }], guard := none }) (v := .bool true) rfl (by kernel_rfl) (by kernel_rfl) (by kernel_rfl) (fun _ _ _ h => h) (Or.inl ⟨by rfl, fun _ _ => rfl⟩) (by assumption) ?qz69
        try simp only [Act.put, List.setIfInBounds_toArray, List.set_cons_zero, List.set_cons_succ]
        refine wpAnyH_ready (rs := [9]) (by kernel_rfl) (by simp) ?_
        refine AllReadyH.cons (o := { dst := none, op := Op.store 22 (Operand.tmp 7) (Operand.tmp 22), type := 0, pos := "ref.go:21", after := #[{ on := 8, ground := Ground.data }, { on := 6, ground := Ground.data }, { on := 4, ground := Ground.chain }, { on := 0, ground := Ground.phase }, { on := 1, ground := Ground.phase }, { on := 2, ground := Ground.phase }, { on := 3, ground := Ground.phase }, { on := 4, ground := Ground.phase }, { on := 5, ground := Ground.phase }, { on := 6, ground := Ground.phase }, { on := 7, ground := Ground.textOnly Departure.lateStores }, { on := 8, ground := Ground.phase }], guard := none }) rfl (fun K hK => ?_) AllReadyH.nil
        rw [if_pos (by rfl)]
        refine wp_storeG agA _ _ rfl g7 rfl rfl (nz66b) (by rw [u8s_length, z32_length]) (by rw [u8s_length, HAL.out]) (u8s_one _) (fun vz70 kz71 qz72 zz73 => ?_)
        have Rz74 := Rz65.store qz72.out nz66 nz55w
        refine hK.out _ _ (range_of (Rrg.blk Rz74 B2.out NG2.out)) (fun hHeld => ?_)
        clear hK K
        dsimp only [Act.put]
        refine wpAnyH_ready (rs := [10]) (by kernel_rfl) (by simp) ?_
        refine AllReadyH.cons (o := { dst := some 8, op := Op.assign (Operand.tmp 23), type := 4, pos := "ref.go:21", after := #[{ on := 7, ground := Ground.data }, { on := 9, ground := Ground.chain }, { on := 0, ground := Ground.phase }, { on := 1, ground := Ground.phase }, { on := 2, ground := Ground.phase }, { on := 3, ground := Ground.phase }, { on := 4, ground := Ground.phase }, { on := 5, ground := Ground.phase }, { on := 6, ground := Ground.phase }, { on := 7, ground := Ground.phase }, { on := 8, ground := Ground.phase }, { on := 9, ground := Ground.phase }], guard := none }) rfl (fun K hK => ?_) AllReadyH.nil
        rw [if_pos (by rfl)]
        go_simp
        refine hK.out _ _ hHeld (fun hHeld => ?_)
        clear hK K
        try simp only [Act.put, List.setIfInBounds_toArray, List.set_cons_zero, List.set_cons_succ]
        refine wpAnyH_done (by kernel_rfl) ?_ _
        exact hrest_ _ g7 gl ⟨_, Rz74, nz66, kz71.out, nz55w⟩
    · intro w5 g7 gl ⟨okX, r5, n7, b7, w7⟩
      have R5 := Lib.hid r5
      have N7 := Lib.hid n7
      have B7 := Lib.hid b7
      have W7 := Lib.hid w7
      have B2b := Lib.hid (r5.blk B2.out NG2.out)
      have B3b := Lib.hid (r5.blk B3.out NG3.out)
      have NG2b := Lib.hid (r5.not_old B2.out.lt NG2.out)
      have NG3b := Lib.hid (r5.not_old B3.out.lt NG3.out)
      have NOK5 : ∀ g, w5.heap.size ≤ g → ¬ okX g := fun g hg => r5.not_new hg
      have S5 := Lib.hid r5.sui
      clear r5 n7 b7 w7
      go_wp2_with fail
      apply cutN2 (F := fun w' g9 _ => ∃ okY, Rrg w5 w' okX okY p σ2 ∧ ¬ okY g9 ∧ C.Blk w' g9 22 (u8s b) ∧ w5.heap.size ≤ g9)
      · intro hrest2_
        refine wp_region_held_drew (S := fun W => W.rangeAt g2 0 [pv]) (by kernel_rfl) (range_of B2b.out) (fun hHeld => ?_)
        have R0 := Rrg.start S5.out
        obtain ⟨v0, hv0⟩ : ∃ v, v = w5.drew := ⟨_, rfl⟩
        rw [← hv0] at hHeld R0 ⊢
        clear hv0
        refine' wpAnyH_take (i := 0) (oi := { dst := some 25, op := Op.load 35 (Operand.tmp 2), type := 35, pos := "ref.go:22", after := #[], guard := none }) (v := .agg [pv].toArray) rfl (by kernel_rfl) (by kernel_rfl) (by kernel_rfl) (fun _ _ _ h => h) (yieldsIf_loadR agR (by rfl) (.tmp 2) rfl g2 0 rfl rfl (fun _ h => h)) (by assumption) ?qz2001
        try simp only [Act.put, List.setIfInBounds_toArray, List.set_cons_zero, List.set_cons_succ]
        refine' wpAnyH_take (i := 1) (oi := { dst := some 26, op := Op.fieldAddr 40 (Operand.tmp 3) 0, type := 0, pos := "ref.go:22", after := #[], guard := none }) (v := .pointer (some ⟨g3, 0, none⟩)) rfl (by kernel_rfl) (by kernel_rfl) (by kernel_rfl) (fun _ _ _ h => h) (Or.inl ⟨by rfl, fun w' hSw => by go_simp⟩) (by assumption) ?qz2002
        try simp only [Act.put, List.setIfInBounds_toArray, List.set_cons_zero, List.set_cons_succ]
        refine' wpAnyH_take (i := 2) (oi := { dst := some 27, op := Op.slice 24 (Operand.tmp 26) none none none, type := 66, pos := "ref.go:22", after := #[{ on := 1, ground := Ground.data }], guard := none }) (v := .slice (some ⟨g3, 0, none⟩) 32 32) rfl (by kernel_rfl) (by kernel_rfl) (by kernel_rfl) (fun _ _ _ h => h) (Or.inl ⟨by rfl, fun w' hSw => by go_simp⟩) (by assumption) ?qz2003
        try simp only [Act.put, List.setIfInBounds_toArray, List.set_cons_zero, List.set_cons_succ]
        refine wpAnyH_ready (rs := [3, 8]) (by kernel_rfl) (by simp) ?_
        refine AllReadyH.cons (o := { dst := some 28, op := Op.buildSlice 75 1 #[(0, Operand.tmp 27)], type := 75, pos := "ref.go:22", after := #[{ on := 2, ground := Ground.data }], guard := none }) rfl (fun K hK => ?_) (AllReadyH.cons (o := { dst := some 9, op := Op.alloc 22, type := 0, pos := "ref.go:22", after := #[], guard := none }) rfl (fun K hK => ?_) AllReadyH.nil)
        · rw [if_pos (by rfl)]
          go_simp
          have qz2005 := World.grownBy_alloc v0 (.cells #[.slice (some ⟨g3, 0, none⟩) 32 32] 66) none
          obtain ⟨vz2004, hvz2006⟩ : ∃ w', v0.alloc (.cells #[.slice (some ⟨g3, 0, none⟩) 32 32] 66) = w' := ⟨_, rfl⟩
          obtain ⟨gl, hgl⟩ : ∃ g, g = v0.heap.size := ⟨_, rfl⟩
          have lz2007 := lst_one HK.out (byt_of (Rrg.blk R0 B3b.out NG3b.out)) (Rrg.blk R0 B3b.out NG3b.out).lt hvz2006 hgl
          rw [hvz2006] at qz2005 ⊢
          rw [← hgl]
          have nlz2008 : ¬ okX gl := NOK5 gl (by rw [hgl]; exact R0.md.size)
          have Rz2009 := R0.alloc qz2005
          have hll : gl < vz2004.heap.size := by rw [← hvz2006, World.size_alloc, hgl]; exact Nat.lt_succ_self _
          clear hgl hvz2006
          refine hK.out _ _ (range_of (Rrg.blk Rz2009 B2b.out NG2b.out)) (fun hHeld => ?_)
          clear hK K
          try simp only [Act.put, List.setIfInBounds_toArray, List.set_cons_zero, List.set_cons_succ]
          refine wpAnyH_ready (rs := [4, 8]) (by kernel_rfl) (by simp) ?_
          refine AllReadyH.cons (o := { dst := some 29, op := Op.call { callee := Callee.value (Operand.func 26), args := #[Operand.tmp 25, Operand.const (Value.int IntKind.u8 78), Operand.tmp 28], argTypes := #[35, 5, 75] }, type := 68, pos := "ref.go:22", after := #[{ on := 0, ground := Ground.data }, { on := 3, ground := Ground.data }], guard := none }) rfl (fun K hK => ?_) (AllReadyH.cons (o := { dst := some 9, op := Op.alloc 22, type := 0, pos := "ref.go:22", after := #[], guard := none }) rfl (fun K hK => ?_) AllReadyH.nil)
          · rw [if_pos (by rfl)]
            go_simp
            have hcz2012 : Calls Tryd.prog 26 #[.agg #[pv], .int .u8 78, .slice (some ⟨gl, 0, none⟩) 1 1] vz2004 fun e w' => e = .returned (.tuple #[.agg (u8s b).toArray, .bool true]) ∧ Rx vz2004 okX p σ2 w' := by
              have hd : ∀ b, (b = g3 ∨ b = gl) → b < vz2004.heap.size ∧ ¬ okX b := (fun b hb => hb.elim (fun e => by rw [e]; exact ⟨(Rrg.blk Rz2009 B3b.out NG3b.out).lt, NG3b.out⟩) (fun e => by rw [e]; exact ⟨hll, nlz2008⟩))
              have h := rmix_any (c := 1) 78 Rz2009.sui HR1.out lz2007 (fun b hb => (hd b hb).1) rfl (mixOk_one HK.out)
              rw [HTAB.out] at h
              refine h.mono fun e w' ⟨he, hn⟩ => ⟨?_, by rw [H2.out]; exact hn⟩
              rw [HB.out]
              exact he
            with_reducible refine hcz2012.mono ?_
            rintro _ vz2010 ⟨rfl, nxz2011⟩
            have Rz2013 := Rz2009.call nxz2011
            refine hK.out _ _ (range_of (Rrg.blk Rz2013 B2b.out NG2b.out)) (fun hHeld => ?_)
            clear hK K
            try simp only [Act.put, List.setIfInBounds_toArray, List.set_cons_zero, List.set_cons_succ]
            refine' wpAnyH_take (i := 5) (oi := { dst := some 24, op := Op.move (Operand.tmp 29), type := 68, pos := "ref.go:22", after := #[{ on := 4, ground := Ground.data }], guard := none }) (v := .tuple #[.agg (u8s b).toArray, .bool true]) rfl (by kernel_rfl) (by kernel_rfl) (by kernel_rfl) (fun _ _ _ h => h) (Or.inl ⟨by rfl, fun _ _ => rfl⟩) (by assumption) ?qz2014
            try simp only [Act.put, List.setIfInBounds_toArray, List.set_cons_zero, List.set_cons_succ]
            refine' wpAnyH_take (i := 6) (oi := { dst := some 30, op := Op.extract (Operand.tmp 24) 0, type := 22, pos := "ref.go:22", after := #[{ on := 5, ground := Ground.data }], guard := none }) (v := .agg (u8s b).toArray) rfl (by kernel_rfl) (by kernel_rfl) (by kernel_rfl) (fun _ _ _ h => h) (Or.inl ⟨by rfl, fun _ _ => rfl⟩) (by assumption) ?qz2015
            try simp only [Act.put, List.setIfInBounds_toArray, List.set_cons_zero, List.set_cons_succ]
            refine' wpAnyH_take (i := 7) (oi := { dst := some 31, op := Op.extract (Operand.tmp 24) 1, type := 4, pos := "ref.go:22", after := #[{ on := 5, ground := Ground.data }, { on := 9, ground := Ground.gcOnly Departure.lateStores }], guard := none }) (v := .bool true) rfl (by kernel_rfl) (by kernel_rfl) (by kernel_rfl) (fun _ _ _ h => h) (Or.inl ⟨by rfl, fun _ _ => rfl⟩) (by assumption) ?qz2016
            try simp only [Act.put, List.setIfInBounds_toArray, List.set_cons_zero, List.set_cons_succ]
            refine wpAnyH_ready (rs := [8]) (by kernel_rfl) (by simp) ?_
            refine AllReadyH.cons (o := { dst := some 9, op := Op.alloc 22, type := 0, pos := "ref.go:22", after := #[], guard := none }) rfl (fun K hK => ?_) AllReadyH.nil
            rw [if_pos (by rfl)]
            refine wp_allocG zeA rfl (fun g9 vz2017 ez2018 kz2019 qz2020 => ?_)
            have nz2022 : ¬ (More okX vz2004 vz2010) g9 := Rz2013.not_new (Nat.le_of_eq ez2018.out.symm)
            have Rz2021 := Rz2013.alloc qz2020.out
            have nz2022w : w5.heap.size ≤ g9 := by rw [ez2018.out]; exact Rz2013.md.size
            refine hK.out _ _ (range_of (Rrg.blk Rz2021 B2b.out NG2b.out)) (fun hHeld => ?_)
            clear hK K
            try simp only [Act.put, List.setIfInBounds_toArray, List.set_cons_zero, List.set_cons_succ]
            refine wpAnyH_ready (rs := [9]) (by kernel_rfl) (by simp) ?_
            refine AllReadyH.cons (o := { dst := none, op := Op.store 22 (Operand.tmp 9) (Operand.tmp 30), type := 0, pos := "ref.go:22", after := #[{ on := 8, ground := Ground.data }, { on := 6, ground := Ground.data }, { on := 4, ground := Ground.chain }, { on := 0, ground := Ground.phase }, { on := 1, ground := Ground.phase }, { on := 2, ground := Ground.phase }, { on := 3, ground := Ground.phase }, { on := 4, ground := Ground.phase }, { on := 5, ground := Ground.phase }, { on := 6, ground := Ground.phase }, { on := 7, ground := Ground.textOnly Departure.lateStores }, { on := 8, ground := Ground.phase }], guard := none }) rfl (fun K hK => ?_) AllReadyH.nil
            rw [if_pos (by rfl)]
            refine wp_storeG agA _ _ rfl g9 rfl rfl (kz2019.out) (by rw [u8s_length, z32_length]) (by rw [u8s_length, HBL.out]) (u8s_one _) (fun vz2023 kz2024 qz2025 zz2026 => ?_)
            have Rz2027 := Rz2021.store qz2025.out nz2022 nz2022w
            refine hK.out _ _ (range_of (Rrg.blk Rz2027 B2b.out NG2b.out)) (fun hHeld => ?_)
            clear hK K
            dsimp only [Act.put]
            refine wpAnyH_ready (rs := [10]) (by kernel_rfl) (by simp) ?_
            refine AllReadyH.cons (o := { dst := some 10, op := Op.assign (Operand.tmp 31), type := 4, pos := "ref.go:22", after := #[{ on := 7, ground := Ground.data }, { on := 9, ground := Ground.chain }, { on := 0, ground := Ground.phase }, { on := 1, ground := Ground.phase }, { on := 2, ground := Ground.phase }, { on := 3, ground := Ground.phase }, { on := 4, ground := Ground.phase }, { on := 5, ground := Ground.phase }, { on := 6, ground := Ground.phase }, { on := 7, ground := Ground.phase }, { on := 8, ground := Ground.phase }, { on := 9, ground := Ground.phase }], guard := none }) rfl (fun K hK => ?_) AllReadyH.nil
            rw [if_pos (by rfl)]
            go_simp
            refine hK.out _ _ hHeld (fun hHeld => ?_)
            clear hK K
            try simp only [Act.put, List.setIfInBounds_toArray, List.set_cons_zero, List.set_cons_succ]
            refine wpAnyH_done (by kernel_rfl) ?_ _
            exact hrest2_ _ g9 gl ⟨_, Rz2027, nz2022, kz2024.out, nz2022w⟩
          · rw [if_pos (by rfl)]
            refine wp_allocG zeA rfl (fun g9 vz2028 ez2029 kz2030 qz2031 => ?_)
            have nz2033 : ¬ okX g9 := Rz2009.not_new (Nat.le_of_eq ez2029.out.symm)
            have Rz2032 := Rz2009.alloc qz2031.out
            have nz2033w : w5.heap.size ≤ g9 := by rw [ez2029.out]; exact Rz2009.md.size
            have dz2036 : ∀ b, (b = g3 ∨ b = gl) → b < vz2004.heap.size ∧ ¬ okX b := (fun b hb => hb.elim (fun e => by rw [e]; exact ⟨(Rrg.blk Rz2009 B3b.out NG3b.out).lt, NG3b.out⟩) (fun e => by rw [e]; exact ⟨hll, nlz2008⟩))
            have lz2034 := lz2007.keep fun b hb => qz2031.out.block b (dz2036 b hb).1 (by simp)
            have hllz2035 := Nat.lt_of_lt_of_le hll qz2031.out.size
            refine hK.out _ _ (range_of (Rrg.blk Rz2032 B2b.out NG2b.out)) (fun hHeld => ?_)
            clear hK K
            try simp only [Act.put, List.setIfInBounds_toArray, List.set_cons_zero, List.set_cons_succ]
            refine wpAnyH_ready (rs := [4]) (by kernel_rfl) (by simp) ?_
            refine AllReadyH.cons (o := { dst := some 29, op := Op.call { callee := Callee.value (Operand.func 26), args := #[Operand.tmp 25, Operand.const (Value.int IntKind.u8 78), Operand.tmp 28], argTypes := #[35, 5, 75] }, type := 68, pos := "ref.go:22", after := #[{ on := 0, ground := Ground.data }, { on := 3, ground := Ground.data }], guard := none }) rfl (fun K hK => ?_) AllReadyH.nil
            rw [if_pos (by rfl)]
            go_simp
            have hcz2039 : Calls Tryd.prog 26 #[.agg #[pv], .int .u8 78, .slice (some ⟨gl, 0, none⟩) 1 1] vz2028 fun e w' => e = .returned (.tuple #[.agg (u8s b).toArray, .bool true]) ∧ Rx vz2028 okX p σ2 w' := by
              have hd : ∀ b, (b = g3 ∨ b = gl) → b < vz2028.heap.size ∧ ¬ okX b := (fun b hb => hb.elim (fun e => by rw [e]; exact ⟨(Rrg.blk Rz2032 B3b.out NG3b.out).lt, NG3b.out⟩) (fun e => by rw [e]; exact ⟨hllz2035, nlz2008⟩))
              have h := rmix_any (c := 1) 78 Rz2032.sui HR1.out lz2034 (fun b hb => (hd b hb).1) rfl (mixOk_one HK.out)
              rw [HTAB.out] at h
              refine h.mono fun e w' ⟨he, hn⟩ => ⟨?_, by rw [H2.out]; exact hn⟩
              rw [HB.out]
              exact he
            with_reducible refine hcz2039.mono ?_
            rintro _ vz2037 ⟨rfl, nxz2038⟩
            have Rz2040 := Rz2032.call nxz2038
            have nz2041 : ¬ More okX vz2028 vz2037 g9 := More.not nz2033 (kz2030.out).lt
            have nz2041b := (Rx.blk nxz2038 (kz2030.out) nz2033)
            refine hK.out _ _ (range_of (Rrg.blk Rz2040 B2b.out NG2b.out)) (fun hHeld => ?_)
            clear hK K
            try simp only [Act.put, List.setIfInBounds_toArray, List.set_cons_zero, List.set_cons_succ]
            refine' wpAnyH_take (i := 5) (oi := { dst := some 24, op := Op.move (Operand.tmp 29), type := 68, pos := "ref.go:22", after := #[{ on := 4, ground := Ground.data }], guard := none }) (v := .tuple #[.agg (u8s b).toArray, .bool true]) rfl (by kernel_rfl) (by kernel_rfl) (by kernel_rfl) (fun _ _ _ h => h) (Or.inl ⟨by rfl, fun _ _ => rfl⟩) (by assumption) ?qz2042
            try simp only [Act.put, List.setIfInBounds_toArray, List.set_cons_zero, List.set_cons_succ]
            refine' wpAnyH_take (i := 6) (oi := { dst := some 30, op := Op.extract (Operand.tmp 24) 0, type := 22, pos := "ref.go:22", after := #[{ on := 5, ground := Ground.data }], guard := none }) (v := .agg (u8s b).toArray) rfl (by kernel_rfl) (by kernel_rfl) (by kernel_rfl) (fun _ _ _ h => h) (Or.inl ⟨by rfl, fun _ _ => rfl⟩) (by assumption) ?qz2043
            try simp only [Act.put, List.setIfInBounds_toArray, List.set_cons_zero, List.set_cons_succ]
            refine' wpAnyH_take (i := 7) (oi := { dst := some 31, op := Op.extract (Operand.tmp 24) 1, type := 4, pos := "ref.go:22", after := #[{ on := 5, ground := Ground.data }, { on := 9, ground := Ground.gcOnly Departure.lateStores }], guard := none }) (v := .bool true) rfl (by kernel_rfl) (by kernel_rfl) (by kernel_rfl) (fun _ _ _ h => h) (Or.inl ⟨by rfl, fun _ _ => rfl⟩) (by assumption) ?qz2044
            try simp only [Act.put, List.setIfInBounds_toArray, List.set_cons_zero, List.set_cons_succ]
            refine wpAnyH_ready (rs := [9]) (by kernel_rfl) (by simp) ?_
            refine AllReadyH.cons (o := { dst := none, op := Op.store 22 (Operand.tmp 9) (Operand.tmp 30), type := 0, pos := "ref.go:22", after := #[{ on := 8, ground := Ground.data }, { on := 6, ground := Ground.data }, { on := 4, ground := Ground.chain }, { on := 0, ground := Ground.phase }, { on := 1, ground := Ground.phase }, { on := 2, ground := Ground.phase }, { on := 3, ground := Ground.phase }, { on := 4, ground := Ground.phase }, { on := 5, ground := Ground.phase }, { on := 6, ground := Ground.phase }, { on := 7, ground := Ground.textOnly Departure.lateStores }, { on := 8, ground := Ground.phase }], guard := none }) rfl (fun K hK => ?_) AllReadyH.nil
            rw [if_pos (by rfl)]
            refine wp_storeG agA _ _ rfl g9 rfl rfl (nz2041b) (by rw [u8s_length, z32_length]) (by rw [u8s_length, HBL.out]) (u8s_one _) (fun vz2045 kz2046 qz2047 zz2048 => ?_)
            have Rz2049 := Rz2040.store qz2047.out nz2041 nz2033w
            refine hK.out _ _ (range_of (Rrg.blk Rz2049 B2b.out NG2b.out)) (fun hHeld => ?_)
            clear hK K
            dsimp only [Act.put]
            refine wpAnyH_ready (rs := [10]) (by kernel_rfl) (by simp) ?_
            refine AllReadyH.cons (o := { dst := some 10, op := Op.assign (Operand.tmp 31), type := 4, pos := "ref.go:22", after := #[{ on := 7, ground := Ground.data }, { on := 9, ground := Ground.chain }, { on := 0, ground := Ground.phase }, { on := 1, ground := Ground.phase }, { on := 2, ground := Ground.phase }, { on := 3, ground := Ground.phase }, { on := 4, ground := Ground.phase }, { on := 5, ground := Ground.phase }, { on := 6, ground := Ground.phase }, { on := 7, ground := Ground.phase }, { on := 8, ground := Ground.phase }, { on := 9, ground := Ground.phase }], guard := none }) rfl (fun K hK => ?_) AllReadyH.nil
            rw [if_pos (by rfl)]
            go_simp
            refine hK.out _ _ hHeld (fun hHeld => ?_)
            clear hK K
            try simp only [Act.put, List.setIfInBounds_toArray, List.set_cons_zero, List.set_cons_succ]
            refine wpAnyH_done (by kernel_rfl) ?_ _
            exact hrest2_ _ g9 gl ⟨_, Rz2049, nz2041, kz2046.out, nz2033w⟩
        · rw [if_pos (by rfl)]
          refine wp_allocG zeA rfl (fun g9 vz2050 ez2051 kz2052 qz2053 => ?_)
          have nz2055 : ¬ okX g9 := R0.not_new (Nat.le_of_eq ez2051.out.symm)
          have Rz2054 := R0.alloc qz2053.out
          have nz2055w : w5.heap.size ≤ g9 := by rw [ez2051.out]; exact R0.md.size
          refine hK.out _ _ (range_of (Rrg.blk Rz2054 B2b.out NG2b.out)) (fun hHeld => ?_)
          clear hK K
          try simp only [Act.put, List.setIfInBounds_toArray, List.set_cons_zero, List.set_cons_succ]
          refine wpAnyH_ready (rs := [3]) (by kernel_rfl) (by simp) ?_
          refine AllReadyH.cons (o := { dst := some 28, op := Op.buildSlice 75 1 #[(0, Operand.tmp 27)], type := 75, pos := "ref.go:22", after := #[{ on := 2, ground := Ground.data }], guard := none }) rfl (fun K hK => ?_) AllReadyH.nil
          rw [if_pos (by rfl)]
          go_simp
          have qz2057 := World.grownBy_alloc vz2050 (.cells #[.slice (some ⟨g3, 0, none⟩) 32 32] 66) none
          obtain ⟨vz2056, hvz2058⟩ : ∃ w', vz2050.alloc (.cells #[.slice (some ⟨g3, 0, none⟩) 32 32] 66) = w' := ⟨_, rfl⟩
          obtain ⟨gl, hgl⟩ : ∃ g, g = vz2050.heap.size := ⟨_, rfl⟩
          have lz2059 := lst_one HK.out (byt_of (Rrg.blk Rz2054 B3b.out NG3b.out)) (Rrg.blk Rz2054 B3b.out NG3b.out).lt hvz2058 hgl
          rw [hvz2058] at qz2057 ⊢
          rw [← hgl]
          have nlz2060 : ¬ okX gl := NOK5 gl (by rw [hgl]; exact Rz2054.md.size)
          have Rz2061 := Rz2054.alloc qz2057
          have hll : gl < vz2056.heap.size := by rw [← hvz2058, World.size_alloc, hgl]; exact Nat.lt_succ_self _
          clear hgl hvz2058
          refine hK.out _ _ (range_of (Rrg.blk Rz2061 B2b.out NG2b.out)) (fun hHeld => ?_)
          clear hK K
          try simp only [Act.put, List.setIfInBounds_toArray, List.set_cons_zero, List.set_cons_succ]
          refine wpAnyH_ready (rs := [4]) (by kernel_rfl) (by simp) ?_
          refine AllReadyH.cons (o := { dst := some 29, op := Op.call { callee := Callee.value (Operand.func 26), args := #[Operand.tmp 25, Operand.const (Value.int IntKind.u8 78), Operand.tmp 28], argTypes := #[35, 5, 75] }, type := 68, pos := "ref.go:22", after := #[{ on := 0, ground := Ground.data }, { on := 3, ground := Ground.data }], guard := none }) rfl (fun K hK => ?_) AllReadyH.nil
          rw [if_pos (by rfl)]
          go_simp
          have hcz2064 : Calls Tryd.prog 26 #[.agg #[pv], .int .u8 78, .slice (some ⟨gl, 0, none⟩) 1 1] vz2056 fun e w' => e = .returned (.tuple #[.agg (u8s b).toArray, .bool true]) ∧ Rx vz2056 okX p σ2 w' := by
            have hd : ∀ b, (b = g3 ∨ b = gl) → b < vz2056.heap.size ∧ ¬ okX b := (fun b hb => hb.elim (fun e => by rw [e]; exact ⟨(Rrg.blk Rz2061 B3b.out NG3b.out).lt, NG3b.out⟩) (fun e => by rw [e]; exact ⟨hll, nlz2060⟩))
            have h := rmix_any (c := 1) 78 Rz2061.sui HR1.out lz2059 (fun b hb => (hd b hb).1) rfl (mixOk_one HK.out)
            rw [HTAB.out] at h
            refine h.mono fun e w' ⟨he, hn⟩ => ⟨?_, by rw [H2.out]; exact hn⟩
            rw [HB.out]
            exact he
          with_reducible refine hcz2064.mono ?_
          rintro _ vz2062 ⟨rfl, nxz2063⟩
          have Rz2065 := Rz2061.call nxz2063
          have nz2066 : ¬ More okX vz2056 vz2062 g9 := More.not nz2055 ((kz2052.out.grown qz2057 (by simp))).lt
          have nz2066b := (Rx.blk nxz2063 ((kz2052.out.grown qz2057 (by simp))) nz2055)
          refine hK.out _ _ (range_of (Rrg.blk Rz2065 B2b.out NG2b.out)) (fun hHeld => ?_)
          clear hK K
          try simp only [Act.put, List.setIfInBounds_toArray, List.set_cons_zero, List.set_cons_succ]
          refine' wpAnyH_take (i := 5) (oi := { dst := some 24, op := Op.move (Operand.tmp 29), type := 68, pos := "ref.go:22", after := #[{ on := 4, ground := Ground.data }], guard := none }) (v := .tuple #[.agg (u8s b).toArray, .bool true]) rfl (by kernel_rfl) (by kernel_rfl) (by kernel_rfl) (fun _ _ _ h => h) (Or.inl ⟨by rfl, fun _ _ => rfl⟩) (by assumption) ?qz2067
          try simp only [Act.put, List.setIfInBounds_toArray, List.set_cons_zero, List.set_cons_succ]
          refine' wpAnyH_take (i := 6) (oi := { dst := some 30, op := Op.extract (Operand.tmp 24) 0, type := 22, pos := "ref.go:22", after := #[{ on := 5, ground := Ground.data }], guard := none }) (v := .agg (u8s b).toArray) rfl (by kernel_rfl) (by kernel_rfl) (by kernel_rfl) (fun _ _ _ h => h) (Or.inl ⟨by rfl, fun _ _ => rfl⟩) (by assumption) ?qz2068
          try simp only [Act.put, List.setIfInBounds_toArray, List.set_cons_zero, List.set_cons_succ]
          refine' wpAnyH_take (i := 7) (oi := { dst := some 31, op := Op.extract (Operand.tmp 24) 1, type := 4, pos := "ref.go:22", after := #[{ on := 5, ground := Ground.data }, { on := 9, ground := Ground.gcOnly Departure.lateStores }], guard := none }) (v := .bool true) rfl (by kernel_rfl) (by kernel_rfl) (by kernel_rfl) (fun _ _ _ h => h) (Or.inl ⟨by rfl, fun _ _ => rfl⟩) (by assumption) ?qz2069
          try simp only [Act.put, List.setIfInBounds_toArray, List.set_cons_zero, List.set_cons_succ]
          refine wpAnyH_ready (rs := [9]) (by kernel_rfl) (by simp) ?_
          refine AllReadyH.cons (o := { dst := none, op := Op.store 22 (Operand.tmp 9) (Operand.tmp 30), type := 0, pos := "ref.go:22", after := #[{ on := 8, ground := Ground.data }, { on := 6, ground := Ground.data }, { on := 4, ground := Ground.chain }, { on := 0, ground := Ground.phase }, { on := 1, ground := Ground.phase }, { on := 2, ground := Ground.phase }, { on := 3, ground := Ground.phase }, { on := 4, ground := Ground.phase }, { on := 5, ground := Ground.phase }, { on := 6, ground := Ground.phase }, { on := 7, ground := Ground.textOnly Departure.lateStores }, { on := 8, ground := Ground.phase }], guard := none }) rfl (fun K hK => ?_) AllReadyH.nil
          rw [if_pos (by rfl)]
          refine wp_storeG agA _ _ rfl g9 rfl rfl (nz2066b) (by rw [u8s_length, z32_length]) (by rw [u8s_length, HBL.out]) (u8s_one _) (fun vz2070 kz2071 qz2072 zz2073 => ?_)
          have Rz2074 := Rz2065.store qz2072.out nz2066 nz2055w
          refine hK.out _ _ (range_of (Rrg.blk Rz2074 B2b.out NG2b.out)) (fun hHeld => ?_)
          clear hK K
          dsimp only [Act.put]
          refine wpAnyH_ready (rs := [10]) (by kernel_rfl) (by simp) ?_
          refine AllReadyH.cons (o := { dst := some 10, op := Op.assign (Operand.tmp 31), type := 4, pos := "ref.go:22", after := #[{ on := 7, ground := Ground.data }, { on := 9, ground := Ground.chain }, { on := 0, ground := Ground.phase }, { on := 1, ground := Ground.phase }, { on := 2, ground := Ground.phase }, { on := 3, ground := Ground.phase }, { on := 4, ground := Ground.phase }, { on := 5, ground := Ground.phase }, { on := 6, ground := Ground.phase }, { on := 7, ground := Ground.phase }, { on := 8, ground := Ground.phase }, { on := 9, ground := Ground.phase }], guard := none }) rfl (fun K hK => ?_) AllReadyH.nil
          rw [if_pos (by rfl)]
          go_simp
          refine hK.out _ _ hHeld (fun hHeld => ?_)
          clear hK K
          try simp only [Act.put, List.setIfInBounds_toArray, List.set_cons_zero, List.set_cons_succ]
          refine wpAnyH_done (by kernel_rfl) ?_ _
          exact hrest2_ _ g9 gl ⟨_, Rz2074, nz2066, kz2071.out, nz2055w⟩
      · intro w6 g9 gl2 ⟨okY, r6, n9, b9, w9⟩
        have R6 : Hid (Rrg w w6 ok okY p σ2) := (R5.out.trans r6).base G4.out
        have B9 := Lib.hid b9
        have W9 := Lib.hid w9
        have B7c := Lib.hid (r6.blk B7.out N7.out)
        have B3c := Lib.hid (r6.blk B3b.out NG3b.out)
        have B4c := Lib.hid ((R5.out.trans r6).blk B4.out (NOK.out g4 (by have := NE.out; omega)))
        have B5c := Lib.hid ((R5.out.trans r6).blk B5.out (NOK.out g5 (by have := NE.out; omega)))
        have NM4 := Lib.hid ((R5.out.trans r6).not_old B4.out.lt (NOK.out g4 (by have := NE.out; omega)))
        have NM5 := Lib.hid ((R5.out.trans r6).not_old B5.out.lt (NOK.out g5 (by have := NE.out; omega)))
        have hc2 := blk_n B3c.out HK.out
        have NX4 : Hid (g9 ≠ g4 ∧ g7 ≠ g4 ∧ g3 ≠ g4) := by have := NE.out; have := W7.out; have := W9.out; have := R5.out.md.size; show _ ∧ _; omega
        have NX5 : Hid (g9 ≠ g5 ∧ g7 ≠ g5 ∧ g3 ≠ g5) := by have := NE.out; have := W7.out; have := W9.out; have := R5.out.md.size; show _ ∧ _; omega
        have N54 : Hid (g5 ≠ g4) := by have := NE.out; show g5 ≠ g4; omega
        have N45 : Hid (g4 ≠ g5) := by have := NE.out; show g4 ≠ g5; omega
        have HWR : Hid (IntKind.u16.wrap ((n : Int) + 1) = (n : Int) + 1) := by
          have := H65.out
          show _ = _
          simp [IntKind.wrap, IntKind.bits, IntKind.signed]
          omega
        clear r6 n9 b9 w9
        go_wp2_with fail
        refine wp_region_held_drew (S := fun W => W.rangeAt g9 0 (u8s b) ∧ W.rangeAt g7 0 (u8s a) ∧ W.cell? ⟨g3, 32, none⟩ = some (.int .u16 (n : Int))) (by kernel_rfl) ⟨range_of B9.out, range_of B7c.out, hc2⟩ (fun hHeld => ?_)
        refine' wpAnyH_take (i := 0) (oi := { dst := some 32, op := Op.load 22 (Operand.tmp 9), type := 22, pos := "ref.go:23", after := #[], guard := none }) (v := .agg (u8s b).toArray) rfl (by kernel_rfl) (by kernel_rfl) (by kernel_rfl) (fun _ _ _ h => h) (yieldsIf_loadR agA (by rfl) (.tmp 9) rfl g9 0 rfl (by rw [u8s_length, HBL.out]) (fun _ h => h.1)) (by assumption) ?qz7001
        try simp only [Act.put, List.setIfInBounds_toArray, List.set_cons_zero, List.set_cons_succ]
        refine' wpAnyH_take (i := 1) (oi := { dst := some 33, op := Op.fieldAddr 40 (Operand.tmp 3) 1, type := 0, pos := "ref.go:23", after := #[], guard := none }) (v := .pointer (some ⟨g3, 32, none⟩)) rfl (by kernel_rfl) (by kernel_rfl) (by kernel_rfl) (fun _ _ _ h => h) (Or.inl ⟨by rfl, fun w' hSw => by go_simp⟩) (by assumption) ?qz7002
        try simp only [Act.put, List.setIfInBounds_toArray, List.set_cons_zero, List.set_cons_succ]
        refine' wpAnyH_take (i := 2) (oi := { dst := some 34, op := Op.load 38 (Operand.tmp 33), type := 38, pos := "ref.go:23", after := #[{ on := 1, ground := Ground.data }], guard := none }) (v := .int .u16 (n : Int)) rfl (by kernel_rfl) (by kernel_rfl) (by kernel_rfl) (fun _ _ _ h => h) (Or.inl ⟨by rfl, fun w' hSw => by have h3 := hSw.2.2; go_simp⟩) (by assumption) ?qz7003
        try simp only [Act.put, List.setIfInBounds_toArray, List.set_cons_zero, List.set_cons_succ]
        refine' wpAnyH_take (i := 3) (oi := { dst := some 35, op := Op.binOp BinOp.add 38 (Operand.tmp 34) (Operand.const (Value.int IntKind.u16 1)) 38, type := 38, pos := "ref.go:23", after := #[{ on := 2, ground := Ground.data }], guard := none }) (v := .int .u16 ((n + 1 : Nat) : Int)) rfl (by kernel_rfl) (by kernel_rfl) (by kernel_rfl) (fun _ _ _ h => h) (Or.inl ⟨by rfl, fun w' hSw => by go_simp; rw [HWR.out]⟩) (by assumption) ?qz7004
        try simp only [Act.put, List.setIfInBounds_toArray, List.set_cons_zero, List.set_cons_succ]
        refine' wpAnyH_take (i := 4) (oi := { dst := some 36, op := Op.build 40 #[(0, Operand.tmp 32), (1, Operand.tmp 35)], type := 40, pos := "ref.go:23", after := #[{ on := 0, ground := Ground.data }, { on := 3, ground := Ground.data }], guard := none }) (v := .agg (rv b (n + 1)).toArray) rfl (by kernel_rfl) (by kernel_rfl) (by kernel_rfl) (fun _ _ _ h => h) (yieldsIf_buildC (by rfl) (.tmp 32) (.tmp 35) rfl (n + 1) HBL.out rfl rfl) (by assumption) ?qz7005
        try simp only [Act.put, List.setIfInBounds_toArray, List.set_cons_zero, List.set_cons_succ]
        refine' wpAnyH_take (i := 5) (oi := { dst := some 37, op := Op.load 22 (Operand.tmp 7), type := 22, pos := "ref.go:23", after := #[{ on := 6, ground := Ground.gcOnly Departure.lateStores }], guard := none }) (v := .agg (u8s a).toArray) rfl (by kernel_rfl) (by kernel_rfl) (by kernel_rfl) (fun _ _ _ h => h) (yieldsIf_loadR agA (by rfl) (.tmp 7) rfl g7 0 rfl (by rw [u8s_length, HAL.out]) (fun _ h => h.2.1)) (by assumption) ?qz7006
        try simp only [Act.put, List.setIfInBounds_toArray, List.set_cons_zero, List.set_cons_succ]
        refine wpAnyH_ready (rs := [6]) (by kernel_rfl) (by simp) ?_
        refine AllReadyH.cons (o := { dst := none, op := Op.store 40 (Operand.tmp 4) (Operand.tmp 36), type := 0, pos := "ref.go:23", after := #[{ on := 4, ground := Ground.data }, { on := 0, ground := Ground.phase }, { on := 1, ground := Ground.phase }, { on := 2, ground := Ground.phase }, { on := 3, ground := Ground.phase }, { on := 4, ground := Ground.phase }, { on := 5, ground := Ground.textOnly Departure.lateStores }], guard := none }) rfl (fun K hK => ?_) AllReadyH.nil
        rw [if_pos (by rfl)]
        refine wp_storeG agC _ _ rfl g4 rfl rfl B4c.out (rv_length z32_length) (rv_length HBL.out) (rv_one _ _) (fun w7 k6 q6 z6 => ?_)
        have B5d := Lib.hid ((B5c.out.grown (grown_drew _) (by simp)).grown q6.out (by simpa using N54.out))
        refine hK.out _ _ ⟨range_keep hHeld.1 fun hlt => q6.out.block g9 hlt (by simpa using NX4.out.1), range_keep hHeld.2.1 fun hlt => q6.out.block g7 hlt (by simpa using NX4.out.2.1), q6.out.cell hHeld.2.2 (by simpa using NX4.out.2.2)⟩ (fun hHeld => ?_)
        clear hK K
        dsimp only [Act.put]
        refine wpAnyH_ready (rs := [7]) (by kernel_rfl) (by simp) ?_
        refine AllReadyH.cons (o := { dst := none, op := Op.store 22 (Operand.tmp 5) (Operand.tmp 37), type := 0, pos := "ref.go:23", after := #[{ on := 5, ground := Ground.data }, { on := 6, ground := Ground.chain }, { on := 0, ground := Ground.phase }, { on := 1, ground := Ground.phase }, { on := 2, ground := Ground.phase }, { on := 3, ground := Ground.phase }, { on := 4, ground := Ground.phase }, { on := 5, ground := Ground.phase }, { on := 6, ground := Ground.phase }], guard := none }) rfl (fun K hK => ?_) AllReadyH.nil
        rw [if_pos (by rfl)]
        refine wp_storeG agA _ _ rfl g5 rfl rfl B5d.out (by rw [u8s_length, z32_length]) (by rw [u8s_length, HAL.out]) (u8s_one _) (fun w8 k7 q7 z7 => ?_)
        refine hK.out _ _ ⟨range_keep hHeld.1 fun hlt => q7.out.block g9 hlt (by simpa using NX5.out.1), range_keep hHeld.2.1 fun hlt => q7.out.block g7 hlt (by simpa using NX5.out.2.1), q7.out.cell hHeld.2.2 (by simpa using NX5.out.2.2)⟩ (fun hHeld => ?_)
        clear hK K
        dsimp only [Act.put]
        refine wpAnyH_ready (rs := [8]) (by kernel_rfl) (by simp) ?_
        refine AllReadyH.cons (o := { dst := some 6, op := Op.assign (Operand.const (Value.int IntKind.i64 0)), type := 3, pos := "ref.go:23", after := #[{ on := 7, ground := Ground.chain }, { on := 0, ground := Ground.phase }, { on := 1, ground := Ground.phase }, { on := 2, ground := Ground.phase }, { on := 3, ground := Ground.phase }, { on := 4, ground := Ground.phase }, { on := 5, ground := Ground.phase }, { on := 6, ground := Ground.phase }, { on := 7, ground := Ground.phase }], guard := none }) rfl (fun K hK => ?_) AllReadyH.nil
        rw [if_pos (by rfl)]
        go_simp
        refine hK.out _ _ hHeld (fun hHeld => ?_)
        clear hK K
        try simp only [Act.put, List.setIfInBounds_toArray, List.set_cons_zero, List.set_cons_succ]
        refine wpAnyH_done (by kernel_rfl) ?_ _
        go_wp2_with fail
        refine bodyPost_ret (res_ccs rfl agC agA rfl rfl rfl (k6.out.grown q7.out (by simpa using N45.out)) k7.out (rv_length HBL.out) (by rw [u8s_length, HAL.out])) rfl (.inr ⟨H65.out, rfl, ?_⟩)
        exact (((R6.out.alloc (grown_drew w6)).store q6.out NM4.out (by have := NE.out; omega)).store q7.out NM5.out (by have := NE.out; omega)).nx HS.out.lt
end Go.Proofs.YtdnkeaokgkiloaaDoor
