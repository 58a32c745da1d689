/- chain.Next. Conditions: there is room for two more terms. -/
import Derived.Test.YtdnkeaokgkiloaaDoorR3
namespace Go.Proofs.YtdnkeaokgkiloaaDoor
open Go.RowKit T
/-- What Next answers. -/
def NextE (w : World) (ok : Nat → Prop) (p : Option Nat) (σ : Sg) (k : List UInt8) (n : Nat) (e : Ending) (w' : World) : Prop :=
  (n = 65535 ∧ e = .returned (.tuple #[.agg (rv z32 0).toArray, .agg (u8s z32).toArray, .int .i64 7]) ∧ w.grownBy w' none) ∨
  (n < 65535 ∧ e = .returned (.tuple #[.agg (rv (nextK σ k) (n + 1)).toArray, .agg (u8s (nextL σ k)).toArray, .int .i64 0]) ∧ Nx w ok p (nextS σ k) w')
set_option maxRecDepth 100000 in
set_option maxHeartbeats 16000000 in
theorem next_any {w : World} {ok : Nat → Prop} {p : Option Nat} {σ : Sg} {k : List UInt8} {n : Nat} (h : Sui w ok p σ) (hr : Room 59900 σ) (hk : k.length = 32) (hn : n < 65536) :
    Calls Tryd.prog 14 #[tab p, .agg (rv k n).toArray] w (NextE w ok p σ k n) := by
  obtain ⟨a, ha⟩ : ∃ a, a = nextL σ k := ⟨_, rfl⟩
  obtain ⟨b, hb⟩ : ∃ b, b = nextK σ k := ⟨_, rfl⟩
  obtain ⟨σ2, h2⟩ : ∃ s, s = nextS σ k := ⟨_, rfl⟩
  unfold NextE
  rw [← ha, ← hb, ← h2]
  have hal : a.length = 32 := by rw [ha]; exact nextL_length _ _
  have hbl : b.length = 32 := by rw [hb]; exact nextK_length _ _
  obtain ⟨pv, hpv⟩ : ∃ v, v = Value.pointer (p.map fun b => (⟨b, 0, none⟩ : Addr)) := ⟨_, rfl⟩
  have htab : tab p = .agg [pv].toArray := by rw [hpv]; rfl
  obtain ⟨z, hz⟩ : ∃ z, z = rv k n := ⟨_, rfl⟩
  have HA := Lib.hid ha
  have HB := Lib.hid hb
  have H2 := Lib.hid h2
  have HAL := Lib.hid hal
  have HBL := Lib.hid hbl
  have HS := Lib.hid h
  have HR := Lib.hid hr
  have HK := Lib.hid hk
  have HZ := Lib.hid hz
  have HTAB := Lib.hid htab
  rw [htab, ← hz]
  clear ha hb h2 hal hbl h hr hk hz htab hpv
  go_enter Tryd.func14, Tryd.ntmps14
  go_wp2_with (first | (refine wpList_boxG rfl _ rfl (vs := [pv]) rfl ?_) | fail)
  intro g2 w1 e2 k2 q2
  go_wp2_with (first | (refine wpList_boxG rfl _ rfl (vs := z) rfl ?_) | fail)
  intro g3 w2 e3 k3 q3
  go_wp2_with (first | (refine wpList_allocG zeC rfl rfl ?_) | fail)
  intro g4 w3 e4 k4 q4
  go_wp2_with (first | (refine wpList_allocG zeY rfl rfl ?_) | fail)
  intro g5 w4 e5 k5 q5
  have G4 := Lib.hid (((q2.out.trans q3.out).trans q4.out).trans q5.out)
  have B2 := Lib.hid (((k2.out.grown q3.out (by simp)).grown q4.out (by simp)).grown q5.out (by simp))
  have B3 : Hid (C.Blk w4 g3 40 (rv k n)) := by have hh := (k3.out.grown q4.out (by simp)).grown q5.out (by simp); rw [HZ.out] at hh; exact hh
  have B4 := Lib.hid (k4.out.grown q5.out (by simp))
  have B5 := Lib.hid k5.out
  have NE : Hid (w.heap.size ≤ g2 ∧ g2 < g3 ∧ g3 < g4 ∧ g4 < g5 ∧ g5 < w4.heap.size) := by
    have a1 := e2.out; have a2 := e3.out; have a3 := e4.out; have a4 := e5.out; have a5 := k2.out.lt; have a6 := k3.out.lt; have a7 := k4.out.lt; have a8 := k5.out.lt
    show _ ∧ _
    omega
  have NOK : Hid (∀ g, w.heap.size ≤ g → ¬ ok g) := fun g hg hb => by have := HS.out.lt g hb; omega
  have S4 := Lib.hid (HS.out.grown G4.out)
  have hc := blk_n B3.out HK.out
  clear e2 k2 q2 e3 k3 q3 e4 k4 q4 e5 k5 q5
  by_cases h65 : n = 65535
  · have d1 : ((n : Int) == 65535) = true := by simp; omega
    have d2 : decide ((n : Int) = 65535) = true := by simp; omega
    have H65 := Lib.hid h65
    clear h65
    go_wp2_with (first | (refine wpList_zeroG zeC rfl rfl ?_) | (refine wpList_zeroG zeY rfl rfl ?_) | (refine wpList_storeG agC rfl _ _ rfl g4 rfl rfl B4.out (rv_length z32_length) (rv_length z32_length) (rv_one _ _) ?_) | fail)
    intro w5 k5 q5 z5
    have B5b := Lib.hid (B5.out.grown q5.out (by have := NE.out; simp; omega))
    go_wp2_with (first | (refine wpList_storeG agY rfl _ _ rfl g5 rfl rfl B5b.out (by rw [u8s_length, z32_length]) (by rw [u8s_length, z32_length]) (u8s_one _) ?_) | fail)
    intro w6 k6 q6 z6
    go_wp2_with fail
    refine bodyPost_ret (res_ccs rfl agC agY rfl rfl rfl (k5.out.grown q6.out (by have := NE.out; simp; omega)) k6.out (rv_length z32_length) (by rw [u8s_length, z32_length])) rfl (.inl ⟨H65.out, rfl, ?_⟩)
    exact World.grownBy.andThen (World.grownBy.andThen G4.out q5.out (by rintro _ ⟨⟩; exact .inl (by have := NE.out; omega))) q6.out (by rintro _ ⟨⟩; exact .inl (by have := NE.out; omega))
  · have d1 : ((n : Int) == 65535) = false := by simp; omega
    have d2 : decide ((n : Int) = 65535) = false := by simp; omega
    have H65 : Hid (n < 65535) := by show n < 65535; omega
    clear h65
    go_wp2_with fail
    have NG2 := Lib.hid (NOK.out g2 (by have := NE.out; omega))
    have NG3 := Lib.hid (NOK.out g3 (by have := NE.out; omega))
    have NOK4 : ∀ g, w4.heap.size ≤ g → ¬ ok g := fun g hg => NOK.out g (Nat.le_trans G4.out.size hg)
    clear hc
    apply cutN3 (F := fun w' g7 g8 _ => Nx w4 ok p σ2 w' ∧ C.Blk w' g7 24 (u8s a) ∧ C.Blk w' g8 24 (u8s b) ∧ w4.heap.size ≤ g7 ∧ w4.heap.size ≤ g8)
    · intro hrest_
      refine wp_region_held_drew (S := fun W => W.rangeAt g2 0 [pv]) (by kernel_rfl) (range_of B2.out) (fun hHeld => ?_)
      have R0 := Reg.start S4.out
      obtain ⟨v0, hv0⟩ : ∃ v, v = w4.drew := ⟨_, rfl⟩
      rw [← hv0] at hHeld R0 ⊢
      clear hv0
      refine' wpAnyH_take (i := 0) (oi := { dst := some 16, op := Op.load 29 (Operand.tmp 2), type := 29, pos := "chain.go:29", after := #[], guard := none }) (v := .agg [pv].toArray) rfl (by kernel_rfl) (by kernel_rfl) (by kernel_rfl) (fun _ _ _ h => h) (yieldsIf_loadR agS (by rfl) (.tmp 2) rfl g2 0 rfl rfl (fun _ h => h)) (by assumption) ?qz1
      try simp only [Act.put, List.setIfInBounds_toArray, List.set_cons_zero, List.set_cons_succ]
      refine' wpAnyH_take (i := 1) (oi := { dst := some 17, op := Op.fieldAddr 40 (Operand.tmp 3) 0, type := 0, pos := "chain.go:29", after := #[], guard := none }) (v := .pointer (some ⟨g3, 0, none⟩)) rfl (by kernel_rfl) (by kernel_rfl) (by kernel_rfl) (fun _ _ _ h => h) (Or.inl ⟨by rfl, fun w' hSw => by go_simp⟩) (by assumption) ?qz2
      try simp only [Act.put, List.setIfInBounds_toArray, List.set_cons_zero, List.set_cons_succ]
      refine' wpAnyH_take (i := 2) (oi := { dst := some 18, op := Op.slice 24 (Operand.tmp 17) none none none, type := 66, pos := "chain.go:29", after := #[{ on := 1, ground := Ground.data }], guard := none }) (v := .slice (some ⟨g3, 0, none⟩) 32 32) rfl (by kernel_rfl) (by kernel_rfl) (by kernel_rfl) (fun _ _ _ h => h) (Or.inl ⟨by rfl, fun w' hSw => by go_simp⟩) (by assumption) ?qz3
      try simp only [Act.put, List.setIfInBounds_toArray, List.set_cons_zero, List.set_cons_succ]
      refine wpAnyH_ready (rs := [3, 9, 10]) (by kernel_rfl) (by simp) ?_
      refine AllReadyH.cons (o := { dst := some 19, op := Op.buildSlice 75 1 #[(0, Operand.tmp 18)], type := 75, pos := "chain.go:29", after := #[{ on := 2, ground := Ground.data }], guard := none }) rfl (fun K hK => ?_) (AllReadyH.cons (o := { dst := some 7, op := Op.alloc 24, type := 0, pos := "chain.go:29", after := #[], guard := none }) rfl (fun K hK => ?_) (AllReadyH.cons (o := { dst := some 8, op := Op.alloc 24, type := 0, pos := "chain.go:29", after := #[], guard := none }) rfl (fun K hK => ?_) AllReadyH.nil))
      · rw [if_pos (by rfl)]
        go_simp
        have qz5 := World.grownBy_alloc v0 (.cells #[.slice (some ⟨g3, 0, none⟩) 32 32] 66) none
        obtain ⟨vz4, hvz6⟩ : ∃ w', v0.alloc (.cells #[.slice (some ⟨g3, 0, none⟩) 32 32] 66) = w' := ⟨_, rfl⟩
        obtain ⟨gl, hgl⟩ : ∃ g, g = v0.heap.size := ⟨_, rfl⟩
        have lz7 := lst_one HK.out (byt_of (Reg.blk R0 B3.out NG3.out)) (Reg.blk R0 B3.out NG3.out).lt hvz6 hgl
        rw [hvz6] at qz5 ⊢
        rw [← hgl]
        have nlz8 : ¬ ok gl := NOK4 gl (by rw [hgl]; exact R0.md.size)
        have Rz9 := R0.alloc qz5
        have hll : gl < vz4.heap.size := by rw [← hvz6, World.size_alloc, hgl]; exact Nat.lt_succ_self _
        clear hgl hvz6
        refine hK.out _ _ (range_of (Reg.blk Rz9 B2.out NG2.out)) (fun hHeld => ?_)
        clear hK K
        try simp only [Act.put, List.setIfInBounds_toArray, List.set_cons_zero, List.set_cons_succ]
        refine wpAnyH_ready (rs := [4, 9, 10]) (by kernel_rfl) (by simp) ?_
        refine AllReadyH.cons (o := { dst := some 20, op := Op.call { callee := Callee.value (Operand.func 23), args := #[Operand.tmp 16, Operand.const (Value.int IntKind.u8 77), Operand.const (Value.int IntKind.u8 78), Operand.tmp 19], argTypes := #[29, 5, 5, 75] }, type := 25, pos := "chain.go:29", after := #[{ on := 0, ground := Ground.data }, { on := 3, ground := Ground.data }], guard := none }) rfl (fun K hK => ?_) (AllReadyH.cons (o := { dst := some 7, op := Op.alloc 24, type := 0, pos := "chain.go:29", after := #[], guard := none }) rfl (fun K hK => ?_) (AllReadyH.cons (o := { dst := some 8, op := Op.alloc 24, type := 0, pos := "chain.go:29", after := #[], guard := none }) rfl (fun K hK => ?_) AllReadyH.nil))
        · rw [if_pos (by rfl)]
          go_simp
          have hcz12 : Calls Tryd.prog 23 #[.agg #[pv], .int .u8 77, .int .u8 78, .slice (some ⟨gl, 0, none⟩) 1 1] vz4 fun e w' => e = .returned (.tuple #[.agg (u8s a).toArray, .agg (u8s b).toArray, .bool true]) ∧ Nx vz4 ok p σ2 w' := by
            have h := mixes_any (c := 1) 77 78 Rz9.sui HR.out lz7 (fun b hb => hb.elim (fun e => by rw [e]; exact ⟨(Reg.blk Rz9 B3.out NG3.out).lt, NG3.out⟩) (fun e => by rw [e]; exact ⟨hll, nlz8⟩)) rfl (mixOk_one HK.out)
            rw [HTAB.out] at h
            refine h.mono fun e w' ⟨he, hn⟩ => ⟨?_, by rw [H2.out]; exact hn⟩
            rw [HA.out, HB.out]
            exact he
          with_reducible refine hcz12.mono ?_
          rintro _ vz10 ⟨rfl, nxz11⟩
          have Rz13 := Rz9.call nxz11
          refine hK.out _ _ (range_of (Reg.blk Rz13 B2.out NG2.out)) (fun hHeld => ?_)
          clear hK K
          try simp only [Act.put, List.setIfInBounds_toArray, List.set_cons_zero, List.set_cons_succ]
          refine' wpAnyH_take (i := 5) (oi := { dst := some 15, op := Op.move (Operand.tmp 20), type := 25, pos := "chain.go:29", after := #[{ on := 4, ground := Ground.data }], guard := none }) (v := .tuple #[.agg (u8s a).toArray, .agg (u8s b).toArray, .bool true]) rfl (by kernel_rfl) (by kernel_rfl) (by kernel_rfl) (fun _ _ _ h => h) (Or.inl ⟨by rfl, fun _ _ => rfl⟩) (by assumption) ?qz14
          try simp only [Act.put, List.setIfInBounds_toArray, List.set_cons_zero, List.set_cons_succ]
          refine' wpAnyH_take (i := 6) (oi := { dst := some 21, op := Op.extract (Operand.tmp 15) 0, type := 24, pos := "chain.go:29", after := #[{ on := 5, ground := Ground.data }], guard := none }) (v := .agg (u8s a).toArray) rfl (by kernel_rfl) (by kernel_rfl) (by kernel_rfl) (fun _ _ _ h => h) (Or.inl ⟨by rfl, fun _ _ => rfl⟩) (by assumption) ?qz15
          try simp only [Act.put, List.setIfInBounds_toArray, List.set_cons_zero, List.set_cons_succ]
          refine' wpAnyH_take (i := 7) (oi := { dst := some 22, op := Op.extract (Operand.tmp 15) 1, type := 24, pos := "chain.go:29", after := #[{ on := 5, ground := Ground.data }, { on := 11, ground := Ground.gcOnly Departure.lateStores }], guard := none }) (v := .agg (u8s b).toArray) rfl (by kernel_rfl) (by kernel_rfl) (by kernel_rfl) (fun _ _ _ h => h) (Or.inl ⟨by rfl, fun _ _ => rfl⟩) (by assumption) ?qz16
          try simp only [Act.put, List.setIfInBounds_toArray, List.set_cons_zero, List.set_cons_succ]
          refine' wpAnyH_take (i := 8) (oi := { dst := some 23, op := Op.extract (Operand.tmp 15) 2, type := 4, pos := "chain.go:29", after := #[{ on := 5, ground := Ground.data }, { on := 12, ground := Ground.gcOnly Departure.lateStores }], guard := none }) (v := .bool true) rfl (by kernel_rfl) (by kernel_rfl) (by kernel_rfl) (fun _ _ _ h => h) (Or.inl ⟨by rfl, fun _ _ => rfl⟩) (by assumption) ?qz17
          try simp only [Act.put, List.setIfInBounds_toArray, List.set_cons_zero, List.set_cons_succ]
          refine wpAnyH_ready (rs := [9, 10]) (by kernel_rfl) (by simp) ?_
          refine AllReadyH.cons (o := { dst := some 7, op := Op.alloc 24, type := 0, pos := "chain.go:29", after := #[], guard := none }) rfl (fun K hK => ?_) (AllReadyH.cons (o := { dst := some 8, op := Op.alloc 24, type := 0, pos := "chain.go:29", after := #[], guard := none }) rfl (fun K hK => ?_) AllReadyH.nil)
          · rw [if_pos (by rfl)]
            refine wp_allocG zeY rfl (fun g7 vz18 ez19 kz20 qz21 => ?_)
            have nz23 : ¬ (More ok vz4 vz10) g7 := Rz13.not_new (Nat.le_of_eq ez19.out.symm)
            have Rz22 := Rz13.alloc qz21.out
            have nz23w : w4.heap.size ≤ g7 := by rw [ez19.out]; exact Rz13.md.size
            refine hK.out _ _ (range_of (Reg.blk Rz22 B2.out NG2.out)) (fun hHeld => ?_)
            clear hK K
            try simp only [Act.put, List.setIfInBounds_toArray, List.set_cons_zero, List.set_cons_succ]
            refine wpAnyH_ready (rs := [10]) (by kernel_rfl) (by simp) ?_
            refine AllReadyH.cons (o := { dst := some 8, op := Op.alloc 24, type := 0, pos := "chain.go:29", after := #[], guard := none }) rfl (fun K hK => ?_) AllReadyH.nil
            rw [if_pos (by rfl)]
            refine wp_allocG zeY rfl (fun g8 vz24 ez25 kz26 qz27 => ?_)
            have nz29 : ¬ (More ok vz4 vz10) g8 := Rz22.not_new (Nat.le_of_eq ez25.out.symm)
            have Rz28 := Rz22.alloc qz27.out
            have nz29w : w4.heap.size ≤ g8 := by rw [ez25.out]; exact Rz22.md.size
            have ne9_10 : g7 ≠ g8 := fun e => by have h1 := (kz20.out).lt; have h2 := ez25.out; omega
            have nbz30 := (kz20.out).grown qz27.out (by simp)
            refine hK.out _ _ (range_of (Reg.blk Rz28 B2.out NG2.out)) (fun hHeld => ?_)
            clear hK K
            try simp only [Act.put, List.setIfInBounds_toArray, List.set_cons_zero, List.set_cons_succ]
            refine wpAnyH_ready (rs := [11]) (by kernel_rfl) (by simp) ?_
            refine AllReadyH.cons (o := { dst := none, op := Op.store 24 (Operand.tmp 7) (Operand.tmp 21), type := 0, pos := "chain.go:29", after := #[{ on := 9, ground := Ground.data }, { on := 6, ground := Ground.data }, { on := 4, ground := Ground.chain }, { on := 0, ground := Ground.phase }, { on := 1, ground := Ground.phase }, { on := 2, ground := Ground.phase }, { on := 3, ground := Ground.phase }, { on := 4, ground := Ground.phase }, { on := 5, ground := Ground.phase }, { on := 6, ground := Ground.phase }, { on := 7, ground := Ground.textOnly Departure.lateStores }, { on := 8, ground := Ground.textOnly Departure.lateStores }, { on := 9, ground := Ground.phase }, { on := 10, ground := Ground.phase }], guard := none }) rfl (fun K hK => ?_) AllReadyH.nil
            rw [if_pos (by rfl)]
            refine wp_storeG agY _ _ rfl g7 rfl rfl (nbz30) (by rw [u8s_length, z32_length]) (by rw [u8s_length, HAL.out]) (u8s_one _) (fun vz31 kz32 qz33 zz34 => ?_)
            have Rz35 := Rz28.store qz33.out nz23 nz23w S4.out.two
            have nbz36 := (kz26.out).grown qz33.out (by simpa using (Ne.symm ne9_10))
            refine hK.out _ _ (range_of (Reg.blk Rz35 B2.out NG2.out)) (fun hHeld => ?_)
            clear hK K
            dsimp only [Act.put]
            refine wpAnyH_ready (rs := [12]) (by kernel_rfl) (by simp) ?_
            refine AllReadyH.cons (o := { dst := none, op := Op.store 24 (Operand.tmp 8) (Operand.tmp 22), type := 0, pos := "chain.go:29", after := #[{ on := 10, ground := Ground.data }, { on := 7, ground := Ground.data }, { on := 11, ground := Ground.chain }, { on := 0, ground := Ground.phase }, { on := 1, ground := Ground.phase }, { on := 2, ground := Ground.phase }, { on := 3, ground := Ground.phase }, { on := 4, ground := Ground.phase }, { on := 5, ground := Ground.phase }, { on := 6, ground := Ground.phase }, { on := 7, ground := Ground.phase }, { on := 8, ground := Ground.textOnly Departure.lateStores }, { on := 9, ground := Ground.phase }, { on := 10, ground := Ground.phase }, { on := 11, ground := Ground.phase }], guard := none }) rfl (fun K hK => ?_) AllReadyH.nil
            rw [if_pos (by rfl)]
            refine wp_storeG agY _ _ rfl g8 rfl rfl (nbz36) (by rw [u8s_length, z32_length]) (by rw [u8s_length, HBL.out]) (u8s_one _) (fun vz37 kz38 qz39 zz40 => ?_)
            have Rz41 := Rz35.store qz39.out nz29 nz29w S4.out.two
            have nbz42 := (kz32.out).grown qz39.out (by simpa using ne9_10)
            refine hK.out _ _ (range_of (Reg.blk Rz41 B2.out NG2.out)) (fun hHeld => ?_)
            clear hK K
            dsimp only [Act.put]
            refine wpAnyH_ready (rs := [13]) (by kernel_rfl) (by simp) ?_
            refine AllReadyH.cons (o := { dst := some 9, op := Op.assign (Operand.tmp 23), type := 4, pos := "chain.go:29", after := #[{ on := 8, ground := Ground.data }, { on := 12, ground := Ground.chain }, { on := 0, ground := Ground.phase }, { on := 1, ground := Ground.phase }, { on := 2, ground := Ground.phase }, { on := 3, ground := Ground.phase }, { on := 4, ground := Ground.phase }, { on := 5, ground := Ground.phase }, { on := 6, ground := Ground.phase }, { on := 7, ground := Ground.phase }, { on := 8, ground := Ground.phase }, { on := 9, ground := Ground.phase }, { on := 10, ground := Ground.phase }, { on := 11, ground := Ground.phase }, { on := 12, ground := Ground.phase }], guard := none }) rfl (fun K hK => ?_) AllReadyH.nil
            rw [if_pos (by rfl)]
            go_simp
            refine hK.out _ _ hHeld (fun hHeld => ?_)
            clear hK K
            try simp only [Act.put, List.setIfInBounds_toArray, List.set_cons_zero, List.set_cons_succ]
            refine wpAnyH_done (by kernel_rfl) ?_ _
            exact hrest_ _ _ _ gl ⟨Rz41.nx S4.out.lt, nbz42, kz38.out, nz23w, nz29w⟩
          · rw [if_pos (by rfl)]
            refine wp_allocG zeY rfl (fun g8 vz43 ez44 kz45 qz46 => ?_)
            have nz48 : ¬ (More ok vz4 vz10) g8 := Rz13.not_new (Nat.le_of_eq ez44.out.symm)
            have Rz47 := Rz13.alloc qz46.out
            have nz48w : w4.heap.size ≤ g8 := by rw [ez44.out]; exact Rz13.md.size
            refine hK.out _ _ (range_of (Reg.blk Rz47 B2.out NG2.out)) (fun hHeld => ?_)
            clear hK K
            try simp only [Act.put, List.setIfInBounds_toArray, List.set_cons_zero, List.set_cons_succ]
            refine wpAnyH_ready (rs := [9]) (by kernel_rfl) (by simp) ?_
            refine AllReadyH.cons (o := { dst := some 7, op := Op.alloc 24, type := 0, pos := "chain.go:29", after := #[], guard := none }) rfl (fun K hK => ?_) AllReadyH.nil
            rw [if_pos (by rfl)]
            refine wp_allocG zeY rfl (fun g7 vz49 ez50 kz51 qz52 => ?_)
            have nz54 : ¬ (More ok vz4 vz10) g7 := Rz47.not_new (Nat.le_of_eq ez50.out.symm)
            have Rz53 := Rz47.alloc qz52.out
            have nz54w : w4.heap.size ≤ g7 := by rw [ez50.out]; exact Rz47.md.size
            have ne9_10 : g8 ≠ g7 := fun e => by have h1 := (kz45.out).lt; have h2 := ez50.out; omega
            have nbz55 := (kz45.out).grown qz52.out (by simp)
            refine hK.out _ _ (range_of (Reg.blk Rz53 B2.out NG2.out)) (fun hHeld => ?_)
            clear hK K
            try simp only [Act.put, List.setIfInBounds_toArray, List.set_cons_zero, List.set_cons_succ]
            refine wpAnyH_ready (rs := [11]) (by kernel_rfl) (by simp) ?_
            refine AllReadyH.cons (o := { dst := none, op := Op.store 24 (Operand.tmp 7) (Operand.tmp 21), type := 0, pos := "chain.go:29", after := #[{ on := 9, ground := Ground.data }, { on := 6, ground := Ground.data }, { on := 4, ground := Ground.chain }, { on := 0, ground := Ground.phase }, { on := 1, ground := Ground.phase }, { on := 2, ground := Ground.phase }, { on := 3, ground := Ground.phase }, { on := 4, ground := Ground.phase }, { on := 5, ground := Ground.phase }, { on := 6, ground := Ground.phase }, { on := 7, ground := Ground.textOnly Departure.lateStores }, { on := 8, ground := Ground.textOnly Departure.lateStores }, { on := 9, ground := Ground.phase }, { on := 10, ground := Ground.phase }], guard := none }) rfl (fun K hK => ?_) AllReadyH.nil
            rw [if_pos (by rfl)]
            refine wp_storeG agY _ _ rfl g7 rfl rfl (kz51.out) (by rw [u8s_length, z32_length]) (by rw [u8s_length, HAL.out]) (u8s_one _) (fun vz56 kz57 qz58 zz59 => ?_)
            have Rz60 := Rz53.store qz58.out nz54 nz54w S4.out.two
            have nbz61 := (nbz55).grown qz58.out (by simpa using ne9_10)
            refine hK.out _ _ (range_of (Reg.blk Rz60 B2.out NG2.out)) (fun hHeld => ?_)
            clear hK K
            dsimp only [Act.put]
            refine wpAnyH_ready (rs := [12]) (by kernel_rfl) (by simp) ?_
            refine AllReadyH.cons (o := { dst := none, op := Op.store 24 (Operand.tmp 8) (Operand.tmp 22), type := 0, pos := "chain.go:29", after := #[{ on := 10, ground := Ground.data }, { on := 7, ground := Ground.data }, { on := 11, ground := Ground.chain }, { on := 0, ground := Ground.phase }, { on := 1, ground := Ground.phase }, { on := 2, ground := Ground.phase }, { on := 3, ground := Ground.phase }, { on := 4, ground := Ground.phase }, { on := 5, ground := Ground.phase }, { on := 6, ground := Ground.phase }, { on := 7, ground := Ground.phase }, { on := 8, ground := Ground.textOnly Departure.lateStores }, { on := 9, ground := Ground.phase }, { on := 10, ground := Ground.phase }, { on := 11, ground := Ground.phase }], guard := none }) rfl (fun K hK => ?_) AllReadyH.nil
            rw [if_pos (by rfl)]
            refine wp_storeG agY _ _ rfl g8 rfl rfl (nbz61) (by rw [u8s_length, z32_length]) (by rw [u8s_length, HBL.out]) (u8s_one _) (fun vz62 kz63 qz64 zz65 => ?_)
            have Rz66 := Rz60.store qz64.out nz48 nz48w S4.out.two
            have nbz67 := (kz57.out).grown qz64.out (by simpa using (Ne.symm ne9_10))
            refine hK.out _ _ (range_of (Reg.blk Rz66 B2.out NG2.out)) (fun hHeld => ?_)
            clear hK K
            dsimp only [Act.put]
            refine wpAnyH_ready (rs := [13]) (by kernel_rfl) (by simp) ?_
            refine AllReadyH.cons (o := { dst := some 9, op := Op.assign (Operand.tmp 23), type := 4, pos := "chain.go:29", after := #[{ on := 8, ground := Ground.data }, { on := 12, ground := Ground.chain }, { on := 0, ground := Ground.phase }, { on := 1, ground := Ground.phase }, { on := 2, ground := Ground.phase }, { on := 3, ground := Ground.phase }, { on := 4, ground := Ground.phase }, { on := 5, ground := Ground.phase }, { on := 6, ground := Ground.phase }, { on := 7, ground := Ground.phase }, { on := 8, ground := Ground.phase }, { on := 9, ground := Ground.phase }, { on := 10, ground := Ground.phase }, { on := 11, ground := Ground.phase }, { on := 12, ground := Ground.phase }], guard := none }) rfl (fun K hK => ?_) AllReadyH.nil
            rw [if_pos (by rfl)]
            go_simp
            refine hK.out _ _ hHeld (fun hHeld => ?_)
            clear hK K
            try simp only [Act.put, List.setIfInBounds_toArray, List.set_cons_zero, List.set_cons_succ]
            refine wpAnyH_done (by kernel_rfl) ?_ _
            exact hrest_ _ _ _ gl ⟨Rz66.nx S4.out.lt, nbz67, kz63.out, nz54w, nz48w⟩
        · rw [if_pos (by rfl)]
          refine wp_allocG zeY rfl (fun g7 vz68 ez69 kz70 qz71 => ?_)
          have nz73 : ¬ ok g7 := Rz9.not_new (Nat.le_of_eq ez69.out.symm)
          have Rz72 := Rz9.alloc qz71.out
          have nz73w : w4.heap.size ≤ g7 := by rw [ez69.out]; exact Rz9.md.size
          have dz76 : ∀ b, (b = g3 ∨ b = gl) → b < vz4.heap.size ∧ ¬ ok b := (fun b hb => hb.elim (fun e => by rw [e]; exact ⟨(Reg.blk Rz9 B3.out NG3.out).lt, NG3.out⟩) (fun e => by rw [e]; exact ⟨hll, nlz8⟩))
          have lz74 := lz7.keep fun b hb => qz71.out.block b (dz76 b hb).1 (by simp)
          have hllz75 := Nat.lt_of_lt_of_le hll qz71.out.size
          refine hK.out _ _ (range_of (Reg.blk Rz72 B2.out NG2.out)) (fun hHeld => ?_)
          clear hK K
          try simp only [Act.put, List.setIfInBounds_toArray, List.set_cons_zero, List.set_cons_succ]
          refine wpAnyH_ready (rs := [4, 10]) (by kernel_rfl) (by simp) ?_
          refine AllReadyH.cons (o := { dst := some 20, op := Op.call { callee := Callee.value (Operand.func 23), args := #[Operand.tmp 16, Operand.const (Value.int IntKind.u8 77), Operand.const (Value.int IntKind.u8 78), Operand.tmp 19], argTypes := #[29, 5, 5, 75] }, type := 25, pos := "chain.go:29", after := #[{ on := 0, ground := Ground.data }, { on := 3, ground := Ground.data }], guard := none }) rfl (fun K hK => ?_) (AllReadyH.cons (o := { dst := some 8, op := Op.alloc 24, type := 0, pos := "chain.go:29", after := #[], guard := none }) rfl (fun K hK => ?_) AllReadyH.nil)
          · rw [if_pos (by rfl)]
            go_simp
            have hcz79 : Calls Tryd.prog 23 #[.agg #[pv], .int .u8 77, .int .u8 78, .slice (some ⟨gl, 0, none⟩) 1 1] vz68 fun e w' => e = .returned (.tuple #[.agg (u8s a).toArray, .agg (u8s b).toArray, .bool true]) ∧ Nx vz68 ok p σ2 w' := by
              have h := mixes_any (c := 1) 77 78 Rz72.sui HR.out lz74 (fun b hb => hb.elim (fun e => by rw [e]; exact ⟨(Reg.blk Rz72 B3.out NG3.out).lt, NG3.out⟩) (fun e => by rw [e]; exact ⟨hllz75, nlz8⟩)) rfl (mixOk_one HK.out)
              rw [HTAB.out] at h
              refine h.mono fun e w' ⟨he, hn⟩ => ⟨?_, by rw [H2.out]; exact hn⟩
              rw [HA.out, HB.out]
              exact he
            with_reducible refine hcz79.mono ?_
            rintro _ vz77 ⟨rfl, nxz78⟩
            have Rz80 := Rz72.call nxz78
            have nz81 : ¬ More ok vz68 vz77 g7 := More.not nz73 (kz70.out).lt
            have nz81b := (Nx.blk nxz78 (kz70.out) nz73)
            refine hK.out _ _ (range_of (Reg.blk Rz80 B2.out NG2.out)) (fun hHeld => ?_)
            clear hK K
            try simp only [Act.put, List.setIfInBounds_toArray, List.set_cons_zero, List.set_cons_succ]
            refine' wpAnyH_take (i := 5) (oi := { dst := some 15, op := Op.move (Operand.tmp 20), type := 25, pos := "chain.go:29", after := #[{ on := 4, ground := Ground.data }], guard := none }) (v := .tuple #[.agg (u8s a).toArray, .agg (u8s b).toArray, .bool true]) rfl (by kernel_rfl) (by kernel_rfl) (by kernel_rfl) (fun _ _ _ h => h) (Or.inl ⟨by rfl, fun _ _ => rfl⟩) (by assumption) ?qz82
            try simp only [Act.put, List.setIfInBounds_toArray, List.set_cons_zero, List.set_cons_succ]
            refine' wpAnyH_take (i := 6) (oi := { dst := some 21, op := Op.extract (Operand.tmp 15) 0, type := 24, pos := "chain.go:29", after := #[{ on := 5, ground := Ground.data }], guard := none }) (v := .agg (u8s a).toArray) rfl (by kernel_rfl) (by kernel_rfl) (by kernel_rfl) (fun _ _ _ h => h) (Or.inl ⟨by rfl, fun _ _ => rfl⟩) (by assumption) ?qz83
            try simp only [Act.put, List.setIfInBounds_toArray, List.set_cons_zero, List.set_cons_succ]
            refine' wpAnyH_take (i := 7) (oi := { dst := some 22, op := Op.extract (Operand.tmp 15) 1, type := 24, pos := "chain.go:29", after := #[{ on := 5, ground := Ground.data }, { on := 11, ground := Ground.gcOnly Departure.lateStores }], guard := none }) (v := .agg (u8s b).toArray) rfl (by kernel_rfl) (by kernel_rfl) (by kernel_rfl) (fun _ _ _ h => h) (Or.inl ⟨by rfl, fun _ _ => rfl⟩) (by assumption) ?qz84
            try simp only [Act.put, List.setIfInBounds_toArray, List.set_cons_zero, List.set_cons_succ]
            refine' wpAnyH_take (i := 8) (oi := { dst := some 23, op := Op.extract (Operand.tmp 15) 2, type := 4, pos := "chain.go:29", after := #[{ on := 5, ground := Ground.data }, { on := 12, ground := Ground.gcOnly Departure.lateStores }], guard := none }) (v := .bool true) rfl (by kernel_rfl) (by kernel_rfl) (by kernel_rfl) (fun _ _ _ h => h) (Or.inl ⟨by rfl, fun _ _ => rfl⟩) (by assumption) ?qz85
            try simp only [Act.put, List.setIfInBounds_toArray, List.set_cons_zero, List.set_cons_succ]
            refine wpAnyH_ready (rs := [10]) (by kernel_rfl) (by simp) ?_
            refine AllReadyH.cons (o := { dst := some 8, op := Op.alloc 24, type := 0, pos := "chain.go:29", after := #[], guard := none }) rfl (fun K hK => ?_) AllReadyH.nil
            rw [if_pos (by rfl)]
            refine wp_allocG zeY rfl (fun g8 vz86 ez87 kz88 qz89 => ?_)
            have nz91 : ¬ (More ok vz68 vz77) g8 := Rz80.not_new (Nat.le_of_eq ez87.out.symm)
            have Rz90 := Rz80.alloc qz89.out
            have nz91w : w4.heap.size ≤ g8 := by rw [ez87.out]; exact Rz80.md.size
            have ne9_10 : g7 ≠ g8 := fun e => by have h1 := (nz81b).lt; have h2 := ez87.out; omega
            have nbz92 := (nz81b).grown qz89.out (by simp)
            refine hK.out _ _ (range_of (Reg.blk Rz90 B2.out NG2.out)) (fun hHeld => ?_)
            clear hK K
            try simp only [Act.put, List.setIfInBounds_toArray, List.set_cons_zero, List.set_cons_succ]
            refine wpAnyH_ready (rs := [11]) (by kernel_rfl) (by simp) ?_
            refine AllReadyH.cons (o := { dst := none, op := Op.store 24 (Operand.tmp 7) (Operand.tmp 21), type := 0, pos := "chain.go:29", after := #[{ on := 9, ground := Ground.data }, { on := 6, ground := Ground.data }, { on := 4, ground := Ground.chain }, { on := 0, ground := Ground.phase }, { on := 1, ground := Ground.phase }, { on := 2, ground := Ground.phase }, { on := 3, ground := Ground.phase }, { on := 4, ground := Ground.phase }, { on := 5, ground := Ground.phase }, { on := 6, ground := Ground.phase }, { on := 7, ground := Ground.textOnly Departure.lateStores }, { on := 8, ground := Ground.textOnly Departure.lateStores }, { on := 9, ground := Ground.phase }, { on := 10, ground := Ground.phase }], guard := none }) rfl (fun K hK => ?_) AllReadyH.nil
            rw [if_pos (by rfl)]
            refine wp_storeG agY _ _ rfl g7 rfl rfl (nbz92) (by rw [u8s_length, z32_length]) (by rw [u8s_length, HAL.out]) (u8s_one _) (fun vz93 kz94 qz95 zz96 => ?_)
            have Rz97 := Rz90.store qz95.out nz81 nz73w S4.out.two
            have nbz98 := (kz88.out).grown qz95.out (by simpa using (Ne.symm ne9_10))
            refine hK.out _ _ (range_of (Reg.blk Rz97 B2.out NG2.out)) (fun hHeld => ?_)
            clear hK K
            dsimp only [Act.put]
            refine wpAnyH_ready (rs := [12]) (by kernel_rfl) (by simp) ?_
            refine AllReadyH.cons (o := { dst := none, op := Op.store 24 (Operand.tmp 8) (Operand.tmp 22), type := 0, pos := "chain.go:29", after := #[{ on := 10, ground := Ground.data }, { on := 7, ground := Ground.data }, { on := 11, ground := Ground.chain }, { on := 0, ground := Ground.phase }, { on := 1, ground := Ground.phase }, { on := 2, ground := Ground.phase }, { on := 3, ground := Ground.phase }, { on := 4, ground := Ground.phase }, { on := 5, ground := Ground.phase }, { on := 6, ground := Ground.phase }, { on := 7, ground := Ground.phase }, { on := 8, ground := Ground.textOnly Departure.lateStores }, { on := 9, ground := Ground.phase }, { on := 10, ground := Ground.phase }, { on := 11, ground := Ground.phase }], guard := none }) rfl (fun K hK => ?_) AllReadyH.nil
            rw [if_pos (by rfl)]
            refine wp_storeG agY _ _ rfl g8 rfl rfl (nbz98) (by rw [u8s_length, z32_length]) (by rw [u8s_length, HBL.out]) (u8s_one _) (fun vz99 kz100 qz101 zz102 => ?_)
            have Rz103 := Rz97.store qz101.out nz91 nz91w S4.out.two
            have nbz104 := (kz94.out).grown qz101.out (by simpa using ne9_10)
            refine hK.out _ _ (range_of (Reg.blk Rz103 B2.out NG2.out)) (fun hHeld => ?_)
            clear hK K
            dsimp only [Act.put]
            refine wpAnyH_ready (rs := [13]) (by kernel_rfl) (by simp) ?_
            refine AllReadyH.cons (o := { dst := some 9, op := Op.assign (Operand.tmp 23), type := 4, pos := "chain.go:29", after := #[{ on := 8, ground := Ground.data }, { on := 12, ground := Ground.chain }, { on := 0, ground := Ground.phase }, { on := 1, ground := Ground.phase }, { on := 2, ground := Ground.phase }, { on := 3, ground := Ground.phase }, { on := 4, ground := Ground.phase }, { on := 5, ground := Ground.phase }, { on := 6, ground := Ground.phase }, { on := 7, ground := Ground.phase }, { on := 8, ground := Ground.phase }, { on := 9, ground := Ground.phase }, { on := 10, ground := Ground.phase }, { on := 11, ground := Ground.phase }, { on := 12, ground := Ground.phase }], guard := none }) rfl (fun K hK => ?_) AllReadyH.nil
            rw [if_pos (by rfl)]
            go_simp
            refine hK.out _ _ hHeld (fun hHeld => ?_)
            clear hK K
            try simp only [Act.put, List.setIfInBounds_toArray, List.set_cons_zero, List.set_cons_succ]
            refine wpAnyH_done (by kernel_rfl) ?_ _
            exact hrest_ _ _ _ gl ⟨Rz103.nx S4.out.lt, nbz104, kz100.out, nz73w, nz91w⟩
          · rw [if_pos (by rfl)]
            refine wp_allocG zeY rfl (fun g8 vz105 ez106 kz107 qz108 => ?_)
            have nz110 : ¬ ok g8 := Rz72.not_new (Nat.le_of_eq ez106.out.symm)
            have Rz109 := Rz72.alloc qz108.out
            have nz110w : w4.heap.size ≤ g8 := by rw [ez106.out]; exact Rz72.md.size
            have ne9_10 : g7 ≠ g8 := fun e => by have h1 := (kz70.out).lt; have h2 := ez106.out; omega
            have nbz111 := (kz70.out).grown qz108.out (by simp)
            have dz114 : ∀ b, (b = g3 ∨ b = gl) → b < vz68.heap.size ∧ ¬ ok b := (fun b hb => hb.elim (fun e => by rw [e]; exact ⟨(Reg.blk Rz72 B3.out NG3.out).lt, NG3.out⟩) (fun e => by rw [e]; exact ⟨hllz75, nlz8⟩))
            have lz112 := lz74.keep fun b hb => qz108.out.block b (dz114 b hb).1 (by simp)
            have hllz113 := Nat.lt_of_lt_of_le hllz75 qz108.out.size
            refine hK.out _ _ (range_of (Reg.blk Rz109 B2.out NG2.out)) (fun hHeld => ?_)
            clear hK K
            try simp only [Act.put, List.setIfInBounds_toArray, List.set_cons_zero, List.set_cons_succ]
            refine wpAnyH_ready (rs := [4]) (by kernel_rfl) (by simp) ?_
            refine AllReadyH.cons (o := { dst := some 20, op := Op.call { callee := Callee.value (Operand.func 23), args := #[Operand.tmp 16, Operand.const (Value.int IntKind.u8 77), Operand.const (Value.int IntKind.u8 78), Operand.tmp 19], argTypes := #[29, 5, 5, 75] }, type := 25, pos := "chain.go:29", after := #[{ on := 0, ground := Ground.data }, { on := 3, ground := Ground.data }], guard := none }) rfl (fun K hK => ?_) AllReadyH.nil
            rw [if_pos (by rfl)]
            go_simp
            have hcz117 : Calls Tryd.prog 23 #[.agg #[pv], .int .u8 77, .int .u8 78, .slice (some ⟨gl, 0, none⟩) 1 1] vz105 fun e w' => e = .returned (.tuple #[.agg (u8s a).toArray, .agg (u8s b).toArray, .bool true]) ∧ Nx vz105 ok p σ2 w' := by
              have h := mixes_any (c := 1) 77 78 Rz109.sui HR.out lz112 (fun b hb => hb.elim (fun e => by rw [e]; exact ⟨(Reg.blk Rz109 B3.out NG3.out).lt, NG3.out⟩) (fun e => by rw [e]; exact ⟨hllz113, nlz8⟩)) rfl (mixOk_one HK.out)
              rw [HTAB.out] at h
              refine h.mono fun e w' ⟨he, hn⟩ => ⟨?_, by rw [H2.out]; exact hn⟩
              rw [HA.out, HB.out]
              exact he
            with_reducible refine hcz117.mono ?_
            rintro _ vz115 ⟨rfl, nxz116⟩
            have Rz118 := Rz109.call nxz116
            have nz119 : ¬ More ok vz105 vz115 g7 := More.not nz73 (nbz111).lt
            have nz119b := (Nx.blk nxz116 (nbz111) nz73)
            have nz120 : ¬ More ok vz105 vz115 g8 := More.not nz110 (kz107.out).lt
            have nz120b := (Nx.blk nxz116 (kz107.out) nz110)
            refine hK.out _ _ (range_of (Reg.blk Rz118 B2.out NG2.out)) (fun hHeld => ?_)
            clear hK K
            try simp only [Act.put, List.setIfInBounds_toArray, List.set_cons_zero, List.set_cons_succ]
            refine' wpAnyH_take (i := 5) (oi := { dst := some 15, op := Op.move (Operand.tmp 20), type := 25, pos := "chain.go:29", after := #[{ on := 4, ground := Ground.data }], guard := none }) (v := .tuple #[.agg (u8s a).toArray, .agg (u8s b).toArray, .bool true]) rfl (by kernel_rfl) (by kernel_rfl) (by kernel_rfl) (fun _ _ _ h => h) (Or.inl ⟨by rfl, fun _ _ => rfl⟩) (by assumption) ?qz121
            try simp only [Act.put, List.setIfInBounds_toArray, List.set_cons_zero, List.set_cons_succ]
            refine' wpAnyH_take (i := 6) (oi := { dst := some 21, op := Op.extract (Operand.tmp 15) 0, type := 24, pos := "chain.go:29", after := #[{ on := 5, ground := Ground.data }], guard := none }) (v := .agg (u8s a).toArray) rfl (by kernel_rfl) (by kernel_rfl) (by kernel_rfl) (fun _ _ _ h => h) (Or.inl ⟨by rfl, fun _ _ => rfl⟩) (by assumption) ?qz122
            try simp only [Act.put, List.setIfInBounds_toArray, List.set_cons_zero, List.set_cons_succ]
            refine' wpAnyH_take (i := 7) (oi := { dst := some 22, op := Op.extract (Operand.tmp 15) 1, type := 24, pos := "chain.go:29", after := #[{ on := 5, ground := Ground.data }, { on := 11, ground := Ground.gcOnly Departure.lateStores }], guard := none }) (v := .agg (u8s b).toArray) rfl (by kernel_rfl) (by kernel_rfl) (by kernel_rfl) (fun _ _ _ h => h) (Or.inl ⟨by rfl, fun _ _ => rfl⟩) (by assumption) ?qz123
            try simp only [Act.put, List.setIfInBounds_toArray, List.set_cons_zero, List.set_cons_succ]
            refine' wpAnyH_take (i := 8) (oi := { dst := some 23, op := Op.extract (Operand.tmp 15) 2, type := 4, pos := "chain.go:29", after := #[{ on := 5, ground := Ground.data }, { on := 12, ground := Ground.gcOnly Departure.lateStores }], guard := none }) (v := .bool true) rfl (by kernel_rfl) (by kernel_rfl) (by kernel_rfl) (fun _ _ _ h => h) (Or.inl ⟨by rfl, fun _ _ => rfl⟩) (by assumption) ?qz124
            try simp only [Act.put, List.setIfInBounds_toArray, List.set_cons_zero, List.set_cons_succ]
            refine wpAnyH_ready (rs := [11]) (by kernel_rfl) (by simp) ?_
            refine AllReadyH.cons (o := { dst := none, op := Op.store 24 (Operand.tmp 7) (Operand.tmp 21), type := 0, pos := "chain.go:29", after := #[{ on := 9, ground := Ground.data }, { on := 6, ground := Ground.data }, { on := 4, ground := Ground.chain }, { on := 0, ground := Ground.phase }, { on := 1, ground := Ground.phase }, { on := 2, ground := Ground.phase }, { on := 3, ground := Ground.phase }, { on := 4, ground := Ground.phase }, { on := 5, ground := Ground.phase }, { on := 6, ground := Ground.phase }, { on := 7, ground := Ground.textOnly Departure.lateStores }, { on := 8, ground := Ground.textOnly Departure.lateStores }, { on := 9, ground := Ground.phase }, { on := 10, ground := Ground.phase }], guard := none }) rfl (fun K hK => ?_) AllReadyH.nil
            rw [if_pos (by rfl)]
            refine wp_storeG agY _ _ rfl g7 rfl rfl (nz119b) (by rw [u8s_length, z32_length]) (by rw [u8s_length, HAL.out]) (u8s_one _) (fun vz125 kz126 qz127 zz128 => ?_)
            have Rz129 := Rz118.store qz127.out nz119 nz73w S4.out.two
            have nbz130 := (nz120b).grown qz127.out (by simpa using (Ne.symm ne9_10))
            refine hK.out _ _ (range_of (Reg.blk Rz129 B2.out NG2.out)) (fun hHeld => ?_)
            clear hK K
            dsimp only [Act.put]
            refine wpAnyH_ready (rs := [12]) (by kernel_rfl) (by simp) ?_
            refine AllReadyH.cons (o := { dst := none, op := Op.store 24 (Operand.tmp 8) (Operand.tmp 22), type := 0, pos := "chain.go:29", after := #[{ on := 10, ground := Ground.data }, { on := 7, ground := Ground.data }, { on := 11, ground := Ground.chain }, { on := 0, ground := Ground.phase }, { on := 1, ground := Ground.phase }, { on := 2, ground := Ground.phase }, { on := 3, ground := Ground.phase }, { on := 4, ground := Ground.phase }, { on := 5, ground := Ground.phase }, { on := 6, ground := Ground.phase }, { on := 7, ground := Ground.phase }, { on := 8, ground := Ground.textOnly Departure.lateStores }, { on := 9, ground := Ground.phase }, { on := 10, ground := Ground.phase }, { on := 11, ground := Ground.phase }], guard := none }) rfl (fun K hK => ?_) AllReadyH.nil
            rw [if_pos (by rfl)]
            refine wp_storeG agY _ _ rfl g8 rfl rfl (nbz130) (by rw [u8s_length, z32_length]) (by rw [u8s_length, HBL.out]) (u8s_one _) (fun vz131 kz132 qz133 zz134 => ?_)
            have Rz135 := Rz129.store qz133.out nz120 nz110w S4.out.two
            have nbz136 := (kz126.out).grown qz133.out (by simpa using ne9_10)
            refine hK.out _ _ (range_of (Reg.blk Rz135 B2.out NG2.out)) (fun hHeld => ?_)
            clear hK K
            dsimp only [Act.put]
            refine wpAnyH_ready (rs := [13]) (by kernel_rfl) (by simp) ?_
            refine AllReadyH.cons (o := { dst := some 9, op := Op.assign (Operand.tmp 23), type := 4, pos := "chain.go:29", after := #[{ on := 8, ground := Ground.data }, { on := 12, ground := Ground.chain }, { on := 0, ground := Ground.phase }, { on := 1, ground := Ground.phase }, { on := 2, ground := Ground.phase }, { on := 3, ground := Ground.phase }, { on := 4, ground := Ground.phase }, { on := 5, ground := Ground.phase }, { on := 6, ground := Ground.phase }, { on := 7, ground := Ground.phase }, { on := 8, ground := Ground.phase }, { on := 9, ground := Ground.phase }, { on := 10, ground := Ground.phase }, { on := 11, ground := Ground.phase }, { on := 12, ground := Ground.phase }], guard := none }) rfl (fun K hK => ?_) AllReadyH.nil
            rw [if_pos (by rfl)]
            go_simp
            refine hK.out _ _ hHeld (fun hHeld => ?_)
            clear hK K
            try simp only [Act.put, List.setIfInBounds_toArray, List.set_cons_zero, List.set_cons_succ]
            refine wpAnyH_done (by kernel_rfl) ?_ _
            exact hrest_ _ _ _ gl ⟨Rz135.nx S4.out.lt, nbz136, kz132.out, nz73w, nz110w⟩
        · rw [if_pos (by rfl)]
          refine wp_allocG zeY rfl (fun g8 vz137 ez138 kz139 qz140 => ?_)
          have nz142 : ¬ ok g8 := Rz9.not_new (Nat.le_of_eq ez138.out.symm)
          have Rz141 := Rz9.alloc qz140.out
          have nz142w : w4.heap.size ≤ g8 := by rw [ez138.out]; exact Rz9.md.size
          have dz145 : ∀ b, (b = g3 ∨ b = gl) → b < vz4.heap.size ∧ ¬ ok b := (fun b hb => hb.elim (fun e => by rw [e]; exact ⟨(Reg.blk Rz9 B3.out NG3.out).lt, NG3.out⟩) (fun e => by rw [e]; exact ⟨hll, nlz8⟩))
          have lz143 := lz7.keep fun b hb => qz140.out.block b (dz145 b hb).1 (by simp)
          have hllz144 := Nat.lt_of_lt_of_le hll qz140.out.size
          refine hK.out _ _ (range_of (Reg.blk Rz141 B2.out NG2.out)) (fun hHeld => ?_)
          clear hK K
          try simp only [Act.put, List.setIfInBounds_toArray, List.set_cons_zero, List.set_cons_succ]
          refine wpAnyH_ready (rs := [4, 9]) (by kernel_rfl) (by simp) ?_
          refine AllReadyH.cons (o := { dst := some 20, op := Op.call { callee := Callee.value (Operand.func 23), args := #[Operand.tmp 16, Operand.const (Value.int IntKind.u8 77), Operand.const (Value.int IntKind.u8 78), Operand.tmp 19], argTypes := #[29, 5, 5, 75] }, type := 25, pos := "chain.go:29", after := #[{ on := 0, ground := Ground.data }, { on := 3, ground := Ground.data }], guard := none }) rfl (fun K hK => ?_) (AllReadyH.cons (o := { dst := some 7, op := Op.alloc 24, type := 0, pos := "chain.go:29", after := #[], guard := none }) rfl (fun K hK => ?_) AllReadyH.nil)
          · rw [if_pos (by rfl)]
            go_simp
            have hcz148 : Calls Tryd.prog 23 #[.agg #[pv], .int .u8 77, .int .u8 78, .slice (some ⟨gl, 0, none⟩) 1 1] vz137 fun e w' => e = .returned (.tuple #[.agg (u8s a).toArray, .agg (u8s b).toArray, .bool true]) ∧ Nx vz137 ok p σ2 w' := by
              have h := mixes_any (c := 1) 77 78 Rz141.sui HR.out lz143 (fun b hb => hb.elim (fun e => by rw [e]; exact ⟨(Reg.blk Rz141 B3.out NG3.out).lt, NG3.out⟩) (fun e => by rw [e]; exact ⟨hllz144, nlz8⟩)) rfl (mixOk_one HK.out)
              rw [HTAB.out] at h
              refine h.mono fun e w' ⟨he, hn⟩ => ⟨?_, by rw [H2.out]; exact hn⟩
              rw [HA.out, HB.out]
              exact he
            with_reducible refine hcz148.mono ?_
            rintro _ vz146 ⟨rfl, nxz147⟩
            have Rz149 := Rz141.call nxz147
            have nz150 : ¬ More ok vz137 vz146 g8 := More.not nz142 (kz139.out).lt
            have nz150b := (Nx.blk nxz147 (kz139.out) nz142)
            refine hK.out _ _ (range_of (Reg.blk Rz149 B2.out NG2.out)) (fun hHeld => ?_)
            clear hK K
            try simp only [Act.put, List.setIfInBounds_toArray, List.set_cons_zero, List.set_cons_succ]
            refine' wpAnyH_take (i := 5) (oi := { dst := some 15, op := Op.move (Operand.tmp 20), type := 25, pos := "chain.go:29", after := #[{ on := 4, ground := Ground.data }], guard := none }) (v := .tuple #[.agg (u8s a).toArray, .agg (u8s b).toArray, .bool true]) rfl (by kernel_rfl) (by kernel_rfl) (by kernel_rfl) (fun _ _ _ h => h) (Or.inl ⟨by rfl, fun _ _ => rfl⟩) (by assumption) ?qz151
            try simp only [Act.put, List.setIfInBounds_toArray, List.set_cons_zero, List.set_cons_succ]
            refine' wpAnyH_take (i := 6) (oi := { dst := some 21, op := Op.extract (Operand.tmp 15) 0, type := 24, pos := "chain.go:29", after := #[{ on := 5, ground := Ground.data }], guard := none }) (v := .agg (u8s a).toArray) rfl (by kernel_rfl) (by kernel_rfl) (by kernel_rfl) (fun _ _ _ h => h) (Or.inl ⟨by rfl, fun _ _ => rfl⟩) (by assumption) ?qz152
            try simp only [Act.put, List.setIfInBounds_toArray, List.set_cons_zero, List.set_cons_succ]
            refine' wpAnyH_take (i := 7) (oi := { dst := some 22, op := Op.extract (Operand.tmp 15) 1, type := 24, pos := "chain.go:29", after := #[{ on := 5, ground := Ground.data }, { on := 11, ground := Ground.gcOnly Departure.lateStores }], guard := none }) (v := .agg (u8s b).toArray) rfl (by kernel_rfl) (by kernel_rfl) (by kernel_rfl) (fun _ _ _ h => h) (Or.inl ⟨by rfl, fun _ _ => rfl⟩) (by assumption) ?qz153
            try simp only [Act.put, List.setIfInBounds_toArray, List.set_cons_zero, List.set_cons_succ]
            refine' wpAnyH_take (i := 8) (oi := { dst := some 23, op := Op.extract (Operand.tmp 15) 2, type := 4, pos := "chain.go:29", after := #[{ on := 5, ground := Ground.data }, { on := 12, ground := Ground.gcOnly Departure.lateStores }], guard := none }) (v := .bool true) rfl (by kernel_rfl) (by kernel_rfl) (by kernel_rfl) (fun _ _ _ h => h) (Or.inl ⟨by rfl, fun _ _ => rfl⟩) (by assumption) ?qz154
            try simp only [Act.put, List.setIfInBounds_toArray, List.set_cons_zero, List.set_cons_succ]
            refine wpAnyH_ready (rs := [9]) (by kernel_rfl) (by simp) ?_
            refine AllReadyH.cons (o := { dst := some 7, op := Op.alloc 24, type := 0, pos := "chain.go:29", after := #[], guard := none }) rfl (fun K hK => ?_) AllReadyH.nil
            rw [if_pos (by rfl)]
            refine wp_allocG zeY rfl (fun g7 vz155 ez156 kz157 qz158 => ?_)
            have nz160 : ¬ (More ok vz137 vz146) g7 := Rz149.not_new (Nat.le_of_eq ez156.out.symm)
            have Rz159 := Rz149.alloc qz158.out
            have nz160w : w4.heap.size ≤ g7 := by rw [ez156.out]; exact Rz149.md.size
            have ne9_10 : g8 ≠ g7 := fun e => by have h1 := (nz150b).lt; have h2 := ez156.out; omega
            have nbz161 := (nz150b).grown qz158.out (by simp)
            refine hK.out _ _ (range_of (Reg.blk Rz159 B2.out NG2.out)) (fun hHeld => ?_)
            clear hK K
            try simp only [Act.put, List.setIfInBounds_toArray, List.set_cons_zero, List.set_cons_succ]
            refine wpAnyH_ready (rs := [11]) (by kernel_rfl) (by simp) ?_
            refine AllReadyH.cons (o := { dst := none, op := Op.store 24 (Operand.tmp 7) (Operand.tmp 21), type := 0, pos := "chain.go:29", after := #[{ on := 9, ground := Ground.data }, { on := 6, ground := Ground.data }, { on := 4, ground := Ground.chain }, { on := 0, ground := Ground.phase }, { on := 1, ground := Ground.phase }, { on := 2, ground := Ground.phase }, { on := 3, ground := Ground.phase }, { on := 4, ground := Ground.phase }, { on := 5, ground := Ground.phase }, { on := 6, ground := Ground.phase }, { on := 7, ground := Ground.textOnly Departure.lateStores }, { on := 8, ground := Ground.textOnly Departure.lateStores }, { on := 9, ground := Ground.phase }, { on := 10, ground := Ground.phase }], guard := none }) rfl (fun K hK => ?_) AllReadyH.nil
            rw [if_pos (by rfl)]
            refine wp_storeG agY _ _ rfl g7 rfl rfl (kz157.out) (by rw [u8s_length, z32_length]) (by rw [u8s_length, HAL.out]) (u8s_one _) (fun vz162 kz163 qz164 zz165 => ?_)
            have Rz166 := Rz159.store qz164.out nz160 nz160w S4.out.two
            have nbz167 := (nbz161).grown qz164.out (by simpa using ne9_10)
            refine hK.out _ _ (range_of (Reg.blk Rz166 B2.out NG2.out)) (fun hHeld => ?_)
            clear hK K
            dsimp only [Act.put]
            refine wpAnyH_ready (rs := [12]) (by kernel_rfl) (by simp) ?_
            refine AllReadyH.cons (o := { dst := none, op := Op.store 24 (Operand.tmp 8) (Operand.tmp 22), type := 0, pos := "chain.go:29", after := #[{ on := 10, ground := Ground.data }, { on := 7, ground := Ground.data }, { on := 11, ground := Ground.chain }, { on := 0, ground := Ground.phase }, { on := 1, ground := Ground.phase }, { on := 2, ground := Ground.phase }, { on := 3, ground := Ground.phase }, { on := 4, ground := Ground.phase }, { on := 5, ground := Ground.phase }, { on := 6, ground := Ground.phase }, { on := 7, ground := Ground.phase }, { on := 8, ground := Ground.textOnly Departure.lateStores }, { on := 9, ground := Ground.phase }, { on := 10, ground := Ground.phase }, { on := 11, ground := Ground.phase }], guard := none }) rfl (fun K hK => ?_) AllReadyH.nil
            rw [if_pos (by rfl)]
            refine wp_storeG agY _ _ rfl g8 rfl rfl (nbz167) (by rw [u8s_length, z32_length]) (by rw [u8s_length, HBL.out]) (u8s_one _) (fun vz168 kz169 qz170 zz171 => ?_)
            have Rz172 := Rz166.store qz170.out nz150 nz142w S4.out.two
            have nbz173 := (kz163.out).grown qz170.out (by simpa using (Ne.symm ne9_10))
            refine hK.out _ _ (range_of (Reg.blk Rz172 B2.out NG2.out)) (fun hHeld => ?_)
            clear hK K
            dsimp only [Act.put]
            refine wpAnyH_ready (rs := [13]) (by kernel_rfl) (by simp) ?_
            refine AllReadyH.cons (o := { dst := some 9, op := Op.assign (Operand.tmp 23), type := 4, pos := "chain.go:29", after := #[{ on := 8, ground := Ground.data }, { on := 12, ground := Ground.chain }, { on := 0, ground := Ground.phase }, { on := 1, ground := Ground.phase }, { on := 2, ground := Ground.phase }, { on := 3, ground := Ground.phase }, { on := 4, ground := Ground.phase }, { on := 5, ground := Ground.phase }, { on := 6, ground := Ground.phase }, { on := 7, ground := Ground.phase }, { on := 8, ground := Ground.phase }, { on := 9, ground := Ground.phase }, { on := 10, ground := Ground.phase }, { on := 11, ground := Ground.phase }, { on := 12, ground := Ground.phase }], guard := none }) rfl (fun K hK => ?_) AllReadyH.nil
            rw [if_pos (by rfl)]
            go_simp
            refine hK.out _ _ hHeld (fun hHeld => ?_)
            clear hK K
            try simp only [Act.put, List.setIfInBounds_toArray, List.set_cons_zero, List.set_cons_succ]
            refine wpAnyH_done (by kernel_rfl) ?_ _
            exact hrest_ _ _ _ gl ⟨Rz172.nx S4.out.lt, nbz173, kz169.out, nz160w, nz142w⟩
          · rw [if_pos (by rfl)]
            refine wp_allocG zeY rfl (fun g7 vz174 ez175 kz176 qz177 => ?_)
            have nz179 : ¬ ok g7 := Rz141.not_new (Nat.le_of_eq ez175.out.symm)
            have Rz178 := Rz141.alloc qz177.out
            have nz179w : w4.heap.size ≤ g7 := by rw [ez175.out]; exact Rz141.md.size
            have ne9_10 : g8 ≠ g7 := fun e => by have h1 := (kz139.out).lt; have h2 := ez175.out; omega
            have nbz180 := (kz139.out).grown qz177.out (by simp)
            have dz183 : ∀ b, (b = g3 ∨ b = gl) → b < vz137.heap.size ∧ ¬ ok b := (fun b hb => hb.elim (fun e => by rw [e]; exact ⟨(Reg.blk Rz141 B3.out NG3.out).lt, NG3.out⟩) (fun e => by rw [e]; exact ⟨hllz144, nlz8⟩))
            have lz181 := lz143.keep fun b hb => qz177.out.block b (dz183 b hb).1 (by simp)
            have hllz182 := Nat.lt_of_lt_of_le hllz144 qz177.out.size
            refine hK.out _ _ (range_of (Reg.blk Rz178 B2.out NG2.out)) (fun hHeld => ?_)
            clear hK K
            try simp only [Act.put, List.setIfInBounds_toArray, List.set_cons_zero, List.set_cons_succ]
            refine wpAnyH_ready (rs := [4]) (by kernel_rfl) (by simp) ?_
            refine AllReadyH.cons (o := { dst := some 20, op := Op.call { callee := Callee.value (Operand.func 23), args := #[Operand.tmp 16, Operand.const (Value.int IntKind.u8 77), Operand.const (Value.int IntKind.u8 78), Operand.tmp 19], argTypes := #[29, 5, 5, 75] }, type := 25, pos := "chain.go:29", after := #[{ on := 0, ground := Ground.data }, { on := 3, ground := Ground.data }], guard := none }) rfl (fun K hK => ?_) AllReadyH.nil
            rw [if_pos (by rfl)]
            go_simp
            have hcz186 : Calls Tryd.prog 23 #[.agg #[pv], .int .u8 77, .int .u8 78, .slice (some ⟨gl, 0, none⟩) 1 1] vz174 fun e w' => e = .returned (.tuple #[.agg (u8s a).toArray, .agg (u8s b).toArray, .bool true]) ∧ Nx vz174 ok p σ2 w' := by
              have h := mixes_any (c := 1) 77 78 Rz178.sui HR.out lz181 (fun b hb => hb.elim (fun e => by rw [e]; exact ⟨(Reg.blk Rz178 B3.out NG3.out).lt, NG3.out⟩) (fun e => by rw [e]; exact ⟨hllz182, nlz8⟩)) rfl (mixOk_one HK.out)
              rw [HTAB.out] at h
              refine h.mono fun e w' ⟨he, hn⟩ => ⟨?_, by rw [H2.out]; exact hn⟩
              rw [HA.out, HB.out]
              exact he
            with_reducible refine hcz186.mono ?_
            rintro _ vz184 ⟨rfl, nxz185⟩
            have Rz187 := Rz178.call nxz185
            have nz188 : ¬ More ok vz174 vz184 g8 := More.not nz142 (nbz180).lt
            have nz188b := (Nx.blk nxz185 (nbz180) nz142)
            have nz189 : ¬ More ok vz174 vz184 g7 := More.not nz179 (kz176.out).lt
            have nz189b := (Nx.blk nxz185 (kz176.out) nz179)
            refine hK.out _ _ (range_of (Reg.blk Rz187 B2.out NG2.out)) (fun hHeld => ?_)
            clear hK K
            try simp only [Act.put, List.setIfInBounds_toArray, List.set_cons_zero, List.set_cons_succ]
            refine' wpAnyH_take (i := 5) (oi := { dst := some 15, op := Op.move (Operand.tmp 20), type := 25, pos := "chain.go:29", after := #[{ on := 4, ground := Ground.data }], guard := none }) (v := .tuple #[.agg (u8s a).toArray, .agg (u8s b).toArray, .bool true]) rfl (by kernel_rfl) (by kernel_rfl) (by kernel_rfl) (fun _ _ _ h => h) (Or.inl ⟨by rfl, fun _ _ => rfl⟩) (by assumption) ?qz190
            try simp only [Act.put, List.setIfInBounds_toArray, List.set_cons_zero, List.set_cons_succ]
            refine' wpAnyH_take (i := 6) (oi := { dst := some 21, op := Op.extract (Operand.tmp 15) 0, type := 24, pos := "chain.go:29", after := #[{ on := 5, ground := Ground.data }], guard := none }) (v := .agg (u8s a).toArray) rfl (by kernel_rfl) (by kernel_rfl) (by kernel_rfl) (fun _ _ _ h => h) (Or.inl ⟨by rfl, fun _ _ => rfl⟩) (by assumption) ?qz191
            try simp only [Act.put, List.setIfInBounds_toArray, List.set_cons_zero, List.set_cons_succ]
            refine' wpAnyH_take (i := 7) (oi := { dst := some 22, op := Op.extract (Operand.tmp 15) 1, type := 24, pos := "chain.go:29", after := #[{ on := 5, ground := Ground.data }, { on := 11, ground := Ground.gcOnly Departure.lateStores }], guard := none }) (v := .agg (u8s b).toArray) rfl (by kernel_rfl) (by kernel_rfl) (by kernel_rfl) (fun _ _ _ h => h) (Or.inl ⟨by rfl, fun _ _ => rfl⟩) (by assumption) ?qz192
            try simp only [Act.put, List.setIfInBounds_toArray, List.set_cons_zero, List.set_cons_succ]
            refine' wpAnyH_take (i := 8) (oi := { dst := some 23, op := Op.extract (Operand.tmp 15) 2, type := 4, pos := "chain.go:29", after := #[{ on := 5, ground := Ground.data }, { on := 12, ground := Ground.gcOnly Departure.lateStores }], guard := none }) (v := .bool true) rfl (by kernel_rfl) (by kernel_rfl) (by kernel_rfl) (fun _ _ _ h => h) (Or.inl ⟨by rfl, fun _ _ => rfl⟩) (by assumption) ?qz193
            try simp only [Act.put, List.setIfInBounds_toArray, List.set_cons_zero, List.set_cons_succ]
            refine wpAnyH_ready (rs := [11]) (by kernel_rfl) (by simp) ?_
            refine AllReadyH.cons (o := { dst := none, op := Op.store 24 (Operand.tmp 7) (Operand.tmp 21), type := 0, pos := "chain.go:29", after := #[{ on := 9, ground := Ground.data }, { on := 6, ground := Ground.data }, { on := 4, ground := Ground.chain }, { on := 0, ground := Ground.phase }, { on := 1, ground := Ground.phase }, { on := 2, ground := Ground.phase }, { on := 3, ground := Ground.phase }, { on := 4, ground := Ground.phase }, { on := 5, ground := Ground.phase }, { on := 6, ground := Ground.phase }, { on := 7, ground := Ground.textOnly Departure.lateStores }, { on := 8, ground := Ground.textOnly Departure.lateStores }, { on := 9, ground := Ground.phase }, { on := 10, ground := Ground.phase }], guard := none }) rfl (fun K hK => ?_) AllReadyH.nil
            rw [if_pos (by rfl)]
            refine wp_storeG agY _ _ rfl g7 rfl rfl (nz189b) (by rw [u8s_length, z32_length]) (by rw [u8s_length, HAL.out]) (u8s_one _) (fun vz194 kz195 qz196 zz197 => ?_)
            have Rz198 := Rz187.store qz196.out nz189 nz179w S4.out.two
            have nbz199 := (nz188b).grown qz196.out (by simpa using ne9_10)
            refine hK.out _ _ (range_of (Reg.blk Rz198 B2.out NG2.out)) (fun hHeld => ?_)
            clear hK K
            dsimp only [Act.put]
            refine wpAnyH_ready (rs := [12]) (by kernel_rfl) (by simp) ?_
            refine AllReadyH.cons (o := { dst := none, op := Op.store 24 (Operand.tmp 8) (Operand.tmp 22), type := 0, pos := "chain.go:29", after := #[{ on := 10, ground := Ground.data }, { on := 7, ground := Ground.data }, { on := 11, ground := Ground.chain }, { on := 0, ground := Ground.phase }, { on := 1, ground := Ground.phase }, { on := 2, ground := Ground.phase }, { on := 3, ground := Ground.phase }, { on := 4, ground := Ground.phase }, { on := 5, ground := Ground.phase }, { on := 6, ground := Ground.phase }, { on := 7, ground := Ground.phase }, { on := 8, ground := Ground.textOnly Departure.lateStores }, { on := 9, ground := Ground.phase }, { on := 10, ground := Ground.phase }, { on := 11, ground := Ground.phase }], guard := none }) rfl (fun K hK => ?_) AllReadyH.nil
            rw [if_pos (by rfl)]
            refine wp_storeG agY _ _ rfl g8 rfl rfl (nbz199) (by rw [u8s_length, z32_length]) (by rw [u8s_length, HBL.out]) (u8s_one _) (fun vz200 kz201 qz202 zz203 => ?_)
            have Rz204 := Rz198.store qz202.out nz188 nz142w S4.out.two
            have nbz205 := (kz195.out).grown qz202.out (by simpa using (Ne.symm ne9_10))
            refine hK.out _ _ (range_of (Reg.blk Rz204 B2.out NG2.out)) (fun hHeld => ?_)
            clear hK K
            dsimp only [Act.put]
            refine wpAnyH_ready (rs := [13]) (by kernel_rfl) (by simp) ?_
            refine AllReadyH.cons (o := { dst := some 9, op := Op.assign (Operand.tmp 23), type := 4, pos := "chain.go:29", after := #[{ on := 8, ground := Ground.data }, { on := 12, ground := Ground.chain }, { on := 0, ground := Ground.phase }, { on := 1, ground := Ground.phase }, { on := 2, ground := Ground.phase }, { on := 3, ground := Ground.phase }, { on := 4, ground := Ground.phase }, { on := 5, ground := Ground.phase }, { on := 6, ground := Ground.phase }, { on := 7, ground := Ground.phase }, { on := 8, ground := Ground.phase }, { on := 9, ground := Ground.phase }, { on := 10, ground := Ground.phase }, { on := 11, ground := Ground.phase }, { on := 12, ground := Ground.phase }], guard := none }) rfl (fun K hK => ?_) AllReadyH.nil
            rw [if_pos (by rfl)]
            go_simp
            refine hK.out _ _ hHeld (fun hHeld => ?_)
            clear hK K
            try simp only [Act.put, List.setIfInBounds_toArray, List.set_cons_zero, List.set_cons_succ]
            refine wpAnyH_done (by kernel_rfl) ?_ _
            exact hrest_ _ _ _ gl ⟨Rz204.nx S4.out.lt, nbz205, kz201.out, nz179w, nz142w⟩
      · rw [if_pos (by rfl)]
        refine wp_allocG zeY rfl (fun g7 vz206 ez207 kz208 qz209 => ?_)
        have nz211 : ¬ ok g7 := R0.not_new (Nat.le_of_eq ez207.out.symm)
        have Rz210 := R0.alloc qz209.out
        have nz211w : w4.heap.size ≤ g7 := by rw [ez207.out]; exact R0.md.size
        refine hK.out _ _ (range_of (Reg.blk Rz210 B2.out NG2.out)) (fun hHeld => ?_)
        clear hK K
        try simp only [Act.put, List.setIfInBounds_toArray, List.set_cons_zero, List.set_cons_succ]
        refine wpAnyH_ready (rs := [3, 10]) (by kernel_rfl) (by simp) ?_
        refine AllReadyH.cons (o := { dst := some 19, op := Op.buildSlice 75 1 #[(0, Operand.tmp 18)], type := 75, pos := "chain.go:29", after := #[{ on := 2, ground := Ground.data }], guard := none }) rfl (fun K hK => ?_) (AllReadyH.cons (o := { dst := some 8, op := Op.alloc 24, type := 0, pos := "chain.go:29", after := #[], guard := none }) rfl (fun K hK => ?_) AllReadyH.nil)
        · rw [if_pos (by rfl)]
          go_simp
          have qz213 := World.grownBy_alloc vz206 (.cells #[.slice (some ⟨g3, 0, none⟩) 32 32] 66) none
          obtain ⟨vz212, hvz214⟩ : ∃ w', vz206.alloc (.cells #[.slice (some ⟨g3, 0, none⟩) 32 32] 66) = w' := ⟨_, rfl⟩
          obtain ⟨gl, hgl⟩ : ∃ g, g = vz206.heap.size := ⟨_, rfl⟩
          have lz215 := lst_one HK.out (byt_of (Reg.blk Rz210 B3.out NG3.out)) (Reg.blk Rz210 B3.out NG3.out).lt hvz214 hgl
          rw [hvz214] at qz213 ⊢
          rw [← hgl]
          have nlz216 : ¬ ok gl := NOK4 gl (by rw [hgl]; exact Rz210.md.size)
          have Rz217 := Rz210.alloc qz213
          have hll : gl < vz212.heap.size := by rw [← hvz214, World.size_alloc, hgl]; exact Nat.lt_succ_self _
          clear hgl hvz214
          refine hK.out _ _ (range_of (Reg.blk Rz217 B2.out NG2.out)) (fun hHeld => ?_)
          clear hK K
          try simp only [Act.put, List.setIfInBounds_toArray, List.set_cons_zero, List.set_cons_succ]
          refine wpAnyH_ready (rs := [4, 10]) (by kernel_rfl) (by simp) ?_
          refine AllReadyH.cons (o := { dst := some 20, op := Op.call { callee := Callee.value (Operand.func 23), args := #[Operand.tmp 16, Operand.const (Value.int IntKind.u8 77), Operand.const (Value.int IntKind.u8 78), Operand.tmp 19], argTypes := #[29, 5, 5, 75] }, type := 25, pos := "chain.go:29", after := #[{ on := 0, ground := Ground.data }, { on := 3, ground := Ground.data }], guard := none }) rfl (fun K hK => ?_) (AllReadyH.cons (o := { dst := some 8, op := Op.alloc 24, type := 0, pos := "chain.go:29", after := #[], guard := none }) rfl (fun K hK => ?_) AllReadyH.nil)
          · rw [if_pos (by rfl)]
            go_simp
            have hcz220 : Calls Tryd.prog 23 #[.agg #[pv], .int .u8 77, .int .u8 78, .slice (some ⟨gl, 0, none⟩) 1 1] vz212 fun e w' => e = .returned (.tuple #[.agg (u8s a).toArray, .agg (u8s b).toArray, .bool true]) ∧ Nx vz212 ok p σ2 w' := by
              have h := mixes_any (c := 1) 77 78 Rz217.sui HR.out lz215 (fun b hb => hb.elim (fun e => by rw [e]; exact ⟨(Reg.blk Rz217 B3.out NG3.out).lt, NG3.out⟩) (fun e => by rw [e]; exact ⟨hll, nlz216⟩)) rfl (mixOk_one HK.out)
              rw [HTAB.out] at h
              refine h.mono fun e w' ⟨he, hn⟩ => ⟨?_, by rw [H2.out]; exact hn⟩
              rw [HA.out, HB.out]
              exact he
            with_reducible refine hcz220.mono ?_
            rintro _ vz218 ⟨rfl, nxz219⟩
            have Rz221 := Rz217.call nxz219
            have nz222 : ¬ More ok vz212 vz218 g7 := More.not nz211 ((kz208.out.grown qz213 (by simp))).lt
            have nz222b := (Nx.blk nxz219 ((kz208.out.grown qz213 (by simp))) nz211)
            refine hK.out _ _ (range_of (Reg.blk Rz221 B2.out NG2.out)) (fun hHeld => ?_)
            clear hK K
            try simp only [Act.put, List.setIfInBounds_toArray, List.set_cons_zero, List.set_cons_succ]
            refine' wpAnyH_take (i := 5) (oi := { dst := some 15, op := Op.move (Operand.tmp 20), type := 25, pos := "chain.go:29", after := #[{ on := 4, ground := Ground.data }], guard := none }) (v := .tuple #[.agg (u8s a).toArray, .agg (u8s b).toArray, .bool true]) rfl (by kernel_rfl) (by kernel_rfl) (by kernel_rfl) (fun _ _ _ h => h) (Or.inl ⟨by rfl, fun _ _ => rfl⟩) (by assumption) ?qz223
            try simp only [Act.put, List.setIfInBounds_toArray, List.set_cons_zero, List.set_cons_succ]
            refine' wpAnyH_take (i := 6) (oi := { dst := some 21, op := Op.extract (Operand.tmp 15) 0, type := 24, pos := "chain.go:29", after := #[{ on := 5, ground := Ground.data }], guard := none }) (v := .agg (u8s a).toArray) rfl (by kernel_rfl) (by kernel_rfl) (by kernel_rfl) (fun _ _ _ h => h) (Or.inl ⟨by rfl, fun _ _ => rfl⟩) (by assumption) ?qz224
            try simp only [Act.put, List.setIfInBounds_toArray, List.set_cons_zero, List.set_cons_succ]
            refine' wpAnyH_take (i := 7) (oi := { dst := some 22, op := Op.extract (Operand.tmp 15) 1, type := 24, pos := "chain.go:29", after := #[{ on := 5, ground := Ground.data }, { on := 11, ground := Ground.gcOnly Departure.lateStores }], guard := none }) (v := .agg (u8s b).toArray) rfl (by kernel_rfl) (by kernel_rfl) (by kernel_rfl) (fun _ _ _ h => h) (Or.inl ⟨by rfl, fun _ _ => rfl⟩) (by assumption) ?qz225
            try simp only [Act.put, List.setIfInBounds_toArray, List.set_cons_zero, List.set_cons_succ]
            refine' wpAnyH_take (i := 8) (oi := { dst := some 23, op := Op.extract (Operand.tmp 15) 2, type := 4, pos := "chain.go:29", after := #[{ on := 5, ground := Ground.data }, { on := 12, ground := Ground.gcOnly Departure.lateStores }], guard := none }) (v := .bool true) rfl (by kernel_rfl) (by kernel_rfl) (by kernel_rfl) (fun _ _ _ h => h) (Or.inl ⟨by rfl, fun _ _ => rfl⟩) (by assumption) ?qz226
            try simp only [Act.put, List.setIfInBounds_toArray, List.set_cons_zero, List.set_cons_succ]
            refine wpAnyH_ready (rs := [10]) (by kernel_rfl) (by simp) ?_
            refine AllReadyH.cons (o := { dst := some 8, op := Op.alloc 24, type := 0, pos := "chain.go:29", after := #[], guard := none }) rfl (fun K hK => ?_) AllReadyH.nil
            rw [if_pos (by rfl)]
            refine wp_allocG zeY rfl (fun g8 vz227 ez228 kz229 qz230 => ?_)
            have nz232 : ¬ (More ok vz212 vz218) g8 := Rz221.not_new (Nat.le_of_eq ez228.out.symm)
            have Rz231 := Rz221.alloc qz230.out
            have nz232w : w4.heap.size ≤ g8 := by rw [ez228.out]; exact Rz221.md.size
            have ne9_10 : g7 ≠ g8 := fun e => by have h1 := (nz222b).lt; have h2 := ez228.out; omega
            have nbz233 := (nz222b).grown qz230.out (by simp)
            refine hK.out _ _ (range_of (Reg.blk Rz231 B2.out NG2.out)) (fun hHeld => ?_)
            clear hK K
            try simp only [Act.put, List.setIfInBounds_toArray, List.set_cons_zero, List.set_cons_succ]
            refine wpAnyH_ready (rs := [11]) (by kernel_rfl) (by simp) ?_
            refine AllReadyH.cons (o := { dst := none, op := Op.store 24 (Operand.tmp 7) (Operand.tmp 21), type := 0, pos := "chain.go:29", after := #[{ on := 9, ground := Ground.data }, { on := 6, ground := Ground.data }, { on := 4, ground := Ground.chain }, { on := 0, ground := Ground.phase }, { on := 1, ground := Ground.phase }, { on := 2, ground := Ground.phase }, { on := 3, ground := Ground.phase }, { on := 4, ground := Ground.phase }, { on := 5, ground := Ground.phase }, { on := 6, ground := Ground.phase }, { on := 7, ground := Ground.textOnly Departure.lateStores }, { on := 8, ground := Ground.textOnly Departure.lateStores }, { on := 9, ground := Ground.phase }, { on := 10, ground := Ground.phase }], guard := none }) rfl (fun K hK => ?_) AllReadyH.nil
            rw [if_pos (by rfl)]
            refine wp_storeG agY _ _ rfl g7 rfl rfl (nbz233) (by rw [u8s_length, z32_length]) (by rw [u8s_length, HAL.out]) (u8s_one _) (fun vz234 kz235 qz236 zz237 => ?_)
            have Rz238 := Rz231.store qz236.out nz222 nz211w S4.out.two
            have nbz239 := (kz229.out).grown qz236.out (by simpa using (Ne.symm ne9_10))
            refine hK.out _ _ (range_of (Reg.blk Rz238 B2.out NG2.out)) (fun hHeld => ?_)
            clear hK K
            dsimp only [Act.put]
            refine wpAnyH_ready (rs := [12]) (by kernel_rfl) (by simp) ?_
            refine AllReadyH.cons (o := { dst := none, op := Op.store 24 (Operand.tmp 8) (Operand.tmp 22), type := 0, pos := "chain.go:29", after := #[{ on := 10, ground := Ground.data }, { on := 7, ground := Ground.data }, { on := 11, ground := Ground.chain }, { on := 0, ground := Ground.phase }, { on := 1, ground := Ground.phase }, { on := 2, ground := Ground.phase }, { on := 3, ground := Ground.phase }, { on := 4, ground := Ground.phase }, { on := 5, ground := Ground.phase }, { on := 6, ground := Ground.phase }, { on := 7, ground := Ground.phase }, { on := 8, ground := Ground.textOnly Departure.lateStores }, { on := 9, ground := Ground.phase }, { on := 10, ground := Ground.phase }, { on := 11, ground := Ground.phase }], guard := none }) rfl (fun K hK => ?_) AllReadyH.nil
            rw [if_pos (by rfl)]
            refine wp_storeG agY _ _ rfl g8 rfl rfl (nbz239) (by rw [u8s_length, z32_length]) (by rw [u8s_length, HBL.out]) (u8s_one _) (fun vz240 kz241 qz242 zz243 => ?_)
            have Rz244 := Rz238.store qz242.out nz232 nz232w S4.out.two
            have nbz245 := (kz235.out).grown qz242.out (by simpa using ne9_10)
            refine hK.out _ _ (range_of (Reg.blk Rz244 B2.out NG2.out)) (fun hHeld => ?_)
            clear hK K
            dsimp only [Act.put]
            refine wpAnyH_ready (rs := [13]) (by kernel_rfl) (by simp) ?_
            refine AllReadyH.cons (o := { dst := some 9, op := Op.assign (Operand.tmp 23), type := 4, pos := "chain.go:29", after := #[{ on := 8, ground := Ground.data }, { on := 12, ground := Ground.chain }, { on := 0, ground := Ground.phase }, { on := 1, ground := Ground.phase }, { on := 2, ground := Ground.phase }, { on := 3, ground := Ground.phase }, { on := 4, ground := Ground.phase }, { on := 5, ground := Ground.phase }, { on := 6, ground := Ground.phase }, { on := 7, ground := Ground.phase }, { on := 8, ground := Ground.phase }, { on := 9, ground := Ground.phase }, { on := 10, ground := Ground.phase }, { on := 11, ground := Ground.phase }, { on := 12, ground := Ground.phase }], guard := none }) rfl (fun K hK => ?_) AllReadyH.nil
            rw [if_pos (by rfl)]
            go_simp
            refine hK.out _ _ hHeld (fun hHeld => ?_)
            clear hK K
            try simp only [Act.put, List.setIfInBounds_toArray, List.set_cons_zero, List.set_cons_succ]
            refine wpAnyH_done (by kernel_rfl) ?_ _
            exact hrest_ _ _ _ gl ⟨Rz244.nx S4.out.lt, nbz245, kz241.out, nz211w, nz232w⟩
          · rw [if_pos (by rfl)]
            refine wp_allocG zeY rfl (fun g8 vz246 ez247 kz248 qz249 => ?_)
            have nz251 : ¬ ok g8 := Rz217.not_new (Nat.le_of_eq ez247.out.symm)
            have Rz250 := Rz217.alloc qz249.out
            have nz251w : w4.heap.size ≤ g8 := by rw [ez247.out]; exact Rz217.md.size
            have ne9_10 : g7 ≠ g8 := fun e => by have h1 := ((kz208.out.grown qz213 (by simp))).lt; have h2 := ez247.out; omega
            have nbz252 := ((kz208.out.grown qz213 (by simp))).grown qz249.out (by simp)
            have dz255 : ∀ b, (b = g3 ∨ b = gl) → b < vz212.heap.size ∧ ¬ ok b := (fun b hb => hb.elim (fun e => by rw [e]; exact ⟨(Reg.blk Rz217 B3.out NG3.out).lt, NG3.out⟩) (fun e => by rw [e]; exact ⟨hll, nlz216⟩))
            have lz253 := lz215.keep fun b hb => qz249.out.block b (dz255 b hb).1 (by simp)
            have hllz254 := Nat.lt_of_lt_of_le hll qz249.out.size
            refine hK.out _ _ (range_of (Reg.blk Rz250 B2.out NG2.out)) (fun hHeld => ?_)
            clear hK K
            try simp only [Act.put, List.setIfInBounds_toArray, List.set_cons_zero, List.set_cons_succ]
            refine wpAnyH_ready (rs := [4]) (by kernel_rfl) (by simp) ?_
            refine AllReadyH.cons (o := { dst := some 20, op := Op.call { callee := Callee.value (Operand.func 23), args := #[Operand.tmp 16, Operand.const (Value.int IntKind.u8 77), Operand.const (Value.int IntKind.u8 78), Operand.tmp 19], argTypes := #[29, 5, 5, 75] }, type := 25, pos := "chain.go:29", after := #[{ on := 0, ground := Ground.data }, { on := 3, ground := Ground.data }], guard := none }) rfl (fun K hK => ?_) AllReadyH.nil
            rw [if_pos (by rfl)]
            go_simp
            have hcz258 : Calls Tryd.prog 23 #[.agg #[pv], .int .u8 77, .int .u8 78, .slice (some ⟨gl, 0, none⟩) 1 1] vz246 fun e w' => e = .returned (.tuple #[.agg (u8s a).toArray, .agg (u8s b).toArray, .bool true]) ∧ Nx vz246 ok p σ2 w' := by
              have h := mixes_any (c := 1) 77 78 Rz250.sui HR.out lz253 (fun b hb => hb.elim (fun e => by rw [e]; exact ⟨(Reg.blk Rz250 B3.out NG3.out).lt, NG3.out⟩) (fun e => by rw [e]; exact ⟨hllz254, nlz216⟩)) rfl (mixOk_one HK.out)
              rw [HTAB.out] at h
              refine h.mono fun e w' ⟨he, hn⟩ => ⟨?_, by rw [H2.out]; exact hn⟩
              rw [HA.out, HB.out]
              exact he
            with_reducible refine hcz258.mono ?_
            rintro _ vz256 ⟨rfl, nxz257⟩
            have Rz259 := Rz250.call nxz257
            have nz260 : ¬ More ok vz246 vz256 g7 := More.not nz211 (nbz252).lt
            have nz260b := (Nx.blk nxz257 (nbz252) nz211)
            have nz261 : ¬ More ok vz246 vz256 g8 := More.not nz251 (kz248.out).lt
            have nz261b := (Nx.blk nxz257 (kz248.out) nz251)
            refine hK.out _ _ (range_of (Reg.blk Rz259 B2.out NG2.out)) (fun hHeld => ?_)
            clear hK K
            try simp only [Act.put, List.setIfInBounds_toArray, List.set_cons_zero, List.set_cons_succ]
            refine' wpAnyH_take (i := 5) (oi := { dst := some 15, op := Op.move (Operand.tmp 20), type := 25, pos := "chain.go:29", after := #[{ on := 4, ground := Ground.data }], guard := none }) (v := .tuple #[.agg (u8s a).toArray, .agg (u8s b).toArray, .bool true]) rfl (by kernel_rfl) (by kernel_rfl) (by kernel_rfl) (fun _ _ _ h => h) (Or.inl ⟨by rfl, fun _ _ => rfl⟩) (by assumption) ?qz262
            try simp only [Act.put, List.setIfInBounds_toArray, List.set_cons_zero, List.set_cons_succ]
            refine' wpAnyH_take (i := 6) (oi := { dst := some 21, op := Op.extract (Operand.tmp 15) 0, type := 24, pos := "chain.go:29", after := #[{ on := 5, ground := Ground.data }], guard := none }) (v := .agg (u8s a).toArray) rfl (by kernel_rfl) (by kernel_rfl) (by kernel_rfl) (fun _ _ _ h => h) (Or.inl ⟨by rfl, fun _ _ => rfl⟩) (by assumption) ?qz263
            try simp only [Act.put, List.setIfInBounds_toArray, List.set_cons_zero, List.set_cons_succ]
            refine' wpAnyH_take (i := 7) (oi := { dst := some 22, op := Op.extract (Operand.tmp 15) 1, type := 24, pos := "chain.go:29", after := #[{ on := 5, ground := Ground.data }, { on := 11, ground := Ground.gcOnly Departure.lateStores }], guard := none }) (v := .agg (u8s b).toArray) rfl (by kernel_rfl) (by kernel_rfl) (by kernel_rfl) (fun _ _ _ h => h) (Or.inl ⟨by rfl, fun _ _ => rfl⟩) (by assumption) ?qz264
            try simp only [Act.put, List.setIfInBounds_toArray, List.set_cons_zero, List.set_cons_succ]
            refine' wpAnyH_take (i := 8) (oi := { dst := some 23, op := Op.extract (Operand.tmp 15) 2, type := 4, pos := "chain.go:29", after := #[{ on := 5, ground := Ground.data }, { on := 12, ground := Ground.gcOnly Departure.lateStores }], guard := none }) (v := .bool true) rfl (by kernel_rfl) (by kernel_rfl) (by kernel_rfl) (fun _ _ _ h => h) (Or.inl ⟨by rfl, fun _ _ => rfl⟩) (by assumption) ?qz265
            try simp only [Act.put, List.setIfInBounds_toArray, List.set_cons_zero, List.set_cons_succ]
            refine wpAnyH_ready (rs := [11]) (by kernel_rfl) (by simp) ?_
            refine AllReadyH.cons (o := { dst := none, op := Op.store 24 (Operand.tmp 7) (Operand.tmp 21), type := 0, pos := "chain.go:29", after := #[{ on := 9, ground := Ground.data }, { on := 6, ground := Ground.data }, { on := 4, ground := Ground.chain }, { on := 0, ground := Ground.phase }, { on := 1, ground := Ground.phase }, { on := 2, ground := Ground.phase }, { on := 3, ground := Ground.phase }, { on := 4, ground := Ground.phase }, { on := 5, ground := Ground.phase }, { on := 6, ground := Ground.phase }, { on := 7, ground := Ground.textOnly Departure.lateStores }, { on := 8, ground := Ground.textOnly Departure.lateStores }, { on := 9, ground := Ground.phase }, { on := 10, ground := Ground.phase }], guard := none }) rfl (fun K hK => ?_) AllReadyH.nil
            rw [if_pos (by rfl)]
            refine wp_storeG agY _ _ rfl g7 rfl rfl (nz260b) (by rw [u8s_length, z32_length]) (by rw [u8s_length, HAL.out]) (u8s_one _) (fun vz266 kz267 qz268 zz269 => ?_)
            have Rz270 := Rz259.store qz268.out nz260 nz211w S4.out.two
            have nbz271 := (nz261b).grown qz268.out (by simpa using (Ne.symm ne9_10))
            refine hK.out _ _ (range_of (Reg.blk Rz270 B2.out NG2.out)) (fun hHeld => ?_)
            clear hK K
            dsimp only [Act.put]
            refine wpAnyH_ready (rs := [12]) (by kernel_rfl) (by simp) ?_
            refine AllReadyH.cons (o := { dst := none, op := Op.store 24 (Operand.tmp 8) (Operand.tmp 22), type := 0, pos := "chain.go:29", after := #[{ on := 10, ground := Ground.data }, { on := 7, ground := Ground.data }, { on := 11, ground := Ground.chain }, { on := 0, ground := Ground.phase }, { on := 1, ground := Ground.phase }, { on := 2, ground := Ground.phase }, { on := 3, ground := Ground.phase }, { on := 4, ground := Ground.phase }, { on := 5, ground := Ground.phase }, { on := 6, ground := Ground.phase }, { on := 7, ground := Ground.phase }, { on := 8, ground := Ground.textOnly Departure.lateStores }, { on := 9, ground := Ground.phase }, { on := 10, ground := Ground.phase }, { on := 11, ground := Ground.phase }], guard := none }) rfl (fun K hK => ?_) AllReadyH.nil
            rw [if_pos (by rfl)]
            refine wp_storeG agY _ _ rfl g8 rfl rfl (nbz271) (by rw [u8s_length, z32_length]) (by rw [u8s_length, HBL.out]) (u8s_one _) (fun vz272 kz273 qz274 zz275 => ?_)
            have Rz276 := Rz270.store qz274.out nz261 nz251w S4.out.two
            have nbz277 := (kz267.out).grown qz274.out (by simpa using ne9_10)
            refine hK.out _ _ (range_of (Reg.blk Rz276 B2.out NG2.out)) (fun hHeld => ?_)
            clear hK K
            dsimp only [Act.put]
            refine wpAnyH_ready (rs := [13]) (by kernel_rfl) (by simp) ?_
            refine AllReadyH.cons (o := { dst := some 9, op := Op.assign (Operand.tmp 23), type := 4, pos := "chain.go:29", after := #[{ on := 8, ground := Ground.data }, { on := 12, ground := Ground.chain }, { on := 0, ground := Ground.phase }, { on := 1, ground := Ground.phase }, { on := 2, ground := Ground.phase }, { on := 3, ground := Ground.phase }, { on := 4, ground := Ground.phase }, { on := 5, ground := Ground.phase }, { on := 6, ground := Ground.phase }, { on := 7, ground := Ground.phase }, { on := 8, ground := Ground.phase }, { on := 9, ground := Ground.phase }, { on := 10, ground := Ground.phase }, { on := 11, ground := Ground.phase }, { on := 12, ground := Ground.phase }], guard := none }) rfl (fun K hK => ?_) AllReadyH.nil
            rw [if_pos (by rfl)]
            go_simp
            refine hK.out _ _ hHeld (fun hHeld => ?_)
            clear hK K
            try simp only [Act.put, List.setIfInBounds_toArray, List.set_cons_zero, List.set_cons_succ]
            refine wpAnyH_done (by kernel_rfl) ?_ _
            exact hrest_ _ _ _ gl ⟨Rz276.nx S4.out.lt, nbz277, kz273.out, nz211w, nz251w⟩
        · rw [if_pos (by rfl)]
          refine wp_allocG zeY rfl (fun g8 vz278 ez279 kz280 qz281 => ?_)
          have nz283 : ¬ ok g8 := Rz210.not_new (Nat.le_of_eq ez279.out.symm)
          have Rz282 := Rz210.alloc qz281.out
          have nz283w : w4.heap.size ≤ g8 := by rw [ez279.out]; exact Rz210.md.size
          have ne9_10 : g7 ≠ g8 := fun e => by have h1 := (kz208.out).lt; have h2 := ez279.out; omega
          have nbz284 := (kz208.out).grown qz281.out (by simp)
          refine hK.out _ _ (range_of (Reg.blk Rz282 B2.out NG2.out)) (fun hHeld => ?_)
          clear hK K
          try simp only [Act.put, List.setIfInBounds_toArray, List.set_cons_zero, List.set_cons_succ]
          refine wpAnyH_ready (rs := [3]) (by kernel_rfl) (by simp) ?_
          refine AllReadyH.cons (o := { dst := some 19, op := Op.buildSlice 75 1 #[(0, Operand.tmp 18)], type := 75, pos := "chain.go:29", after := #[{ on := 2, ground := Ground.data }], guard := none }) rfl (fun K hK => ?_) AllReadyH.nil
          rw [if_pos (by rfl)]
          go_simp
          have qz286 := World.grownBy_alloc vz278 (.cells #[.slice (some ⟨g3, 0, none⟩) 32 32] 66) none
          obtain ⟨vz285, hvz287⟩ : ∃ w', vz278.alloc (.cells #[.slice (some ⟨g3, 0, none⟩) 32 32] 66) = w' := ⟨_, rfl⟩
          obtain ⟨gl, hgl⟩ : ∃ g, g = vz278.heap.size := ⟨_, rfl⟩
          have lz288 := lst_one HK.out (byt_of (Reg.blk Rz282 B3.out NG3.out)) (Reg.blk Rz282 B3.out NG3.out).lt hvz287 hgl
          rw [hvz287] at qz286 ⊢
          rw [← hgl]
          have nlz289 : ¬ ok gl := NOK4 gl (by rw [hgl]; exact Rz282.md.size)
          have Rz290 := Rz282.alloc qz286
          have hll : gl < vz285.heap.size := by rw [← hvz287, World.size_alloc, hgl]; exact Nat.lt_succ_self _
          clear hgl hvz287
          refine hK.out _ _ (range_of (Reg.blk Rz290 B2.out NG2.out)) (fun hHeld => ?_)
          clear hK K
          try simp only [Act.put, List.setIfInBounds_toArray, List.set_cons_zero, List.set_cons_succ]
          refine wpAnyH_ready (rs := [4]) (by kernel_rfl) (by simp) ?_
          refine AllReadyH.cons (o := { dst := some 20, op := Op.call { callee := Callee.value (Operand.func 23), args := #[Operand.tmp 16, Operand.const (Value.int IntKind.u8 77), Operand.const (Value.int IntKind.u8 78), Operand.tmp 19], argTypes := #[29, 5, 5, 75] }, type := 25, pos := "chain.go:29", after := #[{ on := 0, ground := Ground.data }, { on := 3, ground := Ground.data }], guard := none }) rfl (fun K hK => ?_) AllReadyH.nil
          rw [if_pos (by rfl)]
          go_simp
          have hcz293 : Calls Tryd.prog 23 #[.agg #[pv], .int .u8 77, .int .u8 78, .slice (some ⟨gl, 0, none⟩) 1 1] vz285 fun e w' => e = .returned (.tuple #[.agg (u8s a).toArray, .agg (u8s b).toArray, .bool true]) ∧ Nx vz285 ok p σ2 w' := by
            have h := mixes_any (c := 1) 77 78 Rz290.sui HR.out lz288 (fun b hb => hb.elim (fun e => by rw [e]; exact ⟨(Reg.blk Rz290 B3.out NG3.out).lt, NG3.out⟩) (fun e => by rw [e]; exact ⟨hll, nlz289⟩)) rfl (mixOk_one HK.out)
            rw [HTAB.out] at h
            refine h.mono fun e w' ⟨he, hn⟩ => ⟨?_, by rw [H2.out]; exact hn⟩
            rw [HA.out, HB.out]
            exact he
          with_reducible refine hcz293.mono ?_
          rintro _ vz291 ⟨rfl, nxz292⟩
          have Rz294 := Rz290.call nxz292
          have nz295 : ¬ More ok vz285 vz291 g7 := More.not nz211 ((nbz284.grown qz286 (by simp))).lt
          have nz295b := (Nx.blk nxz292 ((nbz284.grown qz286 (by simp))) nz211)
          have nz296 : ¬ More ok vz285 vz291 g8 := More.not nz283 ((kz280.out.grown qz286 (by simp))).lt
          have nz296b := (Nx.blk nxz292 ((kz280.out.grown qz286 (by simp))) nz283)
          refine hK.out _ _ (range_of (Reg.blk Rz294 B2.out NG2.out)) (fun hHeld => ?_)
          clear hK K
          try simp only [Act.put, List.setIfInBounds_toArray, List.set_cons_zero, List.set_cons_succ]
          refine' wpAnyH_take (i := 5) (oi := { dst := some 15, op := Op.move (Operand.tmp 20), type := 25, pos := "chain.go:29", after := #[{ on := 4, ground := Ground.data }], guard := none }) (v := .tuple #[.agg (u8s a).toArray, .agg (u8s b).toArray, .bool true]) rfl (by kernel_rfl) (by kernel_rfl) (by kernel_rfl) (fun _ _ _ h => h) (Or.inl ⟨by rfl, fun _ _ => rfl⟩) (by assumption) ?qz297
          try simp only [Act.put, List.setIfInBounds_toArray, List.set_cons_zero, List.set_cons_succ]
          refine' wpAnyH_take (i := 6) (oi := { dst := some 21, op := Op.extract (Operand.tmp 15) 0, type := 24, pos := "chain.go:29", after := #[{ on := 5, ground := Ground.data }], guard := none }) (v := .agg (u8s a).toArray) rfl (by kernel_rfl) (by kernel_rfl) (by kernel_rfl) (fun _ _ _ h => h) (Or.inl ⟨by rfl, fun _ _ => rfl⟩) (by assumption) ?qz298
          try simp only [Act.put, List.setIfInBounds_toArray, List.set_cons_zero, List.set_cons_succ]
          refine' wpAnyH_take (i := 7) (oi := { dst := some 22, op := Op.extract (Operand.tmp 15) 1, type := 24, pos := "chain.go:29", after := #[{ on := 5, ground := Ground.data }, { on := 11, ground := Ground.gcOnly Departure.lateStores }], guard := none }) (v := .agg (u8s b).toArray) rfl (by kernel_rfl) (by kernel_rfl) (by kernel_rfl) (fun _ _ _ h => h) (Or.inl ⟨by rfl, fun _ _ => rfl⟩) (by assumption) ?qz299
          try simp only [Act.put, List.setIfInBounds_toArray, List.set_cons_zero, List.set_cons_succ]
          refine' wpAnyH_take (i := 8) (oi := { dst := some 23, op := Op.extract (Operand.tmp 15) 2, type := 4, pos := "chain.go:29", after := #[{ on := 5, ground := Ground.data }, { on := 12, ground := Ground.gcOnly Departure.lateStores }], guard := none }) (v := .bool true) rfl (by kernel_rfl) (by kernel_rfl) (by kernel_rfl) (fun _ _ _ h => h) (Or.inl ⟨by rfl, fun _ _ => rfl⟩) (by assumption) ?qz300
          try simp only [Act.put, List.setIfInBounds_toArray, List.set_cons_zero, List.set_cons_succ]
          refine wpAnyH_ready (rs := [11]) (by kernel_rfl) (by simp) ?_
          refine AllReadyH.cons (o := { dst := none, op := Op.store 24 (Operand.tmp 7) (Operand.tmp 21), type := 0, pos := "chain.go:29", after := #[{ on := 9, ground := Ground.data }, { on := 6, ground := Ground.data }, { on := 4, ground := Ground.chain }, { on := 0, ground := Ground.phase }, { on := 1, ground := Ground.phase }, { on := 2, ground := Ground.phase }, { on := 3, ground := Ground.phase }, { on := 4, ground := Ground.phase }, { on := 5, ground := Ground.phase }, { on := 6, ground := Ground.phase }, { on := 7, ground := Ground.textOnly Departure.lateStores }, { on := 8, ground := Ground.textOnly Departure.lateStores }, { on := 9, ground := Ground.phase }, { on := 10, ground := Ground.phase }], guard := none }) rfl (fun K hK => ?_) AllReadyH.nil
          rw [if_pos (by rfl)]
          refine wp_storeG agY _ _ rfl g7 rfl rfl (nz295b) (by rw [u8s_length, z32_length]) (by rw [u8s_length, HAL.out]) (u8s_one _) (fun vz301 kz302 qz303 zz304 => ?_)
          have Rz305 := Rz294.store qz303.out nz295 nz211w S4.out.two
          have nbz306 := (nz296b).grown qz303.out (by simpa using (Ne.symm ne9_10))
          refine hK.out _ _ (range_of (Reg.blk Rz305 B2.out NG2.out)) (fun hHeld => ?_)
          clear hK K
          dsimp only [Act.put]
          refine wpAnyH_ready (rs := [12]) (by kernel_rfl) (by simp) ?_
          refine AllReadyH.cons (o := { dst := none, op := Op.store 24 (Operand.tmp 8) (Operand.tmp 22), type := 0, pos := "chain.go:29", after := #[{ on := 10, ground := Ground.data }, { on := 7, ground := Ground.data }, { on := 11, ground := Ground.chain }, { on := 0, ground := Ground.phase }, { on := 1, ground := Ground.phase }, { on := 2, ground := Ground.phase }, { on := 3, ground := Ground.phase }, { on := 4, ground := Ground.phase }, { on := 5, ground := Ground.phase }, { on := 6, ground := Ground.phase }, { on := 7, ground := Ground.phase }, { on := 8, ground := Ground.textOnly Departure.lateStores }, { on := 9, ground := Ground.phase }, { on := 10, ground := Ground.phase }, { on := 11, ground := Ground.phase }], guard := none }) rfl (fun K hK => ?_) AllReadyH.nil
          rw [if_pos (by rfl)]
          refine wp_storeG agY _ _ rfl g8 rfl rfl (nbz306) (by rw [u8s_length, z32_length]) (by rw [u8s_length, HBL.out]) (u8s_one _) (fun vz307 kz308 qz309 zz310 => ?_)
          have Rz311 := Rz305.store qz309.out nz296 nz283w S4.out.two
          have nbz312 := (kz302.out).grown qz309.out (by simpa using ne9_10)
          refine hK.out _ _ (range_of (Reg.blk Rz311 B2.out NG2.out)) (fun hHeld => ?_)
          clear hK K
          dsimp only [Act.put]
          refine wpAnyH_ready (rs := [13]) (by kernel_rfl) (by simp) ?_
          refine AllReadyH.cons (o := { dst := some 9, op := Op.assign (Operand.tmp 23), type := 4, pos := "chain.go:29", after := #[{ on := 8, ground := Ground.data }, { on := 12, ground := Ground.chain }, { on := 0, ground := Ground.phase }, { on := 1, ground := Ground.phase }, { on := 2, ground := Ground.phase }, { on := 3, ground := Ground.phase }, { on := 4, ground := Ground.phase }, { on := 5, ground := Ground.phase }, { on := 6, ground := Ground.phase }, { on := 7, ground := Ground.phase }, { on := 8, ground := Ground.phase }, { on := 9, ground := Ground.phase }, { on := 10, ground := Ground.phase }, { on := 11, ground := Ground.phase }, { on := 12, ground := Ground.phase }], guard := none }) rfl (fun K hK => ?_) AllReadyH.nil
          rw [if_pos (by rfl)]
          go_simp
          refine hK.out _ _ hHeld (fun hHeld => ?_)
          clear hK K
          try simp only [Act.put, List.setIfInBounds_toArray, List.set_cons_zero, List.set_cons_succ]
          refine wpAnyH_done (by kernel_rfl) ?_ _
          exact hrest_ _ _ _ gl ⟨Rz311.nx S4.out.lt, nbz312, kz308.out, nz211w, nz283w⟩
      · rw [if_pos (by rfl)]
        refine wp_allocG zeY rfl (fun g8 vz313 ez314 kz315 qz316 => ?_)
        have nz318 : ¬ ok g8 := R0.not_new (Nat.le_of_eq ez314.out.symm)
        have Rz317 := R0.alloc qz316.out
        have nz318w : w4.heap.size ≤ g8 := by rw [ez314.out]; exact R0.md.size
        refine hK.out _ _ (range_of (Reg.blk Rz317 B2.out NG2.out)) (fun hHeld => ?_)
        clear hK K
        try simp only [Act.put, List.setIfInBounds_toArray, List.set_cons_zero, List.set_cons_succ]
        refine wpAnyH_ready (rs := [3, 9]) (by kernel_rfl) (by simp) ?_
        refine AllReadyH.cons (o := { dst := some 19, op := Op.buildSlice 75 1 #[(0, Operand.tmp 18)], type := 75, pos := "chain.go:29", after := #[{ on := 2, ground := Ground.data }], guard := none }) rfl (fun K hK => ?_) (AllReadyH.cons (o := { dst := some 7, op := Op.alloc 24, type := 0, pos := "chain.go:29", after := #[], guard := none }) rfl (fun K hK => ?_) AllReadyH.nil)
        · rw [if_pos (by rfl)]
          go_simp
          have qz320 := World.grownBy_alloc vz313 (.cells #[.slice (some ⟨g3, 0, none⟩) 32 32] 66) none
          obtain ⟨vz319, hvz321⟩ : ∃ w', vz313.alloc (.cells #[.slice (some ⟨g3, 0, none⟩) 32 32] 66) = w' := ⟨_, rfl⟩
          obtain ⟨gl, hgl⟩ : ∃ g, g = vz313.heap.size := ⟨_, rfl⟩
          have lz322 := lst_one HK.out (byt_of (Reg.blk Rz317 B3.out NG3.out)) (Reg.blk Rz317 B3.out NG3.out).lt hvz321 hgl
          rw [hvz321] at qz320 ⊢
          rw [← hgl]
          have nlz323 : ¬ ok gl := NOK4 gl (by rw [hgl]; exact Rz317.md.size)
          have Rz324 := Rz317.alloc qz320
          have hll : gl < vz319.heap.size := by rw [← hvz321, World.size_alloc, hgl]; exact Nat.lt_succ_self _
          clear hgl hvz321
          refine hK.out _ _ (range_of (Reg.blk Rz324 B2.out NG2.out)) (fun hHeld => ?_)
          clear hK K
          try simp only [Act.put, List.setIfInBounds_toArray, List.set_cons_zero, List.set_cons_succ]
          refine wpAnyH_ready (rs := [4, 9]) (by kernel_rfl) (by simp) ?_
          refine AllReadyH.cons (o := { dst := some 20, op := Op.call { callee := Callee.value (Operand.func 23), args := #[Operand.tmp 16, Operand.const (Value.int IntKind.u8 77), Operand.const (Value.int IntKind.u8 78), Operand.tmp 19], argTypes := #[29, 5, 5, 75] }, type := 25, pos := "chain.go:29", after := #[{ on := 0, ground := Ground.data }, { on := 3, ground := Ground.data }], guard := none }) rfl (fun K hK => ?_) (AllReadyH.cons (o := { dst := some 7, op := Op.alloc 24, type := 0, pos := "chain.go:29", after := #[], guard := none }) rfl (fun K hK => ?_) AllReadyH.nil)
          · rw [if_pos (by rfl)]
            go_simp
            have hcz327 : Calls Tryd.prog 23 #[.agg #[pv], .int .u8 77, .int .u8 78, .slice (some ⟨gl, 0, none⟩) 1 1] vz319 fun e w' => e = .returned (.tuple #[.agg (u8s a).toArray, .agg (u8s b).toArray, .bool true]) ∧ Nx vz319 ok p σ2 w' := by
              have h := mixes_any (c := 1) 77 78 Rz324.sui HR.out lz322 (fun b hb => hb.elim (fun e => by rw [e]; exact ⟨(Reg.blk Rz324 B3.out NG3.out).lt, NG3.out⟩) (fun e => by rw [e]; exact ⟨hll, nlz323⟩)) rfl (mixOk_one HK.out)
              rw [HTAB.out] at h
              refine h.mono fun e w' ⟨he, hn⟩ => ⟨?_, by rw [H2.out]; exact hn⟩
              rw [HA.out, HB.out]
              exact he
            with_reducible refine hcz327.mono ?_
            rintro _ vz325 ⟨rfl, nxz326⟩
            have Rz328 := Rz324.call nxz326
            have nz329 : ¬ More ok vz319 vz325 g8 := More.not nz318 ((kz315.out.grown qz320 (by simp))).lt
            have nz329b := (Nx.blk nxz326 ((kz315.out.grown qz320 (by simp))) nz318)
            refine hK.out _ _ (range_of (Reg.blk Rz328 B2.out NG2.out)) (fun hHeld => ?_)
            clear hK K
            try simp only [Act.put, List.setIfInBounds_toArray, List.set_cons_zero, List.set_cons_succ]
            refine' wpAnyH_take (i := 5) (oi := { dst := some 15, op := Op.move (Operand.tmp 20), type := 25, pos := "chain.go:29", after := #[{ on := 4, ground := Ground.data }], guard := none }) (v := .tuple #[.agg (u8s a).toArray, .agg (u8s b).toArray, .bool true]) rfl (by kernel_rfl) (by kernel_rfl) (by kernel_rfl) (fun _ _ _ h => h) (Or.inl ⟨by rfl, fun _ _ => rfl⟩) (by assumption) ?qz330
            try simp only [Act.put, List.setIfInBounds_toArray, List.set_cons_zero, List.set_cons_succ]
            refine' wpAnyH_take (i := 6) (oi := { dst := some 21, op := Op.extract (Operand.tmp 15) 0, type := 24, pos := "chain.go:29", after := #[{ on := 5, ground := Ground.data }], guard := none }) (v := .agg (u8s a).toArray) rfl (by kernel_rfl) (by kernel_rfl) (by kernel_rfl) (fun _ _ _ h => h) (Or.inl ⟨by rfl, fun _ _ => rfl⟩) (by assumption) ?qz331
            try simp only [Act.put, List.setIfInBounds_toArray, List.set_cons_zero, List.set_cons_succ]
            refine' wpAnyH_take (i := 7) (oi := { dst := some 22, op := Op.extract (Operand.tmp 15) 1, type := 24, pos := "chain.go:29", after := #[{ on := 5, ground := Ground.data }, { on := 11, ground := Ground.gcOnly Departure.lateStores }], guard := none }) (v := .agg (u8s b).toArray) rfl (by kernel_rfl) (by kernel_rfl) (by kernel_rfl) (fun _ _ _ h => h) (Or.inl ⟨by rfl, fun _ _ => rfl⟩) (by assumption) ?qz332
            try simp only [Act.put, List.setIfInBounds_toArray, List.set_cons_zero, List.set_cons_succ]
            refine' wpAnyH_take (i := 8) (oi := { dst := some 23, op := Op.extract (Operand.tmp 15) 2, type := 4, pos := "chain.go:29", after := #[{ on := 5, ground := Ground.data }, { on := 12, ground := Ground.gcOnly Departure.lateStores }], guard := none }) (v := .bool true) rfl (by kernel_rfl) (by kernel_rfl) (by kernel_rfl) (fun _ _ _ h => h) (Or.inl ⟨by rfl, fun _ _ => rfl⟩) (by assumption) ?qz333
            try simp only [Act.put, List.setIfInBounds_toArray, List.set_cons_zero, List.set_cons_succ]
            refine wpAnyH_ready (rs := [9]) (by kernel_rfl) (by simp) ?_
            refine AllReadyH.cons (o := { dst := some 7, op := Op.alloc 24, type := 0, pos := "chain.go:29", after := #[], guard := none }) rfl (fun K hK => ?_) AllReadyH.nil
            rw [if_pos (by rfl)]
            refine wp_allocG zeY rfl (fun g7 vz334 ez335 kz336 qz337 => ?_)
            have nz339 : ¬ (More ok vz319 vz325) g7 := Rz328.not_new (Nat.le_of_eq ez335.out.symm)
            have Rz338 := Rz328.alloc qz337.out
            have nz339w : w4.heap.size ≤ g7 := by rw [ez335.out]; exact Rz328.md.size
            have ne9_10 : g8 ≠ g7 := fun e => by have h1 := (nz329b).lt; have h2 := ez335.out; omega
            have nbz340 := (nz329b).grown qz337.out (by simp)
            refine hK.out _ _ (range_of (Reg.blk Rz338 B2.out NG2.out)) (fun hHeld => ?_)
            clear hK K
            try simp only [Act.put, List.setIfInBounds_toArray, List.set_cons_zero, List.set_cons_succ]
            refine wpAnyH_ready (rs := [11]) (by kernel_rfl) (by simp) ?_
            refine AllReadyH.cons (o := { dst := none, op := Op.store 24 (Operand.tmp 7) (Operand.tmp 21), type := 0, pos := "chain.go:29", after := #[{ on := 9, ground := Ground.data }, { on := 6, ground := Ground.data }, { on := 4, ground := Ground.chain }, { on := 0, ground := Ground.phase }, { on := 1, ground := Ground.phase }, { on := 2, ground := Ground.phase }, { on := 3, ground := Ground.phase }, { on := 4, ground := Ground.phase }, { on := 5, ground := Ground.phase }, { on := 6, ground := Ground.phase }, { on := 7, ground := Ground.textOnly Departure.lateStores }, { on := 8, ground := Ground.textOnly Departure.lateStores }, { on := 9, ground := Ground.phase }, { on := 10, ground := Ground.phase }], guard := none }) rfl (fun K hK => ?_) AllReadyH.nil
            rw [if_pos (by rfl)]
            refine wp_storeG agY _ _ rfl g7 rfl rfl (kz336.out) (by rw [u8s_length, z32_length]) (by rw [u8s_length, HAL.out]) (u8s_one _) (fun vz341 kz342 qz343 zz344 => ?_)
            have Rz345 := Rz338.store qz343.out nz339 nz339w S4.out.two
            have nbz346 := (nbz340).grown qz343.out (by simpa using ne9_10)
            refine hK.out _ _ (range_of (Reg.blk Rz345 B2.out NG2.out)) (fun hHeld => ?_)
            clear hK K
            dsimp only [Act.put]
            refine wpAnyH_ready (rs := [12]) (by kernel_rfl) (by simp) ?_
            refine AllReadyH.cons (o := { dst := none, op := Op.store 24 (Operand.tmp 8) (Operand.tmp 22), type := 0, pos := "chain.go:29", after := #[{ on := 10, ground := Ground.data }, { on := 7, ground := Ground.data }, { on := 11, ground := Ground.chain }, { on := 0, ground := Ground.phase }, { on := 1, ground := Ground.phase }, { on := 2, ground := Ground.phase }, { on := 3, ground := Ground.phase }, { on := 4, ground := Ground.phase }, { on := 5, ground := Ground.phase }, { on := 6, ground := Ground.phase }, { on := 7, ground := Ground.phase }, { on := 8, ground := Ground.textOnly Departure.lateStores }, { on := 9, ground := Ground.phase }, { on := 10, ground := Ground.phase }, { on := 11, ground := Ground.phase }], guard := none }) rfl (fun K hK => ?_) AllReadyH.nil
            rw [if_pos (by rfl)]
            refine wp_storeG agY _ _ rfl g8 rfl rfl (nbz346) (by rw [u8s_length, z32_length]) (by rw [u8s_length, HBL.out]) (u8s_one _) (fun vz347 kz348 qz349 zz350 => ?_)
            have Rz351 := Rz345.store qz349.out nz329 nz318w S4.out.two
            have nbz352 := (kz342.out).grown qz349.out (by simpa using (Ne.symm ne9_10))
            refine hK.out _ _ (range_of (Reg.blk Rz351 B2.out NG2.out)) (fun hHeld => ?_)
            clear hK K
            dsimp only [Act.put]
            refine wpAnyH_ready (rs := [13]) (by kernel_rfl) (by simp) ?_
            refine AllReadyH.cons (o := { dst := some 9, op := Op.assign (Operand.tmp 23), type := 4, pos := "chain.go:29", after := #[{ on := 8, ground := Ground.data }, { on := 12, ground := Ground.chain }, { on := 0, ground := Ground.phase }, { on := 1, ground := Ground.phase }, { on := 2, ground := Ground.phase }, { on := 3, ground := Ground.phase }, { on := 4, ground := Ground.phase }, { on := 5, ground := Ground.phase }, { on := 6, ground := Ground.phase }, { on := 7, ground := Ground.phase }, { on := 8, ground := Ground.phase }, { on := 9, ground := Ground.phase }, { on := 10, ground := Ground.phase }, { on := 11, ground := Ground.phase }, { on := 12, ground := Ground.phase }], guard := none }) rfl (fun K hK => ?_) AllReadyH.nil
            rw [if_pos (by rfl)]
            go_simp
            refine hK.out _ _ hHeld (fun hHeld => ?_)
            clear hK K
            try simp only [Act.put, List.setIfInBounds_toArray, List.set_cons_zero, List.set_cons_succ]
            refine wpAnyH_done (by kernel_rfl) ?_ _
            exact hrest_ _ _ _ gl ⟨Rz351.nx S4.out.lt, nbz352, kz348.out, nz339w, nz318w⟩
          · rw [if_pos (by rfl)]
            refine wp_allocG zeY rfl (fun g7 vz353 ez354 kz355 qz356 => ?_)
            have nz358 : ¬ ok g7 := Rz324.not_new (Nat.le_of_eq ez354.out.symm)
            have Rz357 := Rz324.alloc qz356.out
            have nz358w : w4.heap.size ≤ g7 := by rw [ez354.out]; exact Rz324.md.size
            have ne9_10 : g8 ≠ g7 := fun e => by have h1 := ((kz315.out.grown qz320 (by simp))).lt; have h2 := ez354.out; omega
            have nbz359 := ((kz315.out.grown qz320 (by simp))).grown qz356.out (by simp)
            have dz362 : ∀ b, (b = g3 ∨ b = gl) → b < vz319.heap.size ∧ ¬ ok b := (fun b hb => hb.elim (fun e => by rw [e]; exact ⟨(Reg.blk Rz324 B3.out NG3.out).lt, NG3.out⟩) (fun e => by rw [e]; exact ⟨hll, nlz323⟩))
            have lz360 := lz322.keep fun b hb => qz356.out.block b (dz362 b hb).1 (by simp)
            have hllz361 := Nat.lt_of_lt_of_le hll qz356.out.size
            refine hK.out _ _ (range_of (Reg.blk Rz357 B2.out NG2.out)) (fun hHeld => ?_)
            clear hK K
            try simp only [Act.put, List.setIfInBounds_toArray, List.set_cons_zero, List.set_cons_succ]
            refine wpAnyH_ready (rs := [4]) (by kernel_rfl) (by simp) ?_
            refine AllReadyH.cons (o := { dst := some 20, op := Op.call { callee := Callee.value (Operand.func 23), args := #[Operand.tmp 16, Operand.const (Value.int IntKind.u8 77), Operand.const (Value.int IntKind.u8 78), Operand.tmp 19], argTypes := #[29, 5, 5, 75] }, type := 25, pos := "chain.go:29", after := #[{ on := 0, ground := Ground.data }, { on := 3, ground := Ground.data }], guard := none }) rfl (fun K hK => ?_) AllReadyH.nil
            rw [if_pos (by rfl)]
            go_simp
            have hcz365 : Calls Tryd.prog 23 #[.agg #[pv], .int .u8 77, .int .u8 78, .slice (some ⟨gl, 0, none⟩) 1 1] vz353 fun e w' => e = .returned (.tuple #[.agg (u8s a).toArray, .agg (u8s b).toArray, .bool true]) ∧ Nx vz353 ok p σ2 w' := by
              have h := mixes_any (c := 1) 77 78 Rz357.sui HR.out lz360 (fun b hb => hb.elim (fun e => by rw [e]; exact ⟨(Reg.blk Rz357 B3.out NG3.out).lt, NG3.out⟩) (fun e => by rw [e]; exact ⟨hllz361, nlz323⟩)) rfl (mixOk_one HK.out)
              rw [HTAB.out] at h
              refine h.mono fun e w' ⟨he, hn⟩ => ⟨?_, by rw [H2.out]; exact hn⟩
              rw [HA.out, HB.out]
              exact he
            with_reducible refine hcz365.mono ?_
            rintro _ vz363 ⟨rfl, nxz364⟩
            have Rz366 := Rz357.call nxz364
            have nz367 : ¬ More ok vz353 vz363 g8 := More.not nz318 (nbz359).lt
            have nz367b := (Nx.blk nxz364 (nbz359) nz318)
            have nz368 : ¬ More ok vz353 vz363 g7 := More.not nz358 (kz355.out).lt
            have nz368b := (Nx.blk nxz364 (kz355.out) nz358)
            refine hK.out _ _ (range_of (Reg.blk Rz366 B2.out NG2.out)) (fun hHeld => ?_)
            clear hK K
            try simp only [Act.put, List.setIfInBounds_toArray, List.set_cons_zero, List.set_cons_succ]
            refine' wpAnyH_take (i := 5) (oi := { dst := some 15, op := Op.move (Operand.tmp 20), type := 25, pos := "chain.go:29", after := #[{ on := 4, ground := Ground.data }], guard := none }) (v := .tuple #[.agg (u8s a).toArray, .agg (u8s b).toArray, .bool true]) rfl (by kernel_rfl) (by kernel_rfl) (by kernel_rfl) (fun _ _ _ h => h) (Or.inl ⟨by rfl, fun _ _ => rfl⟩) (by assumption) ?qz369
            try simp only [Act.put, List.setIfInBounds_toArray, List.set_cons_zero, List.set_cons_succ]
            refine' wpAnyH_take (i := 6) (oi := { dst := some 21, op := Op.extract (Operand.tmp 15) 0, type := 24, pos := "chain.go:29", after := #[{ on := 5, ground := Ground.data }], guard := none }) (v := .agg (u8s a).toArray) rfl (by kernel_rfl) (by kernel_rfl) (by kernel_rfl) (fun _ _ _ h => h) (Or.inl ⟨by rfl, fun _ _ => rfl⟩) (by assumption) ?qz370
            try simp only [Act.put, List.setIfInBounds_toArray, List.set_cons_zero, List.set_cons_succ]
            refine' wpAnyH_take (i := 7) (oi := { dst := some 22, op := Op.extract (Operand.tmp 15) 1, type := 24, pos := "chain.go:29", after := #[{ on := 5, ground := Ground.data }, { on := 11, ground := Ground.gcOnly Departure.lateStores }], guard := none }) (v := .agg (u8s b).toArray) rfl (by kernel_rfl) (by kernel_rfl) (by kernel_rfl) (fun _ _ _ h => h) (Or.inl ⟨by rfl, fun _ _ => rfl⟩) (by assumption) ?qz371
            try simp only [Act.put, List.setIfInBounds_toArray, List.set_cons_zero, List.set_cons_succ]
            refine' wpAnyH_take (i := 8) (oi := { dst := some 23, op := Op.extract (Operand.tmp 15) 2, type := 4, pos := "chain.go:29", after := #[{ on := 5, ground := Ground.data }, { on := 12, ground := Ground.gcOnly Departure.lateStores }], guard := none }) (v := .bool true) rfl (by kernel_rfl) (by kernel_rfl) (by kernel_rfl) (fun _ _ _ h => h) (Or.inl ⟨by rfl, fun _ _ => rfl⟩) (by assumption) ?qz372
            try simp only [Act.put, List.setIfInBounds_toArray, List.set_cons_zero, List.set_cons_succ]
            refine wpAnyH_ready (rs := [11]) (by kernel_rfl) (by simp) ?_
            refine AllReadyH.cons (o := { dst := none, op := Op.store 24 (Operand.tmp 7) (Operand.tmp 21), type := 0, pos := "chain.go:29", after := #[{ on := 9, ground := Ground.data }, { on := 6, ground := Ground.data }, { on := 4, ground := Ground.chain }, { on := 0, ground := Ground.phase }, { on := 1, ground := Ground.phase }, { on := 2, ground := Ground.phase }, { on := 3, ground := Ground.phase }, { on := 4, ground := Ground.phase }, { on := 5, ground := Ground.phase }, { on := 6, ground := Ground.phase }, { on := 7, ground := Ground.textOnly Departure.lateStores }, { on := 8, ground := Ground.textOnly Departure.lateStores }, { on := 9, ground := Ground.phase }, { on := 10, ground := Ground.phase }], guard := none }) rfl (fun K hK => ?_) AllReadyH.nil
            rw [if_pos (by rfl)]
            refine wp_storeG agY _ _ rfl g7 rfl rfl (nz368b) (by rw [u8s_length, z32_length]) (by rw [u8s_length, HAL.out]) (u8s_one _) (fun vz373 kz374 qz375 zz376 => ?_)
            have Rz377 := Rz366.store qz375.out nz368 nz358w S4.out.two
            have nbz378 := (nz367b).grown qz375.out (by simpa using ne9_10)
            refine hK.out _ _ (range_of (Reg.blk Rz377 B2.out NG2.out)) (fun hHeld => ?_)
            clear hK K
            dsimp only [Act.put]
            refine wpAnyH_ready (rs := [12]) (by kernel_rfl) (by simp) ?_
            refine AllReadyH.cons (o := { dst := none, op := Op.store 24 (Operand.tmp 8) (Operand.tmp 22), type := 0, pos := "chain.go:29", after := #[{ on := 10, ground := Ground.data }, { on := 7, ground := Ground.data }, { on := 11, ground := Ground.chain }, { on := 0, ground := Ground.phase }, { on := 1, ground := Ground.phase }, { on := 2, ground := Ground.phase }, { on := 3, ground := Ground.phase }, { on := 4, ground := Ground.phase }, { on := 5, ground := Ground.phase }, { on := 6, ground := Ground.phase }, { on := 7, ground := Ground.phase }, { on := 8, ground := Ground.textOnly Departure.lateStores }, { on := 9, ground := Ground.phase }, { on := 10, ground := Ground.phase }, { on := 11, ground := Ground.phase }], guard := none }) rfl (fun K hK => ?_) AllReadyH.nil
            rw [if_pos (by rfl)]
            refine wp_storeG agY _ _ rfl g8 rfl rfl (nbz378) (by rw [u8s_length, z32_length]) (by rw [u8s_length, HBL.out]) (u8s_one _) (fun vz379 kz380 qz381 zz382 => ?_)
            have Rz383 := Rz377.store qz381.out nz367 nz318w S4.out.two
            have nbz384 := (kz374.out).grown qz381.out (by simpa using (Ne.symm ne9_10))
            refine hK.out _ _ (range_of (Reg.blk Rz383 B2.out NG2.out)) (fun hHeld => ?_)
            clear hK K
            dsimp only [Act.put]
            refine wpAnyH_ready (rs := [13]) (by kernel_rfl) (by simp) ?_
            refine AllReadyH.cons (o := { dst := some 9, op := Op.assign (Operand.tmp 23), type := 4, pos := "chain.go:29", after := #[{ on := 8, ground := Ground.data }, { on := 12, ground := Ground.chain }, { on := 0, ground := Ground.phase }, { on := 1, ground := Ground.phase }, { on := 2, ground := Ground.phase }, { on := 3, ground := Ground.phase }, { on := 4, ground := Ground.phase }, { on := 5, ground := Ground.phase }, { on := 6, ground := Ground.phase }, { on := 7, ground := Ground.phase }, { on := 8, ground := Ground.phase }, { on := 9, ground := Ground.phase }, { on := 10, ground := Ground.phase }, { on := 11, ground := Ground.phase }, { on := 12, ground := Ground.phase }], guard := none }) rfl (fun K hK => ?_) AllReadyH.nil
            rw [if_pos (by rfl)]
            go_simp
            refine hK.out _ _ hHeld (fun hHeld => ?_)
            clear hK K
            try simp only [Act.put, List.setIfInBounds_toArray, List.set_cons_zero, List.set_cons_succ]
            refine wpAnyH_done (by kernel_rfl) ?_ _
            exact hrest_ _ _ _ gl ⟨Rz383.nx S4.out.lt, nbz384, kz380.out, nz358w, nz318w⟩
        · rw [if_pos (by rfl)]
          refine wp_allocG zeY rfl (fun g7 vz385 ez386 kz387 qz388 => ?_)
          have nz390 : ¬ ok g7 := Rz317.not_new (Nat.le_of_eq ez386.out.symm)
          have Rz389 := Rz317.alloc qz388.out
          have nz390w : w4.heap.size ≤ g7 := by rw [ez386.out]; exact Rz317.md.size
          have ne9_10 : g8 ≠ g7 := fun e => by have h1 := (kz315.out).lt; have h2 := ez386.out; omega
          have nbz391 := (kz315.out).grown qz388.out (by simp)
          refine hK.out _ _ (range_of (Reg.blk Rz389 B2.out NG2.out)) (fun hHeld => ?_)
          clear hK K
          try simp only [Act.put, List.setIfInBounds_toArray, List.set_cons_zero, List.set_cons_succ]
          refine wpAnyH_ready (rs := [3]) (by kernel_rfl) (by simp) ?_
          refine AllReadyH.cons (o := { dst := some 19, op := Op.buildSlice 75 1 #[(0, Operand.tmp 18)], type := 75, pos := "chain.go:29", after := #[{ on := 2, ground := Ground.data }], guard := none }) rfl (fun K hK => ?_) AllReadyH.nil
          rw [if_pos (by rfl)]
          go_simp
          have qz393 := World.grownBy_alloc vz385 (.cells #[.slice (some ⟨g3, 0, none⟩) 32 32] 66) none
          obtain ⟨vz392, hvz394⟩ : ∃ w', vz385.alloc (.cells #[.slice (some ⟨g3, 0, none⟩) 32 32] 66) = w' := ⟨_, rfl⟩
          obtain ⟨gl, hgl⟩ : ∃ g, g = vz385.heap.size := ⟨_, rfl⟩
          have lz395 := lst_one HK.out (byt_of (Reg.blk Rz389 B3.out NG3.out)) (Reg.blk Rz389 B3.out NG3.out).lt hvz394 hgl
          rw [hvz394] at qz393 ⊢
          rw [← hgl]
          have nlz396 : ¬ ok gl := NOK4 gl (by rw [hgl]; exact Rz389.md.size)
          have Rz397 := Rz389.alloc qz393
          have hll : gl < vz392.heap.size := by rw [← hvz394, World.size_alloc, hgl]; exact Nat.lt_succ_self _
          clear hgl hvz394
          refine hK.out _ _ (range_of (Reg.blk Rz397 B2.out NG2.out)) (fun hHeld => ?_)
          clear hK K
          try simp only [Act.put, List.setIfInBounds_toArray, List.set_cons_zero, List.set_cons_succ]
          refine wpAnyH_ready (rs := [4]) (by kernel_rfl) (by simp) ?_
          refine AllReadyH.cons (o := { dst := some 20, op := Op.call { callee := Callee.value (Operand.func 23), args := #[Operand.tmp 16, Operand.const (Value.int IntKind.u8 77), Operand.const (Value.int IntKind.u8 78), Operand.tmp 19], argTypes := #[29, 5, 5, 75] }, type := 25, pos := "chain.go:29", after := #[{ on := 0, ground := Ground.data }, { on := 3, ground := Ground.data }], guard := none }) rfl (fun K hK => ?_) AllReadyH.nil
          rw [if_pos (by rfl)]
          go_simp
          have hcz400 : Calls Tryd.prog 23 #[.agg #[pv], .int .u8 77, .int .u8 78, .slice (some ⟨gl, 0, none⟩) 1 1] vz392 fun e w' => e = .returned (.tuple #[.agg (u8s a).toArray, .agg (u8s b).toArray, .bool true]) ∧ Nx vz392 ok p σ2 w' := by
            have h := mixes_any (c := 1) 77 78 Rz397.sui HR.out lz395 (fun b hb => hb.elim (fun e => by rw [e]; exact ⟨(Reg.blk Rz397 B3.out NG3.out).lt, NG3.out⟩) (fun e => by rw [e]; exact ⟨hll, nlz396⟩)) rfl (mixOk_one HK.out)
            rw [HTAB.out] at h
            refine h.mono fun e w' ⟨he, hn⟩ => ⟨?_, by rw [H2.out]; exact hn⟩
            rw [HA.out, HB.out]
            exact he
          with_reducible refine hcz400.mono ?_
          rintro _ vz398 ⟨rfl, nxz399⟩
          have Rz401 := Rz397.call nxz399
          have nz402 : ¬ More ok vz392 vz398 g8 := More.not nz318 ((nbz391.grown qz393 (by simp))).lt
          have nz402b := (Nx.blk nxz399 ((nbz391.grown qz393 (by simp))) nz318)
          have nz403 : ¬ More ok vz392 vz398 g7 := More.not nz390 ((kz387.out.grown qz393 (by simp))).lt
          have nz403b := (Nx.blk nxz399 ((kz387.out.grown qz393 (by simp))) nz390)
          refine hK.out _ _ (range_of (Reg.blk Rz401 B2.out NG2.out)) (fun hHeld => ?_)
          clear hK K
          try simp only [Act.put, List.setIfInBounds_toArray, List.set_cons_zero, List.set_cons_succ]
          refine' wpAnyH_take (i := 5) (oi := { dst := some 15, op := Op.move (Operand.tmp 20), type := 25, pos := "chain.go:29", after := #[{ on := 4, ground := Ground.data }], guard := none }) (v := .tuple #[.agg (u8s a).toArray, .agg (u8s b).toArray, .bool true]) rfl (by kernel_rfl) (by kernel_rfl) (by kernel_rfl) (fun _ _ _ h => h) (Or.inl ⟨by rfl, fun _ _ => rfl⟩) (by assumption) ?qz404
          try simp only [Act.put, List.setIfInBounds_toArray, List.set_cons_zero, List.set_cons_succ]
          refine' wpAnyH_take (i := 6) (oi := { dst := some 21, op := Op.extract (Operand.tmp 15) 0, type := 24, pos := "chain.go:29", after := #[{ on := 5, ground := Ground.data }], guard := none }) (v := .agg (u8s a).toArray) rfl (by kernel_rfl) (by kernel_rfl) (by kernel_rfl) (fun _ _ _ h => h) (Or.inl ⟨by rfl, fun _ _ => rfl⟩) (by assumption) ?qz405
          try simp only [Act.put, List.setIfInBounds_toArray, List.set_cons_zero, List.set_cons_succ]
          refine' wpAnyH_take (i := 7) (oi := { dst := some 22, op := Op.extract (Operand.tmp 15) 1, type := 24, pos := "chain.go:29", after := #[{ on := 5, ground := Ground.data }, { on := 11, ground := Ground.gcOnly Departure.lateStores }], guard := none }) (v := .agg (u8s b).toArray) rfl (by kernel_rfl) (by kernel_rfl) (by kernel_rfl) (fun _ _ _ h => h) (Or.inl ⟨by rfl, fun _ _ => rfl⟩) (by assumption) ?qz406
          try simp only [Act.put, List.setIfInBounds_toArray, List.set_cons_zero, List.set_cons_succ]
          refine' wpAnyH_take (i := 8) (oi := { dst := some 23, op := Op.extract (Operand.tmp 15) 2, type := 4, pos := "chain.go:29", after := #[{ on := 5, ground := Ground.data }, { on := 12, ground := Ground.gcOnly Departure.lateStores }], guard := none }) (v := .bool true) rfl (by kernel_rfl) (by kernel_rfl) (by kernel_rfl) (fun _ _ _ h => h) (Or.inl ⟨by rfl, fun _ _ => rfl⟩) (by assumption) ?qz407
          try simp only [Act.put, List.setIfInBounds_toArray, List.set_cons_zero, List.set_cons_succ]
          refine wpAnyH_ready (rs := [11]) (by kernel_rfl) (by simp) ?_
          refine AllReadyH.cons (o := { dst := none, op := Op.store 24 (Operand.tmp 7) (Operand.tmp 21), type := 0, pos := "chain.go:29", after := #[{ on := 9, ground := Ground.data }, { on := 6, ground := Ground.data }, { on := 4, ground := Ground.chain }, { on := 0, ground := Ground.phase }, { on := 1, ground := Ground.phase }, { on := 2, ground := Ground.phase }, { on := 3, ground := Ground.phase }, { on := 4, ground := Ground.phase }, { on := 5, ground := Ground.phase }, { on := 6, ground := Ground.phase }, { on := 7, ground := Ground.textOnly Departure.lateStores }, { on := 8, ground := Ground.textOnly Departure.lateStores }, { on := 9, ground := Ground.phase }, { on := 10, ground := Ground.phase }], guard := none }) rfl (fun K hK => ?_) AllReadyH.nil
          rw [if_pos (by rfl)]
          refine wp_storeG agY _ _ rfl g7 rfl rfl (nz403b) (by rw [u8s_length, z32_length]) (by rw [u8s_length, HAL.out]) (u8s_one _) (fun vz408 kz409 qz410 zz411 => ?_)
          have Rz412 := Rz401.store qz410.out nz403 nz390w S4.out.two
          have nbz413 := (nz402b).grown qz410.out (by simpa using ne9_10)
          refine hK.out _ _ (range_of (Reg.blk Rz412 B2.out NG2.out)) (fun hHeld => ?_)
          clear hK K
          dsimp only [Act.put]
          refine wpAnyH_ready (rs := [12]) (by kernel_rfl) (by simp) ?_
          refine AllReadyH.cons (o := { dst := none, op := Op.store 24 (Operand.tmp 8) (Operand.tmp 22), type := 0, pos := "chain.go:29", after := #[{ on := 10, ground := Ground.data }, { on := 7, ground := Ground.data }, { on := 11, ground := Ground.chain }, { on := 0, ground := Ground.phase }, { on := 1, ground := Ground.phase }, { on := 2, ground := Ground.phase }, { on := 3, ground := Ground.phase }, { on := 4, ground := Ground.phase }, { on := 5, ground := Ground.phase }, { on := 6, ground := Ground.phase }, { on := 7, ground := Ground.phase }, { on := 8, ground := Ground.textOnly Departure.lateStores }, { on := 9, ground := Ground.phase }, { on := 10, ground := Ground.phase }, { on := 11, ground := Ground.phase }], guard := none }) rfl (fun K hK => ?_) AllReadyH.nil
          rw [if_pos (by rfl)]
          refine wp_storeG agY _ _ rfl g8 rfl rfl (nbz413) (by rw [u8s_length, z32_length]) (by rw [u8s_length, HBL.out]) (u8s_one _) (fun vz414 kz415 qz416 zz417 => ?_)
          have Rz418 := Rz412.store qz416.out nz402 nz318w S4.out.two
          have nbz419 := (kz409.out).grown qz416.out (by simpa using (Ne.symm ne9_10))
          refine hK.out _ _ (range_of (Reg.blk Rz418 B2.out NG2.out)) (fun hHeld => ?_)
          clear hK K
          dsimp only [Act.put]
          refine wpAnyH_ready (rs := [13]) (by kernel_rfl) (by simp) ?_
          refine AllReadyH.cons (o := { dst := some 9, op := Op.assign (Operand.tmp 23), type := 4, pos := "chain.go:29", after := #[{ on := 8, ground := Ground.data }, { on := 12, ground := Ground.chain }, { on := 0, ground := Ground.phase }, { on := 1, ground := Ground.phase }, { on := 2, ground := Ground.phase }, { on := 3, ground := Ground.phase }, { on := 4, ground := Ground.phase }, { on := 5, ground := Ground.phase }, { on := 6, ground := Ground.phase }, { on := 7, ground := Ground.phase }, { on := 8, ground := Ground.phase }, { on := 9, ground := Ground.phase }, { on := 10, ground := Ground.phase }, { on := 11, ground := Ground.phase }, { on := 12, ground := Ground.phase }], guard := none }) rfl (fun K hK => ?_) AllReadyH.nil
          rw [if_pos (by rfl)]
          go_simp
          refine hK.out _ _ hHeld (fun hHeld => ?_)
          clear hK K
          try simp only [Act.put, List.setIfInBounds_toArray, List.set_cons_zero, List.set_cons_succ]
          refine wpAnyH_done (by kernel_rfl) ?_ _
          exact hrest_ _ _ _ gl ⟨Rz418.nx S4.out.lt, nbz419, kz415.out, nz390w, nz318w⟩
    · intro w5 g7 g8 gl ⟨nx5, b7, b8, w7, w8⟩
      have NX5x := Lib.hid nx5
      have W7 := Lib.hid w7
      have W8 := Lib.hid w8
      have B7 := Lib.hid b7
      have B8 := Lib.hid b8
      have B3b := Lib.hid (nx5.blk B3.out NG3.out)
      have B4b := Lib.hid (nx5.blk B4.out (NOK.out g4 (by have := NE.out; omega)))
      have B5b := Lib.hid (nx5.blk B5.out (NOK.out g5 (by have := NE.out; omega)))
      have hc2 := blk_n B3b.out HK.out
      clear nx5 b7 b8 w7 w8
      have NX4 : Hid (g8 ≠ g4 ∧ g7 ≠ g4 ∧ g3 ≠ g4) := by have := NE.out; have := W7.out; have := W8.out; show _ ∧ _; omega
      have NX5 : Hid (g8 ≠ g5 ∧ g7 ≠ g5 ∧ g3 ≠ g5) := by have := NE.out; have := W7.out; have := W8.out; show _ ∧ _; omega
      have N54 : Hid (g5 ≠ g4) := by have := NE.out; show g5 ≠ g4; omega
      have N45 : Hid (g4 ≠ g5) := by have := NE.out; show g4 ≠ g5; omega
      have NMQ : ∀ g, w.heap.size ≤ g → g < w4.heap.size → ¬ More ok w4 w5 g := fun g h1 h2 hb => hb.elim (NOK.out g h1) fun h => by omega
      have NM4 := Lib.hid (NMQ g4 (by have := NE.out; omega) (by have := NE.out; omega))
      have NM5 := Lib.hid (NMQ g5 (by have := NE.out; omega) (by have := NE.out; omega))
      have HWR : Hid (IntKind.u16.wrap ((n : Int) + 1) = (n : Int) + 1) := by
        have := H65.out
        show _ = _
        simp [IntKind.wrap, IntKind.bits, IntKind.signed]
        omega
      clear NMQ
      go_wp2_with fail
      refine wp_region_held_drew (S := fun W => W.rangeAt g8 0 (u8s b) ∧ W.rangeAt g7 0 (u8s a) ∧ W.cell? ⟨g3, 32, none⟩ = some (.int .u16 (n : Int))) (by kernel_rfl) ⟨range_of B8.out, range_of B7.out, hc2⟩ (fun hHeld => ?_)
      refine' wpAnyH_take (i := 0) (oi := { dst := some 28, op := Op.load 24 (Operand.tmp 8), type := 24, pos := "chain.go:33", after := #[], guard := none }) (v := .agg (u8s b).toArray) rfl (by kernel_rfl) (by kernel_rfl) (by kernel_rfl) (fun _ _ _ h => h) (yieldsIf_loadR agY (by rfl) (.tmp 8) rfl g8 0 rfl (by rw [u8s_length, HBL.out]) (fun _ h => h.1)) (by assumption) ?qz5001
      try simp only [Act.put, List.setIfInBounds_toArray, List.set_cons_zero, List.set_cons_succ]
      refine' wpAnyH_take (i := 1) (oi := { dst := some 29, op := Op.fieldAddr 40 (Operand.tmp 3) 1, type := 0, pos := "chain.go:33", after := #[], guard := none }) (v := .pointer (some ⟨g3, 32, none⟩)) rfl (by kernel_rfl) (by kernel_rfl) (by kernel_rfl) (fun _ _ _ h => h) (Or.inl ⟨by rfl, fun w' hSw => by go_simp⟩) (by assumption) ?qz5002
      try simp only [Act.put, List.setIfInBounds_toArray, List.set_cons_zero, List.set_cons_succ]
      refine' wpAnyH_take (i := 2) (oi := { dst := some 30, op := Op.load 38 (Operand.tmp 29), type := 38, pos := "chain.go:33", after := #[{ on := 1, ground := Ground.data }], guard := none }) (v := .int .u16 (n : Int)) rfl (by kernel_rfl) (by kernel_rfl) (by kernel_rfl) (fun _ _ _ h => h) (Or.inl ⟨by rfl, fun w' hSw => by have h3 := hSw.2.2; go_simp⟩) (by assumption) ?qz5003
      try simp only [Act.put, List.setIfInBounds_toArray, List.set_cons_zero, List.set_cons_succ]
      refine' wpAnyH_take (i := 3) (oi := { dst := some 31, op := Op.binOp BinOp.add 38 (Operand.tmp 30) (Operand.const (Value.int IntKind.u16 1)) 38, type := 38, pos := "chain.go:33", after := #[{ on := 2, ground := Ground.data }], guard := none }) (v := .int .u16 ((n + 1 : Nat) : Int)) rfl (by kernel_rfl) (by kernel_rfl) (by kernel_rfl) (fun _ _ _ h => h) (Or.inl ⟨by rfl, fun w' hSw => by go_simp; rw [HWR.out]⟩) (by assumption) ?qz5004
      try simp only [Act.put, List.setIfInBounds_toArray, List.set_cons_zero, List.set_cons_succ]
      refine' wpAnyH_take (i := 4) (oi := { dst := some 32, op := Op.build 40 #[(0, Operand.tmp 28), (1, Operand.tmp 31)], type := 40, pos := "chain.go:33", after := #[{ on := 0, ground := Ground.data }, { on := 3, ground := Ground.data }], guard := none }) (v := .agg (rv b (n + 1)).toArray) rfl (by kernel_rfl) (by kernel_rfl) (by kernel_rfl) (fun _ _ _ h => h) (yieldsIf_buildC (by rfl) (.tmp 28) (.tmp 31) rfl (n + 1) HBL.out rfl rfl) (by assumption) ?qz5005
      try simp only [Act.put, List.setIfInBounds_toArray, List.set_cons_zero, List.set_cons_succ]
      refine' wpAnyH_take (i := 5) (oi := { dst := some 33, op := Op.load 24 (Operand.tmp 7), type := 24, pos := "chain.go:33", after := #[{ on := 6, ground := Ground.gcOnly Departure.lateStores }], guard := none }) (v := .agg (u8s a).toArray) rfl (by kernel_rfl) (by kernel_rfl) (by kernel_rfl) (fun _ _ _ h => h) (yieldsIf_loadR agY (by rfl) (.tmp 7) rfl g7 0 rfl (by rw [u8s_length, HAL.out]) (fun _ h => h.2.1)) (by assumption) ?qz5006
      try simp only [Act.put, List.setIfInBounds_toArray, List.set_cons_zero, List.set_cons_succ]
      refine wpAnyH_ready (rs := [6]) (by kernel_rfl) (by simp) ?_
      refine AllReadyH.cons (o := { dst := none, op := Op.store 40 (Operand.tmp 4) (Operand.tmp 32), type := 0, pos := "chain.go:33", after := #[{ on := 4, ground := Ground.data }, { on := 0, ground := Ground.phase }, { on := 1, ground := Ground.phase }, { on := 2, ground := Ground.phase }, { on := 3, ground := Ground.phase }, { on := 4, ground := Ground.phase }, { on := 5, ground := Ground.textOnly Departure.lateStores }], guard := none }) rfl (fun K hK => ?_) AllReadyH.nil
      rw [if_pos (by rfl)]
      refine wp_storeG agC _ _ rfl g4 rfl rfl B4b.out (rv_length z32_length) (rv_length HBL.out) (rv_one _ _) (fun w6 k6 q6 z6 => ?_)
      have B5c := Lib.hid ((B5b.out.grown (grown_drew _) (by simp)).grown q6.out (by simpa using N54.out))
      refine hK.out _ _ ⟨range_keep hHeld.1 fun hlt => q6.out.block g8 hlt (by simpa using NX4.out.1), range_keep hHeld.2.1 fun hlt => q6.out.block g7 hlt (by simpa using NX4.out.2.1), q6.out.cell hHeld.2.2 (by simpa using NX4.out.2.2)⟩ (fun hHeld => ?_)
      clear hK K
      dsimp only [Act.put]
      refine wpAnyH_ready (rs := [7]) (by kernel_rfl) (by simp) ?_
      refine AllReadyH.cons (o := { dst := none, op := Op.store 24 (Operand.tmp 5) (Operand.tmp 33), type := 0, pos := "chain.go:33", after := #[{ on := 5, ground := Ground.data }, { on := 6, ground := Ground.chain }, { on := 0, ground := Ground.phase }, { on := 1, ground := Ground.phase }, { on := 2, ground := Ground.phase }, { on := 3, ground := Ground.phase }, { on := 4, ground := Ground.phase }, { on := 5, ground := Ground.phase }, { on := 6, ground := Ground.phase }], guard := none }) rfl (fun K hK => ?_) AllReadyH.nil
      rw [if_pos (by rfl)]
      refine wp_storeG agY _ _ rfl g5 rfl rfl B5c.out (by rw [u8s_length, z32_length]) (by rw [u8s_length, HAL.out]) (u8s_one _) (fun w7 k7 q7 z7 => ?_)
      refine hK.out _ _ ⟨range_keep hHeld.1 fun hlt => q7.out.block g8 hlt (by simpa using NX5.out.1), range_keep hHeld.2.1 fun hlt => q7.out.block g7 hlt (by simpa using NX5.out.2.1), q7.out.cell hHeld.2.2 (by simpa using NX5.out.2.2)⟩ (fun hHeld => ?_)
      clear hK K
      dsimp only [Act.put]
      refine wpAnyH_ready (rs := [8]) (by kernel_rfl) (by simp) ?_
      refine AllReadyH.cons (o := { dst := some 6, op := Op.assign (Operand.const (Value.int IntKind.i64 0)), type := 41, pos := "chain.go:33", after := #[{ on := 7, ground := Ground.chain }, { on := 0, ground := Ground.phase }, { on := 1, ground := Ground.phase }, { on := 2, ground := Ground.phase }, { on := 3, ground := Ground.phase }, { on := 4, ground := Ground.phase }, { on := 5, ground := Ground.phase }, { on := 6, ground := Ground.phase }, { on := 7, ground := Ground.phase }], guard := none }) rfl (fun K hK => ?_) AllReadyH.nil
      rw [if_pos (by rfl)]
      go_simp
      refine hK.out _ _ hHeld (fun hHeld => ?_)
      clear hK K
      try simp only [Act.put, List.setIfInBounds_toArray, List.set_cons_zero, List.set_cons_succ]
      refine wpAnyH_done (by kernel_rfl) ?_ _
      go_wp2_with fail
      refine bodyPost_ret (res_ccs rfl agC agY rfl rfl rfl (k6.out.grown q7.out (by simpa using N45.out)) k7.out (rv_length HBL.out) (by rw [u8s_length, HAL.out])) rfl (.inr ⟨H65.out, rfl, ?_⟩)
      have S7 := ((NX5x.out.1.grown (grown_drew w5)).own q6.out NM4.out (by have := NE.out; have := HS.out.two; omega)).own q7.out NM5.out (by have := NE.out; have := HS.out.two; omega)
      have hz : w5.heap.size ≤ w7.heap.size := Nat.le_trans q6.out.size q7.out.size
      have D7 : Md ok w w7 := md_own (md_own ((⟨NX5x.out.2.os.trans G4.out.os, NX5x.out.2.tape.trans G4.out.tape, NX5x.out.2.output.trans G4.out.output, Nat.le_trans G4.out.size NX5x.out.2.size, fun k hk hn => (NX5x.out.2.block k (Nat.lt_of_lt_of_le hk G4.out.size) hn).trans (G4.out.block k hk (by simp))⟩ : Md ok w w5).trans (Md.of_below (grown_below (grown_drew w5)))) q6.out (by have := NE.out; omega)) q7.out (by have := NE.out; omega)
      exact ⟨S7.imp (fun b hb => hb.elim .inl fun h => .inr ⟨Nat.le_trans G4.out.size h.1, Nat.lt_of_lt_of_le h.2 hz⟩) (More.lt HS.out.lt D7.size), D7⟩
end Go.Proofs.YtdnkeaokgkiloaaDoor
