/- ChainRoots' walk: the next root, and the new row's key, are the document's. Conditions: the tables of the hash lie where the program lays them. -/
import Derived.Test.YtdnkeaokgkiloaaDoorT2
namespace Go.Proofs.YtdnkeaokgkiloaaDoor
open Go.RowKit T
theorem cutR {F R : World → Nat → Nat → Option Nat → Prop} {G : Prop} (h2 : (∀ w g h p, F w g h p → R w g h p) → G) (h1 : ∀ w g h p, F w g h p → R w g h p) : G := h2 h1
set_option maxRecDepth 100000 in
set_option maxHeartbeats 16000000 in
theorem roots_walk {w : World} (hT : S.Tab w) (f : Bool) {r s : List UInt8} (hk : r.length = 32) (hs : s.length = 32) :
    Calls Tryd.prog 3 #[.bool f, .agg (u8s r).toArray, .agg (u8s s).toArray] w fun e w' => e = .returned (.bool true) ∧ w.grownBy w' none := by
  obtain ⟨z, hz⟩ : ∃ z, z = u8s r := ⟨_, rfl⟩
  obtain ⟨y, hy⟩ : ∃ y, y = u8s s := ⟨_, rfl⟩
  have HT := Lib.hid hT
  have HK := Lib.hid hk
  have HK2 := Lib.hid hs
  have HZ := Lib.hid hz
  have HY := Lib.hid hy
  rw [← hz, ← hy]
  clear hT hk hs hz hy
  obtain ⟨a, ha⟩ : ∃ a, a = rootA (sg0 f) r s := ⟨_, rfl⟩
  obtain ⟨b, hb⟩ : ∃ b, b = rootB (sg0 f) r s := ⟨_, rfl⟩
  obtain ⟨σ2, h2⟩ : ∃ t, t = rootS (sg0 f) r s := ⟨_, rfl⟩
  have hal : a.length = 32 := by rw [ha]; exact rootA_length _ _ _
  have hbl : b.length = 32 := by rw [hb]; exact rootB_length _ _ _
  have HA := Lib.hid ha
  have HB := Lib.hid hb
  have H2 := Lib.hid h2
  have HAL := Lib.hid hal
  have HBL := Lib.hid hbl
  clear ha hb h2 hal hbl
  go_enter Tryd.func3, Tryd.ntmps3
  go_wp2_with (first | (refine wpList_boxG rfl _ rfl (vs := z) rfl ?_) | fail)
  intro g4 w1 e4 k4 q4
  go_wp2_with (first | (refine wpList_boxG rfl _ rfl (vs := y) rfl ?_) | fail)
  intro g5 w2 e5 k5 q5
  have G2 := Lib.hid (q4.out.trans q5.out)
  have B4a : Hid (C.Blk w2 g4 22 (u8s r)) := by have hh := k4.out.grown q5.out (by simp); rw [HZ.out] at hh; exact hh
  have B5a : Hid (C.Blk w2 g5 22 (u8s s)) := by have hh := k5.out; rw [HY.out] at hh; exact hh
  have T2 := Lib.hid (HT.out.grown G2.out (by simp) (by simp))
  have MA := Lib.hid (alive_any T2.out)
  clear e4 k4 q4 e5 k5 q5
  go_wp2_with (first | (go_at_call 9; refine MA.out.mono ?_; rintro _ w3 ⟨rfl, hg3⟩; have G3 := Lib.hid hg3; clear hg3) | fail)
  have G4 := Lib.hid (G2.out.trans G3.out)
  have T3 := Lib.hid (T2.out.grown G3.out (by simp) (by simp))
  have B4 := Lib.hid (B4a.out.grown G3.out (by simp))
  have B5 := Lib.hid (B5a.out.grown G3.out (by simp))
  clear MA
  apply cutR (F := fun w' g7 g8 _ => w3.grownBy w' none ∧ C.Blk w' g7 24 (u8s a) ∧ C.Blk w' g8 24 (u8s b))
  · intro hrest_
    refine wp_region_held_drew (S := fun W => W.rangeAt g4 0 (u8s r) ∧ W.rangeAt g5 0 (u8s s)) (by kernel_rfl) ⟨range_of B4.out, range_of B5.out⟩ (fun hHeld => ?_)
    obtain ⟨v0, hv0⟩ : ∃ v, v = w3.drew := ⟨_, rfl⟩
    have hg0 : w3.grownBy v0 none := by rw [hv0]; exact grown_drew w3
    rw [← hv0] at hHeld ⊢
    clear hv0
    refine' wpAnyH_take (i := 0) (oi := { dst := some 16, op := Op.move (Operand.tmp 0), type := 4, pos := "law.go:24", after := #[], guard := none }) (v := .bool f) rfl (by kernel_rfl) (by kernel_rfl) (by kernel_rfl) (fun _ _ _ h => h) (Or.inl ⟨by rfl, fun w' hSw => by go_simp⟩) (by assumption) ?qz1
    try simp only [Act.put, List.setIfInBounds_toArray, List.set_cons_zero, List.set_cons_succ]
    refine' wpAnyH_take (i := 2) (oi := { dst := some 18, op := Op.load 22 (Operand.tmp 4), type := 22, pos := "law.go:24", after := #[], guard := none }) (v := .agg (u8s r).toArray) rfl (by kernel_rfl) (by kernel_rfl) (by kernel_rfl) (fun _ _ _ h => h) (yieldsIf_loadR agA (by rfl) (.tmp 4) rfl g4 0 rfl (by rw [u8s_length, HK.out]) (fun _ h => h.1)) (by assumption) ?qz2
    try simp only [Act.put, List.setIfInBounds_toArray, List.set_cons_zero, List.set_cons_succ]
    refine' wpAnyH_take (i := 3) (oi := { dst := some 19, op := Op.load 22 (Operand.tmp 5), type := 22, pos := "law.go:24", after := #[], guard := none }) (v := .agg (u8s s).toArray) rfl (by kernel_rfl) (by kernel_rfl) (by kernel_rfl) (fun _ _ _ h => h) (yieldsIf_loadR agA (by rfl) (.tmp 5) rfl g5 0 rfl (by rw [u8s_length, HK2.out]) (fun _ h => h.2)) (by assumption) ?qz3
    try simp only [Act.put, List.setIfInBounds_toArray, List.set_cons_zero, List.set_cons_succ]
    refine wpAnyH_ready (rs := [1, 9, 10]) (by kernel_rfl) (by simp) ?_
    refine AllReadyH.cons (o := { dst := some 17, op := Op.call { callee := Callee.value (Operand.func 11), args := #[Operand.tmp 16], argTypes := #[4] }, type := 29, pos := "law.go:24", after := #[{ on := 0, ground := Ground.data }], guard := none }) rfl (fun K hK => ?_) (AllReadyH.cons (o := { dst := some 7, op := Op.alloc 24, type := 0, pos := "law.go:24", after := #[], guard := none }) rfl (fun K hK => ?_) (AllReadyH.cons (o := { dst := some 8, op := Op.alloc 24, type := 0, pos := "law.go:24", after := #[], guard := none }) rfl (fun K hK => ?_) AllReadyH.nil))
    · rw [if_pos (by rfl)]
      go_simp
      with_reducible refine (suite_any v0 (T3.out.grown (hg0) (by simp) (by simp)) f).mono ?_
      rintro _ vz4 ⟨p, ok, rfl, hsu, hne, gz5⟩
      have Gz6 := (hg0).trans gz5
      have hnew : ∀ b, ok b → w3.heap.size ≤ b := fun b hb => Nat.le_trans (hg0).size (hne b hb)
      refine hK.out _ _ ⟨range_of (B4.out.grown (Gz6) (by simp)), range_of (B5.out.grown (Gz6) (by simp))⟩ (fun hHeld => ?_)
      clear hK K
      try simp only [Act.put, List.setIfInBounds_toArray, List.set_cons_zero, List.set_cons_succ]
      refine wpAnyH_ready (rs := [4, 9, 10]) (by kernel_rfl) (by simp) ?_
      refine AllReadyH.cons (o := { dst := some 20, op := Op.call { callee := Callee.value (Operand.func 10), args := #[Operand.tmp 17, Operand.tmp 18, Operand.tmp 19], argTypes := #[29, 24, 24] }, type := 25, pos := "law.go:24", after := #[{ on := 1, ground := Ground.data }, { on := 2, ground := Ground.data }, { on := 3, ground := Ground.data }, { on := 1, ground := Ground.chain }], guard := none }) rfl (fun K hK => ?_) (AllReadyH.cons (o := { dst := some 7, op := Op.alloc 24, type := 0, pos := "law.go:24", after := #[], guard := none }) rfl (fun K hK => ?_) (AllReadyH.cons (o := { dst := some 8, op := Op.alloc 24, type := 0, pos := "law.go:24", after := #[], guard := none }) rfl (fun K hK => ?_) AllReadyH.nil))
      · rw [if_pos (by rfl)]
        go_simp
        have hcall : Calls Tryd.prog 10 #[tab p, .agg (u8s r).toArray, .agg (u8s s).toArray] vz4 fun e w' => e = .returned (.tuple #[.agg (u8s a).toArray, .agg (u8s b).toArray, .bool true]) ∧ Nx vz4 ok p σ2 w' := by
          have h := root_any hsu (sg0_room f _) HK.out HK2.out
          rw [← HA.out, ← HB.out, ← H2.out] at h
          exact h
        with_reducible refine hcall.mono ?_
        rintro _ vz7 ⟨rfl, hnx⟩
        have Gz8 := md_grown hnx.2 Gz6 hnew
        refine hK.out _ _ ⟨range_of (B4.out.grown (Gz8) (by simp)), range_of (B5.out.grown (Gz8) (by simp))⟩ (fun hHeld => ?_)
        clear hK K
        try simp only [Act.put, List.setIfInBounds_toArray, List.set_cons_zero, List.set_cons_succ]
        refine' wpAnyH_take (i := 5) (oi := { dst := some 15, op := Op.move (Operand.tmp 20), type := 25, pos := "law.go:24", after := #[{ on := 4, ground := Ground.data }], guard := none }) (v := .tuple #[.agg (u8s a).toArray, .agg (u8s b).toArray, .bool true]) rfl (by kernel_rfl) (by kernel_rfl) (by kernel_rfl) (fun _ _ _ h => h) (Or.inl ⟨by rfl, fun _ _ => rfl⟩) (by assumption) ?qz9
        try simp only [Act.put, List.setIfInBounds_toArray, List.set_cons_zero, List.set_cons_succ]
        refine' wpAnyH_take (i := 6) (oi := { dst := some 21, op := Op.extract (Operand.tmp 15) 0, type := 24, pos := "law.go:24", after := #[{ on := 5, ground := Ground.data }], guard := none }) (v := .agg (u8s a).toArray) rfl (by kernel_rfl) (by kernel_rfl) (by kernel_rfl) (fun _ _ _ h => h) (Or.inl ⟨by rfl, fun _ _ => rfl⟩) (by assumption) ?qz10
        try simp only [Act.put, List.setIfInBounds_toArray, List.set_cons_zero, List.set_cons_succ]
        refine' wpAnyH_take (i := 7) (oi := { dst := some 22, op := Op.extract (Operand.tmp 15) 1, type := 24, pos := "law.go:24", after := #[{ on := 5, ground := Ground.data }, { on := 11, ground := Ground.gcOnly Departure.lateStores }], guard := none }) (v := .agg (u8s b).toArray) rfl (by kernel_rfl) (by kernel_rfl) (by kernel_rfl) (fun _ _ _ h => h) (Or.inl ⟨by rfl, fun _ _ => rfl⟩) (by assumption) ?qz11
        try simp only [Act.put, List.setIfInBounds_toArray, List.set_cons_zero, List.set_cons_succ]
        refine' wpAnyH_take (i := 8) (oi := { dst := some 23, op := Op.extract (Operand.tmp 15) 2, type := 4, pos := "law.go:24", after := #[{ on := 5, ground := Ground.data }, { on := 12, ground := Ground.gcOnly Departure.lateStores }], guard := none }) (v := .bool true) rfl (by kernel_rfl) (by kernel_rfl) (by kernel_rfl) (fun _ _ _ h => h) (Or.inl ⟨by rfl, fun _ _ => rfl⟩) (by assumption) ?qz12
        try simp only [Act.put, List.setIfInBounds_toArray, List.set_cons_zero, List.set_cons_succ]
        refine wpAnyH_ready (rs := [9, 10]) (by kernel_rfl) (by simp) ?_
        refine AllReadyH.cons (o := { dst := some 7, op := Op.alloc 24, type := 0, pos := "law.go:24", after := #[], guard := none }) rfl (fun K hK => ?_) (AllReadyH.cons (o := { dst := some 8, op := Op.alloc 24, type := 0, pos := "law.go:24", after := #[], guard := none }) rfl (fun K hK => ?_) AllReadyH.nil)
        · rw [if_pos (by rfl)]
          refine wp_allocG zeY rfl (fun g7 vz13 ez14 kz15 qz16 => ?_)
          have Gz17 := (Gz8).trans qz16.out
          have hwg7 : w3.heap.size ≤ g7 := by rw [ez14.out]; exact (Gz8).size
          refine hK.out _ _ ⟨range_of (B4.out.grown (Gz17) (by simp)), range_of (B5.out.grown (Gz17) (by simp))⟩ (fun hHeld => ?_)
          clear hK K
          try simp only [Act.put, List.setIfInBounds_toArray, List.set_cons_zero, List.set_cons_succ]
          refine wpAnyH_ready (rs := [10]) (by kernel_rfl) (by simp) ?_
          refine AllReadyH.cons (o := { dst := some 8, op := Op.alloc 24, type := 0, pos := "law.go:24", after := #[], guard := none }) rfl (fun K hK => ?_) AllReadyH.nil
          rw [if_pos (by rfl)]
          refine wp_allocG zeY rfl (fun g8 vz18 ez19 kz20 qz21 => ?_)
          have Gz22 := (Gz17).trans qz21.out
          have hwg8 : w3.heap.size ≤ g8 := by rw [ez19.out]; exact (Gz17).size
          have ne9_10 : g7 ≠ g8 := fun e' => by have h1 := (kz15.out).lt; have h2 := ez19.out; omega
          have nbz23 := (kz15.out).grown qz21.out (by simp)
          refine hK.out _ _ ⟨range_of (B4.out.grown (Gz22) (by simp)), range_of (B5.out.grown (Gz22) (by simp))⟩ (fun hHeld => ?_)
          clear hK K
          try simp only [Act.put, List.setIfInBounds_toArray, List.set_cons_zero, List.set_cons_succ]
          refine wpAnyH_ready (rs := [11]) (by kernel_rfl) (by simp) ?_
          refine AllReadyH.cons (o := { dst := none, op := Op.store 24 (Operand.tmp 7) (Operand.tmp 21), type := 0, pos := "law.go:24", after := #[{ on := 9, ground := Ground.data }, { on := 6, ground := Ground.data }, { on := 4, ground := Ground.chain }, { on := 0, ground := Ground.phase }, { on := 1, ground := Ground.phase }, { on := 2, ground := Ground.phase }, { on := 3, ground := Ground.phase }, { on := 4, ground := Ground.phase }, { on := 5, ground := Ground.phase }, { on := 6, ground := Ground.phase }, { on := 7, ground := Ground.textOnly Departure.lateStores }, { on := 8, ground := Ground.textOnly Departure.lateStores }, { on := 9, ground := Ground.phase }, { on := 10, ground := Ground.phase }], guard := none }) rfl (fun K hK => ?_) AllReadyH.nil
          rw [if_pos (by rfl)]
          refine wp_storeG agY _ _ rfl g7 rfl rfl (nbz23) (by rw [u8s_length, z32_length]) (by rw [u8s_length, HAL.out]) (u8s_one _) (fun vz24 kz25 qz26 zz27 => ?_)
          have Gz28 : w3.grownBy vz24 none := World.grownBy.andThen (Gz22) qz26.out (by rintro _ ⟨⟩; exact .inl hwg7)
          have nbz29 := (kz20.out).grown qz26.out (by simpa using (Ne.symm ne9_10))
          refine hK.out _ _ ⟨range_of (B4.out.grown (Gz28) (by simp)), range_of (B5.out.grown (Gz28) (by simp))⟩ (fun hHeld => ?_)
          clear hK K
          dsimp only [Act.put]
          refine wpAnyH_ready (rs := [12]) (by kernel_rfl) (by simp) ?_
          refine AllReadyH.cons (o := { dst := none, op := Op.store 24 (Operand.tmp 8) (Operand.tmp 22), type := 0, pos := "law.go:24", after := #[{ on := 10, ground := Ground.data }, { on := 7, ground := Ground.data }, { on := 11, ground := Ground.chain }, { on := 0, ground := Ground.phase }, { on := 1, ground := Ground.phase }, { on := 2, ground := Ground.phase }, { on := 3, ground := Ground.phase }, { on := 4, ground := Ground.phase }, { on := 5, ground := Ground.phase }, { on := 6, ground := Ground.phase }, { on := 7, ground := Ground.phase }, { on := 8, ground := Ground.textOnly Departure.lateStores }, { on := 9, ground := Ground.phase }, { on := 10, ground := Ground.phase }, { on := 11, ground := Ground.phase }], guard := none }) rfl (fun K hK => ?_) AllReadyH.nil
          rw [if_pos (by rfl)]
          refine wp_storeG agY _ _ rfl g8 rfl rfl (nbz29) (by rw [u8s_length, z32_length]) (by rw [u8s_length, HBL.out]) (u8s_one _) (fun vz30 kz31 qz32 zz33 => ?_)
          have Gz34 : w3.grownBy vz30 none := World.grownBy.andThen (Gz28) qz32.out (by rintro _ ⟨⟩; exact .inl hwg8)
          have nbz35 := (kz25.out).grown qz32.out (by simpa using ne9_10)
          refine hK.out _ _ ⟨range_of (B4.out.grown (Gz34) (by simp)), range_of (B5.out.grown (Gz34) (by simp))⟩ (fun hHeld => ?_)
          clear hK K
          dsimp only [Act.put]
          refine wpAnyH_ready (rs := [13]) (by kernel_rfl) (by simp) ?_
          refine AllReadyH.cons (o := { dst := some 9, op := Op.assign (Operand.tmp 23), type := 4, pos := "law.go:24", after := #[{ on := 8, ground := Ground.data }, { on := 12, ground := Ground.chain }, { on := 0, ground := Ground.phase }, { on := 1, ground := Ground.phase }, { on := 2, ground := Ground.phase }, { on := 3, ground := Ground.phase }, { on := 4, ground := Ground.phase }, { on := 5, ground := Ground.phase }, { on := 6, ground := Ground.phase }, { on := 7, ground := Ground.phase }, { on := 8, ground := Ground.phase }, { on := 9, ground := Ground.phase }, { on := 10, ground := Ground.phase }, { on := 11, ground := Ground.phase }, { on := 12, ground := Ground.phase }], guard := none }) rfl (fun K hK => ?_) AllReadyH.nil
          rw [if_pos (by rfl)]
          go_simp
          refine hK.out _ _ hHeld (fun hHeld => ?_)
          clear hK K
          try simp only [Act.put, List.setIfInBounds_toArray, List.set_cons_zero, List.set_cons_succ]
          refine wpAnyH_done (by kernel_rfl) ?_ _
          exact hrest_ _ g7 g8 p ⟨Gz34, nbz35, kz31.out⟩
        · rw [if_pos (by rfl)]
          refine wp_allocG zeY rfl (fun g8 vz36 ez37 kz38 qz39 => ?_)
          have Gz40 := (Gz8).trans qz39.out
          have hwg8 : w3.heap.size ≤ g8 := by rw [ez37.out]; exact (Gz8).size
          refine hK.out _ _ ⟨range_of (B4.out.grown (Gz40) (by simp)), range_of (B5.out.grown (Gz40) (by simp))⟩ (fun hHeld => ?_)
          clear hK K
          try simp only [Act.put, List.setIfInBounds_toArray, List.set_cons_zero, List.set_cons_succ]
          refine wpAnyH_ready (rs := [9]) (by kernel_rfl) (by simp) ?_
          refine AllReadyH.cons (o := { dst := some 7, op := Op.alloc 24, type := 0, pos := "law.go:24", after := #[], guard := none }) rfl (fun K hK => ?_) AllReadyH.nil
          rw [if_pos (by rfl)]
          refine wp_allocG zeY rfl (fun g7 vz41 ez42 kz43 qz44 => ?_)
          have Gz45 := (Gz40).trans qz44.out
          have hwg7 : w3.heap.size ≤ g7 := by rw [ez42.out]; exact (Gz40).size
          have ne9_10 : g8 ≠ g7 := fun e' => by have h1 := (kz38.out).lt; have h2 := ez42.out; omega
          have nbz46 := (kz38.out).grown qz44.out (by simp)
          refine hK.out _ _ ⟨range_of (B4.out.grown (Gz45) (by simp)), range_of (B5.out.grown (Gz45) (by simp))⟩ (fun hHeld => ?_)
          clear hK K
          try simp only [Act.put, List.setIfInBounds_toArray, List.set_cons_zero, List.set_cons_succ]
          refine wpAnyH_ready (rs := [11]) (by kernel_rfl) (by simp) ?_
          refine AllReadyH.cons (o := { dst := none, op := Op.store 24 (Operand.tmp 7) (Operand.tmp 21), type := 0, pos := "law.go:24", after := #[{ on := 9, ground := Ground.data }, { on := 6, ground := Ground.data }, { on := 4, ground := Ground.chain }, { on := 0, ground := Ground.phase }, { on := 1, ground := Ground.phase }, { on := 2, ground := Ground.phase }, { on := 3, ground := Ground.phase }, { on := 4, ground := Ground.phase }, { on := 5, ground := Ground.phase }, { on := 6, ground := Ground.phase }, { on := 7, ground := Ground.textOnly Departure.lateStores }, { on := 8, ground := Ground.textOnly Departure.lateStores }, { on := 9, ground := Ground.phase }, { on := 10, ground := Ground.phase }], guard := none }) rfl (fun K hK => ?_) AllReadyH.nil
          rw [if_pos (by rfl)]
          refine wp_storeG agY _ _ rfl g7 rfl rfl (kz43.out) (by rw [u8s_length, z32_length]) (by rw [u8s_length, HAL.out]) (u8s_one _) (fun vz47 kz48 qz49 zz50 => ?_)
          have Gz51 : w3.grownBy vz47 none := World.grownBy.andThen (Gz45) qz49.out (by rintro _ ⟨⟩; exact .inl hwg7)
          have nbz52 := (nbz46).grown qz49.out (by simpa using ne9_10)
          refine hK.out _ _ ⟨range_of (B4.out.grown (Gz51) (by simp)), range_of (B5.out.grown (Gz51) (by simp))⟩ (fun hHeld => ?_)
          clear hK K
          dsimp only [Act.put]
          refine wpAnyH_ready (rs := [12]) (by kernel_rfl) (by simp) ?_
          refine AllReadyH.cons (o := { dst := none, op := Op.store 24 (Operand.tmp 8) (Operand.tmp 22), type := 0, pos := "law.go:24", after := #[{ on := 10, ground := Ground.data }, { on := 7, ground := Ground.data }, { on := 11, ground := Ground.chain }, { on := 0, ground := Ground.phase }, { on := 1, ground := Ground.phase }, { on := 2, ground := Ground.phase }, { on := 3, ground := Ground.phase }, { on := 4, ground := Ground.phase }, { on := 5, ground := Ground.phase }, { on := 6, ground := Ground.phase }, { on := 7, ground := Ground.phase }, { on := 8, ground := Ground.textOnly Departure.lateStores }, { on := 9, ground := Ground.phase }, { on := 10, ground := Ground.phase }, { on := 11, ground := Ground.phase }], guard := none }) rfl (fun K hK => ?_) AllReadyH.nil
          rw [if_pos (by rfl)]
          refine wp_storeG agY _ _ rfl g8 rfl rfl (nbz52) (by rw [u8s_length, z32_length]) (by rw [u8s_length, HBL.out]) (u8s_one _) (fun vz53 kz54 qz55 zz56 => ?_)
          have Gz57 : w3.grownBy vz53 none := World.grownBy.andThen (Gz51) qz55.out (by rintro _ ⟨⟩; exact .inl hwg8)
          have nbz58 := (kz48.out).grown qz55.out (by simpa using (Ne.symm ne9_10))
          refine hK.out _ _ ⟨range_of (B4.out.grown (Gz57) (by simp)), range_of (B5.out.grown (Gz57) (by simp))⟩ (fun hHeld => ?_)
          clear hK K
          dsimp only [Act.put]
          refine wpAnyH_ready (rs := [13]) (by kernel_rfl) (by simp) ?_
          refine AllReadyH.cons (o := { dst := some 9, op := Op.assign (Operand.tmp 23), type := 4, pos := "law.go:24", after := #[{ on := 8, ground := Ground.data }, { on := 12, ground := Ground.chain }, { on := 0, ground := Ground.phase }, { on := 1, ground := Ground.phase }, { on := 2, ground := Ground.phase }, { on := 3, ground := Ground.phase }, { on := 4, ground := Ground.phase }, { on := 5, ground := Ground.phase }, { on := 6, ground := Ground.phase }, { on := 7, ground := Ground.phase }, { on := 8, ground := Ground.phase }, { on := 9, ground := Ground.phase }, { on := 10, ground := Ground.phase }, { on := 11, ground := Ground.phase }, { on := 12, ground := Ground.phase }], guard := none }) rfl (fun K hK => ?_) AllReadyH.nil
          rw [if_pos (by rfl)]
          go_simp
          refine hK.out _ _ hHeld (fun hHeld => ?_)
          clear hK K
          try simp only [Act.put, List.setIfInBounds_toArray, List.set_cons_zero, List.set_cons_succ]
          refine wpAnyH_done (by kernel_rfl) ?_ _
          exact hrest_ _ g7 g8 p ⟨Gz57, nbz58, kz54.out⟩
      · rw [if_pos (by rfl)]
        refine wp_allocG zeY rfl (fun g7 vz59 ez60 kz61 qz62 => ?_)
        have Gz63 := (Gz6).trans qz62.out
        have hwg7 : w3.heap.size ≤ g7 := by rw [ez60.out]; exact (Gz6).size
        have nz64 : ¬ ok g7 := fun hb => by have h1 := hsu.lt _ hb; have h2 := ez60.out; omega
        have sz65 := hsu.grown qz62.out
        refine hK.out _ _ ⟨range_of (B4.out.grown (Gz63) (by simp)), range_of (B5.out.grown (Gz63) (by simp))⟩ (fun hHeld => ?_)
        clear hK K
        try simp only [Act.put, List.setIfInBounds_toArray, List.set_cons_zero, List.set_cons_succ]
        refine wpAnyH_ready (rs := [4, 10]) (by kernel_rfl) (by simp) ?_
        refine AllReadyH.cons (o := { dst := some 20, op := Op.call { callee := Callee.value (Operand.func 10), args := #[Operand.tmp 17, Operand.tmp 18, Operand.tmp 19], argTypes := #[29, 24, 24] }, type := 25, pos := "law.go:24", after := #[{ on := 1, ground := Ground.data }, { on := 2, ground := Ground.data }, { on := 3, ground := Ground.data }, { on := 1, ground := Ground.chain }], guard := none }) rfl (fun K hK => ?_) (AllReadyH.cons (o := { dst := some 8, op := Op.alloc 24, type := 0, pos := "law.go:24", after := #[], guard := none }) rfl (fun K hK => ?_) AllReadyH.nil)
        · rw [if_pos (by rfl)]
          go_simp
          have hcall : Calls Tryd.prog 10 #[tab p, .agg (u8s r).toArray, .agg (u8s s).toArray] vz59 fun e w' => e = .returned (.tuple #[.agg (u8s a).toArray, .agg (u8s b).toArray, .bool true]) ∧ Nx vz59 ok p σ2 w' := by
            have h := root_any sz65 (sg0_room f _) HK.out HK2.out
            rw [← HA.out, ← HB.out, ← H2.out] at h
            exact h
          with_reducible refine hcall.mono ?_
          rintro _ vz66 ⟨rfl, hnx⟩
          have Gz67 := md_grown hnx.2 Gz63 hnew
          have nbz68 := (kz61.out).keep (hnx.2.block _ (kz61.out).lt nz64)
          refine hK.out _ _ ⟨range_of (B4.out.grown (Gz67) (by simp)), range_of (B5.out.grown (Gz67) (by simp))⟩ (fun hHeld => ?_)
          clear hK K
          try simp only [Act.put, List.setIfInBounds_toArray, List.set_cons_zero, List.set_cons_succ]
          refine' wpAnyH_take (i := 5) (oi := { dst := some 15, op := Op.move (Operand.tmp 20), type := 25, pos := "law.go:24", after := #[{ on := 4, ground := Ground.data }], guard := none }) (v := .tuple #[.agg (u8s a).toArray, .agg (u8s b).toArray, .bool true]) rfl (by kernel_rfl) (by kernel_rfl) (by kernel_rfl) (fun _ _ _ h => h) (Or.inl ⟨by rfl, fun _ _ => rfl⟩) (by assumption) ?qz69
          try simp only [Act.put, List.setIfInBounds_toArray, List.set_cons_zero, List.set_cons_succ]
          refine' wpAnyH_take (i := 6) (oi := { dst := some 21, op := Op.extract (Operand.tmp 15) 0, type := 24, pos := "law.go:24", after := #[{ on := 5, ground := Ground.data }], guard := none }) (v := .agg (u8s a).toArray) rfl (by kernel_rfl) (by kernel_rfl) (by kernel_rfl) (fun _ _ _ h => h) (Or.inl ⟨by rfl, fun _ _ => rfl⟩) (by assumption) ?qz70
          try simp only [Act.put, List.setIfInBounds_toArray, List.set_cons_zero, List.set_cons_succ]
          refine' wpAnyH_take (i := 7) (oi := { dst := some 22, op := Op.extract (Operand.tmp 15) 1, type := 24, pos := "law.go:24", after := #[{ on := 5, ground := Ground.data }, { on := 11, ground := Ground.gcOnly Departure.lateStores }], guard := none }) (v := .agg (u8s b).toArray) rfl (by kernel_rfl) (by kernel_rfl) (by kernel_rfl) (fun _ _ _ h => h) (Or.inl ⟨by rfl, fun _ _ => rfl⟩) (by assumption) ?qz71
          try simp only [Act.put, List.setIfInBounds_toArray, List.set_cons_zero, List.set_cons_succ]
          refine' wpAnyH_take (i := 8) (oi := { dst := some 23, op := Op.extract (Operand.tmp 15) 2, type := 4, pos := "law.go:24", after := #[{ on := 5, ground := Ground.data }, { on := 12, ground := Ground.gcOnly Departure.lateStores }], guard := none }) (v := .bool true) rfl (by kernel_rfl) (by kernel_rfl) (by kernel_rfl) (fun _ _ _ h => h) (Or.inl ⟨by rfl, fun _ _ => rfl⟩) (by assumption) ?qz72
          try simp only [Act.put, List.setIfInBounds_toArray, List.set_cons_zero, List.set_cons_succ]
          refine wpAnyH_ready (rs := [10]) (by kernel_rfl) (by simp) ?_
          refine AllReadyH.cons (o := { dst := some 8, op := Op.alloc 24, type := 0, pos := "law.go:24", after := #[], guard := none }) rfl (fun K hK => ?_) AllReadyH.nil
          rw [if_pos (by rfl)]
          refine wp_allocG zeY rfl (fun g8 vz73 ez74 kz75 qz76 => ?_)
          have Gz77 := (Gz67).trans qz76.out
          have hwg8 : w3.heap.size ≤ g8 := by rw [ez74.out]; exact (Gz67).size
          have ne9_10 : g7 ≠ g8 := fun e' => by have h1 := (nbz68).lt; have h2 := ez74.out; omega
          have nbz78 := (nbz68).grown qz76.out (by simp)
          refine hK.out _ _ ⟨range_of (B4.out.grown (Gz77) (by simp)), range_of (B5.out.grown (Gz77) (by simp))⟩ (fun hHeld => ?_)
          clear hK K
          try simp only [Act.put, List.setIfInBounds_toArray, List.set_cons_zero, List.set_cons_succ]
          refine wpAnyH_ready (rs := [11]) (by kernel_rfl) (by simp) ?_
          refine AllReadyH.cons (o := { dst := none, op := Op.store 24 (Operand.tmp 7) (Operand.tmp 21), type := 0, pos := "law.go:24", after := #[{ on := 9, ground := Ground.data }, { on := 6, ground := Ground.data }, { on := 4, ground := Ground.chain }, { on := 0, ground := Ground.phase }, { on := 1, ground := Ground.phase }, { on := 2, ground := Ground.phase }, { on := 3, ground := Ground.phase }, { on := 4, ground := Ground.phase }, { on := 5, ground := Ground.phase }, { on := 6, ground := Ground.phase }, { on := 7, ground := Ground.textOnly Departure.lateStores }, { on := 8, ground := Ground.textOnly Departure.lateStores }, { on := 9, ground := Ground.phase }, { on := 10, ground := Ground.phase }], guard := none }) rfl (fun K hK => ?_) AllReadyH.nil
          rw [if_pos (by rfl)]
          refine wp_storeG agY _ _ rfl g7 rfl rfl (nbz78) (by rw [u8s_length, z32_length]) (by rw [u8s_length, HAL.out]) (u8s_one _) (fun vz79 kz80 qz81 zz82 => ?_)
          have Gz83 : w3.grownBy vz79 none := World.grownBy.andThen (Gz77) qz81.out (by rintro _ ⟨⟩; exact .inl hwg7)
          have nbz84 := (kz75.out).grown qz81.out (by simpa using (Ne.symm ne9_10))
          refine hK.out _ _ ⟨range_of (B4.out.grown (Gz83) (by simp)), range_of (B5.out.grown (Gz83) (by simp))⟩ (fun hHeld => ?_)
          clear hK K
          dsimp only [Act.put]
          refine wpAnyH_ready (rs := [12]) (by kernel_rfl) (by simp) ?_
          refine AllReadyH.cons (o := { dst := none, op := Op.store 24 (Operand.tmp 8) (Operand.tmp 22), type := 0, pos := "law.go:24", after := #[{ on := 10, ground := Ground.data }, { on := 7, ground := Ground.data }, { on := 11, ground := Ground.chain }, { on := 0, ground := Ground.phase }, { on := 1, ground := Ground.phase }, { on := 2, ground := Ground.phase }, { on := 3, ground := Ground.phase }, { on := 4, ground := Ground.phase }, { on := 5, ground := Ground.phase }, { on := 6, ground := Ground.phase }, { on := 7, ground := Ground.phase }, { on := 8, ground := Ground.textOnly Departure.lateStores }, { on := 9, ground := Ground.phase }, { on := 10, ground := Ground.phase }, { on := 11, ground := Ground.phase }], guard := none }) rfl (fun K hK => ?_) AllReadyH.nil
          rw [if_pos (by rfl)]
          refine wp_storeG agY _ _ rfl g8 rfl rfl (nbz84) (by rw [u8s_length, z32_length]) (by rw [u8s_length, HBL.out]) (u8s_one _) (fun vz85 kz86 qz87 zz88 => ?_)
          have Gz89 : w3.grownBy vz85 none := World.grownBy.andThen (Gz83) qz87.out (by rintro _ ⟨⟩; exact .inl hwg8)
          have nbz90 := (kz80.out).grown qz87.out (by simpa using ne9_10)
          refine hK.out _ _ ⟨range_of (B4.out.grown (Gz89) (by simp)), range_of (B5.out.grown (Gz89) (by simp))⟩ (fun hHeld => ?_)
          clear hK K
          dsimp only [Act.put]
          refine wpAnyH_ready (rs := [13]) (by kernel_rfl) (by simp) ?_
          refine AllReadyH.cons (o := { dst := some 9, op := Op.assign (Operand.tmp 23), type := 4, pos := "law.go:24", after := #[{ on := 8, ground := Ground.data }, { on := 12, ground := Ground.chain }, { on := 0, ground := Ground.phase }, { on := 1, ground := Ground.phase }, { on := 2, ground := Ground.phase }, { on := 3, ground := Ground.phase }, { on := 4, ground := Ground.phase }, { on := 5, ground := Ground.phase }, { on := 6, ground := Ground.phase }, { on := 7, ground := Ground.phase }, { on := 8, ground := Ground.phase }, { on := 9, ground := Ground.phase }, { on := 10, ground := Ground.phase }, { on := 11, ground := Ground.phase }, { on := 12, ground := Ground.phase }], guard := none }) rfl (fun K hK => ?_) AllReadyH.nil
          rw [if_pos (by rfl)]
          go_simp
          refine hK.out _ _ hHeld (fun hHeld => ?_)
          clear hK K
          try simp only [Act.put, List.setIfInBounds_toArray, List.set_cons_zero, List.set_cons_succ]
          refine wpAnyH_done (by kernel_rfl) ?_ _
          exact hrest_ _ g7 g8 p ⟨Gz89, nbz90, kz86.out⟩
        · rw [if_pos (by rfl)]
          refine wp_allocG zeY rfl (fun g8 vz91 ez92 kz93 qz94 => ?_)
          have Gz95 := (Gz63).trans qz94.out
          have hwg8 : w3.heap.size ≤ g8 := by rw [ez92.out]; exact (Gz63).size
          have nz96 : ¬ ok g8 := fun hb => by have h1 := sz65.lt _ hb; have h2 := ez92.out; omega
          have ne9_10 : g7 ≠ g8 := fun e' => by have h1 := (kz61.out).lt; have h2 := ez92.out; omega
          have sz97 := sz65.grown qz94.out
          have nbz98 := (kz61.out).grown qz94.out (by simp)
          refine hK.out _ _ ⟨range_of (B4.out.grown (Gz95) (by simp)), range_of (B5.out.grown (Gz95) (by simp))⟩ (fun hHeld => ?_)
          clear hK K
          try simp only [Act.put, List.setIfInBounds_toArray, List.set_cons_zero, List.set_cons_succ]
          refine wpAnyH_ready (rs := [4]) (by kernel_rfl) (by simp) ?_
          refine AllReadyH.cons (o := { dst := some 20, op := Op.call { callee := Callee.value (Operand.func 10), args := #[Operand.tmp 17, Operand.tmp 18, Operand.tmp 19], argTypes := #[29, 24, 24] }, type := 25, pos := "law.go:24", after := #[{ on := 1, ground := Ground.data }, { on := 2, ground := Ground.data }, { on := 3, ground := Ground.data }, { on := 1, ground := Ground.chain }], guard := none }) rfl (fun K hK => ?_) AllReadyH.nil
          rw [if_pos (by rfl)]
          go_simp
          have hcall : Calls Tryd.prog 10 #[tab p, .agg (u8s r).toArray, .agg (u8s s).toArray] vz91 fun e w' => e = .returned (.tuple #[.agg (u8s a).toArray, .agg (u8s b).toArray, .bool true]) ∧ Nx vz91 ok p σ2 w' := by
            have h := root_any sz97 (sg0_room f _) HK.out HK2.out
            rw [← HA.out, ← HB.out, ← H2.out] at h
            exact h
          with_reducible refine hcall.mono ?_
          rintro _ vz99 ⟨rfl, hnx⟩
          have Gz100 := md_grown hnx.2 Gz95 hnew
          have nbz101 := (nbz98).keep (hnx.2.block _ (nbz98).lt nz64)
          have nbz102 := (kz93.out).keep (hnx.2.block _ (kz93.out).lt nz96)
          refine hK.out _ _ ⟨range_of (B4.out.grown (Gz100) (by simp)), range_of (B5.out.grown (Gz100) (by simp))⟩ (fun hHeld => ?_)
          clear hK K
          try simp only [Act.put, List.setIfInBounds_toArray, List.set_cons_zero, List.set_cons_succ]
          refine' wpAnyH_take (i := 5) (oi := { dst := some 15, op := Op.move (Operand.tmp 20), type := 25, pos := "law.go:24", after := #[{ on := 4, ground := Ground.data }], guard := none }) (v := .tuple #[.agg (u8s a).toArray, .agg (u8s b).toArray, .bool true]) rfl (by kernel_rfl) (by kernel_rfl) (by kernel_rfl) (fun _ _ _ h => h) (Or.inl ⟨by rfl, fun _ _ => rfl⟩) (by assumption) ?qz103
          try simp only [Act.put, List.setIfInBounds_toArray, List.set_cons_zero, List.set_cons_succ]
          refine' wpAnyH_take (i := 6) (oi := { dst := some 21, op := Op.extract (Operand.tmp 15) 0, type := 24, pos := "law.go:24", after := #[{ on := 5, ground := Ground.data }], guard := none }) (v := .agg (u8s a).toArray) rfl (by kernel_rfl) (by kernel_rfl) (by kernel_rfl) (fun _ _ _ h => h) (Or.inl ⟨by rfl, fun _ _ => rfl⟩) (by assumption) ?qz104
          try simp only [Act.put, List.setIfInBounds_toArray, List.set_cons_zero, List.set_cons_succ]
          refine' wpAnyH_take (i := 7) (oi := { dst := some 22, op := Op.extract (Operand.tmp 15) 1, type := 24, pos := "law.go:24", after := #[{ on := 5, ground := Ground.data }, { on := 11, ground := Ground.gcOnly Departure.lateStores }], guard := none }) (v := .agg (u8s b).toArray) rfl (by kernel_rfl) (by kernel_rfl) (by kernel_rfl) (fun _ _ _ h => h) (Or.inl ⟨by rfl, fun _ _ => rfl⟩) (by assumption) ?qz105
          try simp only [Act.put, List.setIfInBounds_toArray, List.set_cons_zero, List.set_cons_succ]
          refine' wpAnyH_take (i := 8) (oi := { dst := some 23, op := Op.extract (Operand.tmp 15) 2, type := 4, pos := "law.go:24", after := #[{ on := 5, ground := Ground.data }, { on := 12, ground := Ground.gcOnly Departure.lateStores }], guard := none }) (v := .bool true) rfl (by kernel_rfl) (by kernel_rfl) (by kernel_rfl) (fun _ _ _ h => h) (Or.inl ⟨by rfl, fun _ _ => rfl⟩) (by assumption) ?qz106
          try simp only [Act.put, List.setIfInBounds_toArray, List.set_cons_zero, List.set_cons_succ]
          refine wpAnyH_ready (rs := [11]) (by kernel_rfl) (by simp) ?_
          refine AllReadyH.cons (o := { dst := none, op := Op.store 24 (Operand.tmp 7) (Operand.tmp 21), type := 0, pos := "law.go:24", after := #[{ on := 9, ground := Ground.data }, { on := 6, ground := Ground.data }, { on := 4, ground := Ground.chain }, { on := 0, ground := Ground.phase }, { on := 1, ground := Ground.phase }, { on := 2, ground := Ground.phase }, { on := 3, ground := Ground.phase }, { on := 4, ground := Ground.phase }, { on := 5, ground := Ground.phase }, { on := 6, ground := Ground.phase }, { on := 7, ground := Ground.textOnly Departure.lateStores }, { on := 8, ground := Ground.textOnly Departure.lateStores }, { on := 9, ground := Ground.phase }, { on := 10, ground := Ground.phase }], guard := none }) rfl (fun K hK => ?_) AllReadyH.nil
          rw [if_pos (by rfl)]
          refine wp_storeG agY _ _ rfl g7 rfl rfl (nbz101) (by rw [u8s_length, z32_length]) (by rw [u8s_length, HAL.out]) (u8s_one _) (fun vz107 kz108 qz109 zz110 => ?_)
          have Gz111 : w3.grownBy vz107 none := World.grownBy.andThen (Gz100) qz109.out (by rintro _ ⟨⟩; exact .inl hwg7)
          have nbz112 := (nbz102).grown qz109.out (by simpa using (Ne.symm ne9_10))
          refine hK.out _ _ ⟨range_of (B4.out.grown (Gz111) (by simp)), range_of (B5.out.grown (Gz111) (by simp))⟩ (fun hHeld => ?_)
          clear hK K
          dsimp only [Act.put]
          refine wpAnyH_ready (rs := [12]) (by kernel_rfl) (by simp) ?_
          refine AllReadyH.cons (o := { dst := none, op := Op.store 24 (Operand.tmp 8) (Operand.tmp 22), type := 0, pos := "law.go:24", after := #[{ on := 10, ground := Ground.data }, { on := 7, ground := Ground.data }, { on := 11, ground := Ground.chain }, { on := 0, ground := Ground.phase }, { on := 1, ground := Ground.phase }, { on := 2, ground := Ground.phase }, { on := 3, ground := Ground.phase }, { on := 4, ground := Ground.phase }, { on := 5, ground := Ground.phase }, { on := 6, ground := Ground.phase }, { on := 7, ground := Ground.phase }, { on := 8, ground := Ground.textOnly Departure.lateStores }, { on := 9, ground := Ground.phase }, { on := 10, ground := Ground.phase }, { on := 11, ground := Ground.phase }], guard := none }) rfl (fun K hK => ?_) AllReadyH.nil
          rw [if_pos (by rfl)]
          refine wp_storeG agY _ _ rfl g8 rfl rfl (nbz112) (by rw [u8s_length, z32_length]) (by rw [u8s_length, HBL.out]) (u8s_one _) (fun vz113 kz114 qz115 zz116 => ?_)
          have Gz117 : w3.grownBy vz113 none := World.grownBy.andThen (Gz111) qz115.out (by rintro _ ⟨⟩; exact .inl hwg8)
          have nbz118 := (kz108.out).grown qz115.out (by simpa using ne9_10)
          refine hK.out _ _ ⟨range_of (B4.out.grown (Gz117) (by simp)), range_of (B5.out.grown (Gz117) (by simp))⟩ (fun hHeld => ?_)
          clear hK K
          dsimp only [Act.put]
          refine wpAnyH_ready (rs := [13]) (by kernel_rfl) (by simp) ?_
          refine AllReadyH.cons (o := { dst := some 9, op := Op.assign (Operand.tmp 23), type := 4, pos := "law.go:24", after := #[{ on := 8, ground := Ground.data }, { on := 12, ground := Ground.chain }, { on := 0, ground := Ground.phase }, { on := 1, ground := Ground.phase }, { on := 2, ground := Ground.phase }, { on := 3, ground := Ground.phase }, { on := 4, ground := Ground.phase }, { on := 5, ground := Ground.phase }, { on := 6, ground := Ground.phase }, { on := 7, ground := Ground.phase }, { on := 8, ground := Ground.phase }, { on := 9, ground := Ground.phase }, { on := 10, ground := Ground.phase }, { on := 11, ground := Ground.phase }, { on := 12, ground := Ground.phase }], guard := none }) rfl (fun K hK => ?_) AllReadyH.nil
          rw [if_pos (by rfl)]
          go_simp
          refine hK.out _ _ hHeld (fun hHeld => ?_)
          clear hK K
          try simp only [Act.put, List.setIfInBounds_toArray, List.set_cons_zero, List.set_cons_succ]
          refine wpAnyH_done (by kernel_rfl) ?_ _
          exact hrest_ _ g7 g8 p ⟨Gz117, nbz118, kz114.out⟩
      · rw [if_pos (by rfl)]
        refine wp_allocG zeY rfl (fun g8 vz119 ez120 kz121 qz122 => ?_)
        have Gz123 := (Gz6).trans qz122.out
        have hwg8 : w3.heap.size ≤ g8 := by rw [ez120.out]; exact (Gz6).size
        have nz124 : ¬ ok g8 := fun hb => by have h1 := hsu.lt _ hb; have h2 := ez120.out; omega
        have sz125 := hsu.grown qz122.out
        refine hK.out _ _ ⟨range_of (B4.out.grown (Gz123) (by simp)), range_of (B5.out.grown (Gz123) (by simp))⟩ (fun hHeld => ?_)
        clear hK K
        try simp only [Act.put, List.setIfInBounds_toArray, List.set_cons_zero, List.set_cons_succ]
        refine wpAnyH_ready (rs := [4, 9]) (by kernel_rfl) (by simp) ?_
        refine AllReadyH.cons (o := { dst := some 20, op := Op.call { callee := Callee.value (Operand.func 10), args := #[Operand.tmp 17, Operand.tmp 18, Operand.tmp 19], argTypes := #[29, 24, 24] }, type := 25, pos := "law.go:24", after := #[{ on := 1, ground := Ground.data }, { on := 2, ground := Ground.data }, { on := 3, ground := Ground.data }, { on := 1, ground := Ground.chain }], guard := none }) rfl (fun K hK => ?_) (AllReadyH.cons (o := { dst := some 7, op := Op.alloc 24, type := 0, pos := "law.go:24", after := #[], guard := none }) rfl (fun K hK => ?_) AllReadyH.nil)
        · rw [if_pos (by rfl)]
          go_simp
          have hcall : Calls Tryd.prog 10 #[tab p, .agg (u8s r).toArray, .agg (u8s s).toArray] vz119 fun e w' => e = .returned (.tuple #[.agg (u8s a).toArray, .agg (u8s b).toArray, .bool true]) ∧ Nx vz119 ok p σ2 w' := by
            have h := root_any sz125 (sg0_room f _) HK.out HK2.out
            rw [← HA.out, ← HB.out, ← H2.out] at h
            exact h
          with_reducible refine hcall.mono ?_
          rintro _ vz126 ⟨rfl, hnx⟩
          have Gz127 := md_grown hnx.2 Gz123 hnew
          have nbz128 := (kz121.out).keep (hnx.2.block _ (kz121.out).lt nz124)
          refine hK.out _ _ ⟨range_of (B4.out.grown (Gz127) (by simp)), range_of (B5.out.grown (Gz127) (by simp))⟩ (fun hHeld => ?_)
          clear hK K
          try simp only [Act.put, List.setIfInBounds_toArray, List.set_cons_zero, List.set_cons_succ]
          refine' wpAnyH_take (i := 5) (oi := { dst := some 15, op := Op.move (Operand.tmp 20), type := 25, pos := "law.go:24", after := #[{ on := 4, ground := Ground.data }], guard := none }) (v := .tuple #[.agg (u8s a).toArray, .agg (u8s b).toArray, .bool true]) rfl (by kernel_rfl) (by kernel_rfl) (by kernel_rfl) (fun _ _ _ h => h) (Or.inl ⟨by rfl, fun _ _ => rfl⟩) (by assumption) ?qz129
          try simp only [Act.put, List.setIfInBounds_toArray, List.set_cons_zero, List.set_cons_succ]
          refine' wpAnyH_take (i := 6) (oi := { dst := some 21, op := Op.extract (Operand.tmp 15) 0, type := 24, pos := "law.go:24", after := #[{ on := 5, ground := Ground.data }], guard := none }) (v := .agg (u8s a).toArray) rfl (by kernel_rfl) (by kernel_rfl) (by kernel_rfl) (fun _ _ _ h => h) (Or.inl ⟨by rfl, fun _ _ => rfl⟩) (by assumption) ?qz130
          try simp only [Act.put, List.setIfInBounds_toArray, List.set_cons_zero, List.set_cons_succ]
          refine' wpAnyH_take (i := 7) (oi := { dst := some 22, op := Op.extract (Operand.tmp 15) 1, type := 24, pos := "law.go:24", after := #[{ on := 5, ground := Ground.data }, { on := 11, ground := Ground.gcOnly Departure.lateStores }], guard := none }) (v := .agg (u8s b).toArray) rfl (by kernel_rfl) (by kernel_rfl) (by kernel_rfl) (fun _ _ _ h => h) (Or.inl ⟨by rfl, fun _ _ => rfl⟩) (by assumption) ?qz131
          try simp only [Act.put, List.setIfInBounds_toArray, List.set_cons_zero, List.set_cons_succ]
          refine' wpAnyH_take (i := 8) (oi := { dst := some 23, op := Op.extract (Operand.tmp 15) 2, type := 4, pos := "law.go:24", after := #[{ on := 5, ground := Ground.data }, { on := 12, ground := Ground.gcOnly Departure.lateStores }], guard := none }) (v := .bool true) rfl (by kernel_rfl) (by kernel_rfl) (by kernel_rfl) (fun _ _ _ h => h) (Or.inl ⟨by rfl, fun _ _ => rfl⟩) (by assumption) ?qz132
          try simp only [Act.put, List.setIfInBounds_toArray, List.set_cons_zero, List.set_cons_succ]
          refine wpAnyH_ready (rs := [9]) (by kernel_rfl) (by simp) ?_
          refine AllReadyH.cons (o := { dst := some 7, op := Op.alloc 24, type := 0, pos := "law.go:24", after := #[], guard := none }) rfl (fun K hK => ?_) AllReadyH.nil
          rw [if_pos (by rfl)]
          refine wp_allocG zeY rfl (fun g7 vz133 ez134 kz135 qz136 => ?_)
          have Gz137 := (Gz127).trans qz136.out
          have hwg7 : w3.heap.size ≤ g7 := by rw [ez134.out]; exact (Gz127).size
          have ne9_10 : g8 ≠ g7 := fun e' => by have h1 := (nbz128).lt; have h2 := ez134.out; omega
          have nbz138 := (nbz128).grown qz136.out (by simp)
          refine hK.out _ _ ⟨range_of (B4.out.grown (Gz137) (by simp)), range_of (B5.out.grown (Gz137) (by simp))⟩ (fun hHeld => ?_)
          clear hK K
          try simp only [Act.put, List.setIfInBounds_toArray, List.set_cons_zero, List.set_cons_succ]
          refine wpAnyH_ready (rs := [11]) (by kernel_rfl) (by simp) ?_
          refine AllReadyH.cons (o := { dst := none, op := Op.store 24 (Operand.tmp 7) (Operand.tmp 21), type := 0, pos := "law.go:24", after := #[{ on := 9, ground := Ground.data }, { on := 6, ground := Ground.data }, { on := 4, ground := Ground.chain }, { on := 0, ground := Ground.phase }, { on := 1, ground := Ground.phase }, { on := 2, ground := Ground.phase }, { on := 3, ground := Ground.phase }, { on := 4, ground := Ground.phase }, { on := 5, ground := Ground.phase }, { on := 6, ground := Ground.phase }, { on := 7, ground := Ground.textOnly Departure.lateStores }, { on := 8, ground := Ground.textOnly Departure.lateStores }, { on := 9, ground := Ground.phase }, { on := 10, ground := Ground.phase }], guard := none }) rfl (fun K hK => ?_) AllReadyH.nil
          rw [if_pos (by rfl)]
          refine wp_storeG agY _ _ rfl g7 rfl rfl (kz135.out) (by rw [u8s_length, z32_length]) (by rw [u8s_length, HAL.out]) (u8s_one _) (fun vz139 kz140 qz141 zz142 => ?_)
          have Gz143 : w3.grownBy vz139 none := World.grownBy.andThen (Gz137) qz141.out (by rintro _ ⟨⟩; exact .inl hwg7)
          have nbz144 := (nbz138).grown qz141.out (by simpa using ne9_10)
          refine hK.out _ _ ⟨range_of (B4.out.grown (Gz143) (by simp)), range_of (B5.out.grown (Gz143) (by simp))⟩ (fun hHeld => ?_)
          clear hK K
          dsimp only [Act.put]
          refine wpAnyH_ready (rs := [12]) (by kernel_rfl) (by simp) ?_
          refine AllReadyH.cons (o := { dst := none, op := Op.store 24 (Operand.tmp 8) (Operand.tmp 22), type := 0, pos := "law.go:24", after := #[{ on := 10, ground := Ground.data }, { on := 7, ground := Ground.data }, { on := 11, ground := Ground.chain }, { on := 0, ground := Ground.phase }, { on := 1, ground := Ground.phase }, { on := 2, ground := Ground.phase }, { on := 3, ground := Ground.phase }, { on := 4, ground := Ground.phase }, { on := 5, ground := Ground.phase }, { on := 6, ground := Ground.phase }, { on := 7, ground := Ground.phase }, { on := 8, ground := Ground.textOnly Departure.lateStores }, { on := 9, ground := Ground.phase }, { on := 10, ground := Ground.phase }, { on := 11, ground := Ground.phase }], guard := none }) rfl (fun K hK => ?_) AllReadyH.nil
          rw [if_pos (by rfl)]
          refine wp_storeG agY _ _ rfl g8 rfl rfl (nbz144) (by rw [u8s_length, z32_length]) (by rw [u8s_length, HBL.out]) (u8s_one _) (fun vz145 kz146 qz147 zz148 => ?_)
          have Gz149 : w3.grownBy vz145 none := World.grownBy.andThen (Gz143) qz147.out (by rintro _ ⟨⟩; exact .inl hwg8)
          have nbz150 := (kz140.out).grown qz147.out (by simpa using (Ne.symm ne9_10))
          refine hK.out _ _ ⟨range_of (B4.out.grown (Gz149) (by simp)), range_of (B5.out.grown (Gz149) (by simp))⟩ (fun hHeld => ?_)
          clear hK K
          dsimp only [Act.put]
          refine wpAnyH_ready (rs := [13]) (by kernel_rfl) (by simp) ?_
          refine AllReadyH.cons (o := { dst := some 9, op := Op.assign (Operand.tmp 23), type := 4, pos := "law.go:24", after := #[{ on := 8, ground := Ground.data }, { on := 12, ground := Ground.chain }, { on := 0, ground := Ground.phase }, { on := 1, ground := Ground.phase }, { on := 2, ground := Ground.phase }, { on := 3, ground := Ground.phase }, { on := 4, ground := Ground.phase }, { on := 5, ground := Ground.phase }, { on := 6, ground := Ground.phase }, { on := 7, ground := Ground.phase }, { on := 8, ground := Ground.phase }, { on := 9, ground := Ground.phase }, { on := 10, ground := Ground.phase }, { on := 11, ground := Ground.phase }, { on := 12, ground := Ground.phase }], guard := none }) rfl (fun K hK => ?_) AllReadyH.nil
          rw [if_pos (by rfl)]
          go_simp
          refine hK.out _ _ hHeld (fun hHeld => ?_)
          clear hK K
          try simp only [Act.put, List.setIfInBounds_toArray, List.set_cons_zero, List.set_cons_succ]
          refine wpAnyH_done (by kernel_rfl) ?_ _
          exact hrest_ _ g7 g8 p ⟨Gz149, nbz150, kz146.out⟩
        · rw [if_pos (by rfl)]
          refine wp_allocG zeY rfl (fun g7 vz151 ez152 kz153 qz154 => ?_)
          have Gz155 := (Gz123).trans qz154.out
          have hwg7 : w3.heap.size ≤ g7 := by rw [ez152.out]; exact (Gz123).size
          have nz156 : ¬ ok g7 := fun hb => by have h1 := sz125.lt _ hb; have h2 := ez152.out; omega
          have ne9_10 : g8 ≠ g7 := fun e' => by have h1 := (kz121.out).lt; have h2 := ez152.out; omega
          have sz157 := sz125.grown qz154.out
          have nbz158 := (kz121.out).grown qz154.out (by simp)
          refine hK.out _ _ ⟨range_of (B4.out.grown (Gz155) (by simp)), range_of (B5.out.grown (Gz155) (by simp))⟩ (fun hHeld => ?_)
          clear hK K
          try simp only [Act.put, List.setIfInBounds_toArray, List.set_cons_zero, List.set_cons_succ]
          refine wpAnyH_ready (rs := [4]) (by kernel_rfl) (by simp) ?_
          refine AllReadyH.cons (o := { dst := some 20, op := Op.call { callee := Callee.value (Operand.func 10), args := #[Operand.tmp 17, Operand.tmp 18, Operand.tmp 19], argTypes := #[29, 24, 24] }, type := 25, pos := "law.go:24", after := #[{ on := 1, ground := Ground.data }, { on := 2, ground := Ground.data }, { on := 3, ground := Ground.data }, { on := 1, ground := Ground.chain }], guard := none }) rfl (fun K hK => ?_) AllReadyH.nil
          rw [if_pos (by rfl)]
          go_simp
          have hcall : Calls Tryd.prog 10 #[tab p, .agg (u8s r).toArray, .agg (u8s s).toArray] vz151 fun e w' => e = .returned (.tuple #[.agg (u8s a).toArray, .agg (u8s b).toArray, .bool true]) ∧ Nx vz151 ok p σ2 w' := by
            have h := root_any sz157 (sg0_room f _) HK.out HK2.out
            rw [← HA.out, ← HB.out, ← H2.out] at h
            exact h
          with_reducible refine hcall.mono ?_
          rintro _ vz159 ⟨rfl, hnx⟩
          have Gz160 := md_grown hnx.2 Gz155 hnew
          have nbz161 := (nbz158).keep (hnx.2.block _ (nbz158).lt nz124)
          have nbz162 := (kz153.out).keep (hnx.2.block _ (kz153.out).lt nz156)
          refine hK.out _ _ ⟨range_of (B4.out.grown (Gz160) (by simp)), range_of (B5.out.grown (Gz160) (by simp))⟩ (fun hHeld => ?_)
          clear hK K
          try simp only [Act.put, List.setIfInBounds_toArray, List.set_cons_zero, List.set_cons_succ]
          refine' wpAnyH_take (i := 5) (oi := { dst := some 15, op := Op.move (Operand.tmp 20), type := 25, pos := "law.go:24", after := #[{ on := 4, ground := Ground.data }], guard := none }) (v := .tuple #[.agg (u8s a).toArray, .agg (u8s b).toArray, .bool true]) rfl (by kernel_rfl) (by kernel_rfl) (by kernel_rfl) (fun _ _ _ h => h) (Or.inl ⟨by rfl, fun _ _ => rfl⟩) (by assumption) ?qz163
          try simp only [Act.put, List.setIfInBounds_toArray, List.set_cons_zero, List.set_cons_succ]
          refine' wpAnyH_take (i := 6) (oi := { dst := some 21, op := Op.extract (Operand.tmp 15) 0, type := 24, pos := "law.go:24", after := #[{ on := 5, ground := Ground.data }], guard := none }) (v := .agg (u8s a).toArray) rfl (by kernel_rfl) (by kernel_rfl) (by kernel_rfl) (fun _ _ _ h => h) (Or.inl ⟨by rfl, fun _ _ => rfl⟩) (by assumption) ?qz164
          try simp only [Act.put, List.setIfInBounds_toArray, List.set_cons_zero, List.set_cons_succ]
          refine' wpAnyH_take (i := 7) (oi := { dst := some 22, op := Op.extract (Operand.tmp 15) 1, type := 24, pos := "law.go:24", after := #[{ on := 5, ground := Ground.data }, { on := 11, ground := Ground.gcOnly Departure.lateStores }], guard := none }) (v := .agg (u8s b).toArray) rfl (by kernel_rfl) (by kernel_rfl) (by kernel_rfl) (fun _ _ _ h => h) (Or.inl ⟨by rfl, fun _ _ => rfl⟩) (by assumption) ?qz165
          try simp only [Act.put, List.setIfInBounds_toArray, List.set_cons_zero, List.set_cons_succ]
          refine' wpAnyH_take (i := 8) (oi := { dst := some 23, op := Op.extract (Operand.tmp 15) 2, type := 4, pos := "law.go:24", after := #[{ on := 5, ground := Ground.data }, { on := 12, ground := Ground.gcOnly Departure.lateStores }], guard := none }) (v := .bool true) rfl (by kernel_rfl) (by kernel_rfl) (by kernel_rfl) (fun _ _ _ h => h) (Or.inl ⟨by rfl, fun _ _ => rfl⟩) (by assumption) ?qz166
          try simp only [Act.put, List.setIfInBounds_toArray, List.set_cons_zero, List.set_cons_succ]
          refine wpAnyH_ready (rs := [11]) (by kernel_rfl) (by simp) ?_
          refine AllReadyH.cons (o := { dst := none, op := Op.store 24 (Operand.tmp 7) (Operand.tmp 21), type := 0, pos := "law.go:24", after := #[{ on := 9, ground := Ground.data }, { on := 6, ground := Ground.data }, { on := 4, ground := Ground.chain }, { on := 0, ground := Ground.phase }, { on := 1, ground := Ground.phase }, { on := 2, ground := Ground.phase }, { on := 3, ground := Ground.phase }, { on := 4, ground := Ground.phase }, { on := 5, ground := Ground.phase }, { on := 6, ground := Ground.phase }, { on := 7, ground := Ground.textOnly Departure.lateStores }, { on := 8, ground := Ground.textOnly Departure.lateStores }, { on := 9, ground := Ground.phase }, { on := 10, ground := Ground.phase }], guard := none }) rfl (fun K hK => ?_) AllReadyH.nil
          rw [if_pos (by rfl)]
          refine wp_storeG agY _ _ rfl g7 rfl rfl (nbz162) (by rw [u8s_length, z32_length]) (by rw [u8s_length, HAL.out]) (u8s_one _) (fun vz167 kz168 qz169 zz170 => ?_)
          have Gz171 : w3.grownBy vz167 none := World.grownBy.andThen (Gz160) qz169.out (by rintro _ ⟨⟩; exact .inl hwg7)
          have nbz172 := (nbz161).grown qz169.out (by simpa using ne9_10)
          refine hK.out _ _ ⟨range_of (B4.out.grown (Gz171) (by simp)), range_of (B5.out.grown (Gz171) (by simp))⟩ (fun hHeld => ?_)
          clear hK K
          dsimp only [Act.put]
          refine wpAnyH_ready (rs := [12]) (by kernel_rfl) (by simp) ?_
          refine AllReadyH.cons (o := { dst := none, op := Op.store 24 (Operand.tmp 8) (Operand.tmp 22), type := 0, pos := "law.go:24", after := #[{ on := 10, ground := Ground.data }, { on := 7, ground := Ground.data }, { on := 11, ground := Ground.chain }, { on := 0, ground := Ground.phase }, { on := 1, ground := Ground.phase }, { on := 2, ground := Ground.phase }, { on := 3, ground := Ground.phase }, { on := 4, ground := Ground.phase }, { on := 5, ground := Ground.phase }, { on := 6, ground := Ground.phase }, { on := 7, ground := Ground.phase }, { on := 8, ground := Ground.textOnly Departure.lateStores }, { on := 9, ground := Ground.phase }, { on := 10, ground := Ground.phase }, { on := 11, ground := Ground.phase }], guard := none }) rfl (fun K hK => ?_) AllReadyH.nil
          rw [if_pos (by rfl)]
          refine wp_storeG agY _ _ rfl g8 rfl rfl (nbz172) (by rw [u8s_length, z32_length]) (by rw [u8s_length, HBL.out]) (u8s_one _) (fun vz173 kz174 qz175 zz176 => ?_)
          have Gz177 : w3.grownBy vz173 none := World.grownBy.andThen (Gz171) qz175.out (by rintro _ ⟨⟩; exact .inl hwg8)
          have nbz178 := (kz168.out).grown qz175.out (by simpa using (Ne.symm ne9_10))
          refine hK.out _ _ ⟨range_of (B4.out.grown (Gz177) (by simp)), range_of (B5.out.grown (Gz177) (by simp))⟩ (fun hHeld => ?_)
          clear hK K
          dsimp only [Act.put]
          refine wpAnyH_ready (rs := [13]) (by kernel_rfl) (by simp) ?_
          refine AllReadyH.cons (o := { dst := some 9, op := Op.assign (Operand.tmp 23), type := 4, pos := "law.go:24", after := #[{ on := 8, ground := Ground.data }, { on := 12, ground := Ground.chain }, { on := 0, ground := Ground.phase }, { on := 1, ground := Ground.phase }, { on := 2, ground := Ground.phase }, { on := 3, ground := Ground.phase }, { on := 4, ground := Ground.phase }, { on := 5, ground := Ground.phase }, { on := 6, ground := Ground.phase }, { on := 7, ground := Ground.phase }, { on := 8, ground := Ground.phase }, { on := 9, ground := Ground.phase }, { on := 10, ground := Ground.phase }, { on := 11, ground := Ground.phase }, { on := 12, ground := Ground.phase }], guard := none }) rfl (fun K hK => ?_) AllReadyH.nil
          rw [if_pos (by rfl)]
          go_simp
          refine hK.out _ _ hHeld (fun hHeld => ?_)
          clear hK K
          try simp only [Act.put, List.setIfInBounds_toArray, List.set_cons_zero, List.set_cons_succ]
          refine wpAnyH_done (by kernel_rfl) ?_ _
          exact hrest_ _ g7 g8 p ⟨Gz177, nbz178, kz174.out⟩
    · rw [if_pos (by rfl)]
      refine wp_allocG zeY rfl (fun g7 vz179 ez180 kz181 qz182 => ?_)
      have Gz183 := (hg0).trans qz182.out
      have hwg7 : w3.heap.size ≤ g7 := by rw [ez180.out]; exact (hg0).size
      refine hK.out _ _ ⟨range_of (B4.out.grown (Gz183) (by simp)), range_of (B5.out.grown (Gz183) (by simp))⟩ (fun hHeld => ?_)
      clear hK K
      try simp only [Act.put, List.setIfInBounds_toArray, List.set_cons_zero, List.set_cons_succ]
      refine wpAnyH_ready (rs := [1, 10]) (by kernel_rfl) (by simp) ?_
      refine AllReadyH.cons (o := { dst := some 17, op := Op.call { callee := Callee.value (Operand.func 11), args := #[Operand.tmp 16], argTypes := #[4] }, type := 29, pos := "law.go:24", after := #[{ on := 0, ground := Ground.data }], guard := none }) rfl (fun K hK => ?_) (AllReadyH.cons (o := { dst := some 8, op := Op.alloc 24, type := 0, pos := "law.go:24", after := #[], guard := none }) rfl (fun K hK => ?_) AllReadyH.nil)
      · rw [if_pos (by rfl)]
        go_simp
        with_reducible refine (suite_any vz179 (T3.out.grown (Gz183) (by simp) (by simp)) f).mono ?_
        rintro _ vz184 ⟨p, ok, rfl, hsu, hne, gz185⟩
        have nbz187 := (kz181.out).grown gz185 (by simp)
        have Gz186 := (Gz183).trans gz185
        have hnew : ∀ b, ok b → w3.heap.size ≤ b := fun b hb => Nat.le_trans (Gz183).size (hne b hb)
        have nz188 : ¬ ok g7 := fun hb => by have h1 := hne _ hb; have h2 := (kz181.out).lt; omega
        refine hK.out _ _ ⟨range_of (B4.out.grown (Gz186) (by simp)), range_of (B5.out.grown (Gz186) (by simp))⟩ (fun hHeld => ?_)
        clear hK K
        try simp only [Act.put, List.setIfInBounds_toArray, List.set_cons_zero, List.set_cons_succ]
        refine wpAnyH_ready (rs := [4, 10]) (by kernel_rfl) (by simp) ?_
        refine AllReadyH.cons (o := { dst := some 20, op := Op.call { callee := Callee.value (Operand.func 10), args := #[Operand.tmp 17, Operand.tmp 18, Operand.tmp 19], argTypes := #[29, 24, 24] }, type := 25, pos := "law.go:24", after := #[{ on := 1, ground := Ground.data }, { on := 2, ground := Ground.data }, { on := 3, ground := Ground.data }, { on := 1, ground := Ground.chain }], guard := none }) rfl (fun K hK => ?_) (AllReadyH.cons (o := { dst := some 8, op := Op.alloc 24, type := 0, pos := "law.go:24", after := #[], guard := none }) rfl (fun K hK => ?_) AllReadyH.nil)
        · rw [if_pos (by rfl)]
          go_simp
          have hcall : Calls Tryd.prog 10 #[tab p, .agg (u8s r).toArray, .agg (u8s s).toArray] vz184 fun e w' => e = .returned (.tuple #[.agg (u8s a).toArray, .agg (u8s b).toArray, .bool true]) ∧ Nx vz184 ok p σ2 w' := by
            have h := root_any hsu (sg0_room f _) HK.out HK2.out
            rw [← HA.out, ← HB.out, ← H2.out] at h
            exact h
          with_reducible refine hcall.mono ?_
          rintro _ vz189 ⟨rfl, hnx⟩
          have Gz190 := md_grown hnx.2 Gz186 hnew
          have nbz191 := (nbz187).keep (hnx.2.block _ (nbz187).lt nz188)
          refine hK.out _ _ ⟨range_of (B4.out.grown (Gz190) (by simp)), range_of (B5.out.grown (Gz190) (by simp))⟩ (fun hHeld => ?_)
          clear hK K
          try simp only [Act.put, List.setIfInBounds_toArray, List.set_cons_zero, List.set_cons_succ]
          refine' wpAnyH_take (i := 5) (oi := { dst := some 15, op := Op.move (Operand.tmp 20), type := 25, pos := "law.go:24", after := #[{ on := 4, ground := Ground.data }], guard := none }) (v := .tuple #[.agg (u8s a).toArray, .agg (u8s b).toArray, .bool true]) rfl (by kernel_rfl) (by kernel_rfl) (by kernel_rfl) (fun _ _ _ h => h) (Or.inl ⟨by rfl, fun _ _ => rfl⟩) (by assumption) ?qz192
          try simp only [Act.put, List.setIfInBounds_toArray, List.set_cons_zero, List.set_cons_succ]
          refine' wpAnyH_take (i := 6) (oi := { dst := some 21, op := Op.extract (Operand.tmp 15) 0, type := 24, pos := "law.go:24", after := #[{ on := 5, ground := Ground.data }], guard := none }) (v := .agg (u8s a).toArray) rfl (by kernel_rfl) (by kernel_rfl) (by kernel_rfl) (fun _ _ _ h => h) (Or.inl ⟨by rfl, fun _ _ => rfl⟩) (by assumption) ?qz193
          try simp only [Act.put, List.setIfInBounds_toArray, List.set_cons_zero, List.set_cons_succ]
          refine' wpAnyH_take (i := 7) (oi := { dst := some 22, op := Op.extract (Operand.tmp 15) 1, type := 24, pos := "law.go:24", after := #[{ on := 5, ground := Ground.data }, { on := 11, ground := Ground.gcOnly Departure.lateStores }], guard := none }) (v := .agg (u8s b).toArray) rfl (by kernel_rfl) (by kernel_rfl) (by kernel_rfl) (fun _ _ _ h => h) (Or.inl ⟨by rfl, fun _ _ => rfl⟩) (by assumption) ?qz194
          try simp only [Act.put, List.setIfInBounds_toArray, List.set_cons_zero, List.set_cons_succ]
          refine' wpAnyH_take (i := 8) (oi := { dst := some 23, op := Op.extract (Operand.tmp 15) 2, type := 4, pos := "law.go:24", after := #[{ on := 5, ground := Ground.data }, { on := 12, ground := Ground.gcOnly Departure.lateStores }], guard := none }) (v := .bool true) rfl (by kernel_rfl) (by kernel_rfl) (by kernel_rfl) (fun _ _ _ h => h) (Or.inl ⟨by rfl, fun _ _ => rfl⟩) (by assumption) ?qz195
          try simp only [Act.put, List.setIfInBounds_toArray, List.set_cons_zero, List.set_cons_succ]
          refine wpAnyH_ready (rs := [10]) (by kernel_rfl) (by simp) ?_
          refine AllReadyH.cons (o := { dst := some 8, op := Op.alloc 24, type := 0, pos := "law.go:24", after := #[], guard := none }) rfl (fun K hK => ?_) AllReadyH.nil
          rw [if_pos (by rfl)]
          refine wp_allocG zeY rfl (fun g8 vz196 ez197 kz198 qz199 => ?_)
          have Gz200 := (Gz190).trans qz199.out
          have hwg8 : w3.heap.size ≤ g8 := by rw [ez197.out]; exact (Gz190).size
          have ne9_10 : g7 ≠ g8 := fun e' => by have h1 := (nbz191).lt; have h2 := ez197.out; omega
          have nbz201 := (nbz191).grown qz199.out (by simp)
          refine hK.out _ _ ⟨range_of (B4.out.grown (Gz200) (by simp)), range_of (B5.out.grown (Gz200) (by simp))⟩ (fun hHeld => ?_)
          clear hK K
          try simp only [Act.put, List.setIfInBounds_toArray, List.set_cons_zero, List.set_cons_succ]
          refine wpAnyH_ready (rs := [11]) (by kernel_rfl) (by simp) ?_
          refine AllReadyH.cons (o := { dst := none, op := Op.store 24 (Operand.tmp 7) (Operand.tmp 21), type := 0, pos := "law.go:24", after := #[{ on := 9, ground := Ground.data }, { on := 6, ground := Ground.data }, { on := 4, ground := Ground.chain }, { on := 0, ground := Ground.phase }, { on := 1, ground := Ground.phase }, { on := 2, ground := Ground.phase }, { on := 3, ground := Ground.phase }, { on := 4, ground := Ground.phase }, { on := 5, ground := Ground.phase }, { on := 6, ground := Ground.phase }, { on := 7, ground := Ground.textOnly Departure.lateStores }, { on := 8, ground := Ground.textOnly Departure.lateStores }, { on := 9, ground := Ground.phase }, { on := 10, ground := Ground.phase }], guard := none }) rfl (fun K hK => ?_) AllReadyH.nil
          rw [if_pos (by rfl)]
          refine wp_storeG agY _ _ rfl g7 rfl rfl (nbz201) (by rw [u8s_length, z32_length]) (by rw [u8s_length, HAL.out]) (u8s_one _) (fun vz202 kz203 qz204 zz205 => ?_)
          have Gz206 : w3.grownBy vz202 none := World.grownBy.andThen (Gz200) qz204.out (by rintro _ ⟨⟩; exact .inl hwg7)
          have nbz207 := (kz198.out).grown qz204.out (by simpa using (Ne.symm ne9_10))
          refine hK.out _ _ ⟨range_of (B4.out.grown (Gz206) (by simp)), range_of (B5.out.grown (Gz206) (by simp))⟩ (fun hHeld => ?_)
          clear hK K
          dsimp only [Act.put]
          refine wpAnyH_ready (rs := [12]) (by kernel_rfl) (by simp) ?_
          refine AllReadyH.cons (o := { dst := none, op := Op.store 24 (Operand.tmp 8) (Operand.tmp 22), type := 0, pos := "law.go:24", after := #[{ on := 10, ground := Ground.data }, { on := 7, ground := Ground.data }, { on := 11, ground := Ground.chain }, { on := 0, ground := Ground.phase }, { on := 1, ground := Ground.phase }, { on := 2, ground := Ground.phase }, { on := 3, ground := Ground.phase }, { on := 4, ground := Ground.phase }, { on := 5, ground := Ground.phase }, { on := 6, ground := Ground.phase }, { on := 7, ground := Ground.phase }, { on := 8, ground := Ground.textOnly Departure.lateStores }, { on := 9, ground := Ground.phase }, { on := 10, ground := Ground.phase }, { on := 11, ground := Ground.phase }], guard := none }) rfl (fun K hK => ?_) AllReadyH.nil
          rw [if_pos (by rfl)]
          refine wp_storeG agY _ _ rfl g8 rfl rfl (nbz207) (by rw [u8s_length, z32_length]) (by rw [u8s_length, HBL.out]) (u8s_one _) (fun vz208 kz209 qz210 zz211 => ?_)
          have Gz212 : w3.grownBy vz208 none := World.grownBy.andThen (Gz206) qz210.out (by rintro _ ⟨⟩; exact .inl hwg8)
          have nbz213 := (kz203.out).grown qz210.out (by simpa using ne9_10)
          refine hK.out _ _ ⟨range_of (B4.out.grown (Gz212) (by simp)), range_of (B5.out.grown (Gz212) (by simp))⟩ (fun hHeld => ?_)
          clear hK K
          dsimp only [Act.put]
          refine wpAnyH_ready (rs := [13]) (by kernel_rfl) (by simp) ?_
          refine AllReadyH.cons (o := { dst := some 9, op := Op.assign (Operand.tmp 23), type := 4, pos := "law.go:24", after := #[{ on := 8, ground := Ground.data }, { on := 12, ground := Ground.chain }, { on := 0, ground := Ground.phase }, { on := 1, ground := Ground.phase }, { on := 2, ground := Ground.phase }, { on := 3, ground := Ground.phase }, { on := 4, ground := Ground.phase }, { on := 5, ground := Ground.phase }, { on := 6, ground := Ground.phase }, { on := 7, ground := Ground.phase }, { on := 8, ground := Ground.phase }, { on := 9, ground := Ground.phase }, { on := 10, ground := Ground.phase }, { on := 11, ground := Ground.phase }, { on := 12, ground := Ground.phase }], guard := none }) rfl (fun K hK => ?_) AllReadyH.nil
          rw [if_pos (by rfl)]
          go_simp
          refine hK.out _ _ hHeld (fun hHeld => ?_)
          clear hK K
          try simp only [Act.put, List.setIfInBounds_toArray, List.set_cons_zero, List.set_cons_succ]
          refine wpAnyH_done (by kernel_rfl) ?_ _
          exact hrest_ _ g7 g8 p ⟨Gz212, nbz213, kz209.out⟩
        · rw [if_pos (by rfl)]
          refine wp_allocG zeY rfl (fun g8 vz214 ez215 kz216 qz217 => ?_)
          have Gz218 := (Gz186).trans qz217.out
          have hwg8 : w3.heap.size ≤ g8 := by rw [ez215.out]; exact (Gz186).size
          have nz219 : ¬ ok g8 := fun hb => by have h1 := hsu.lt _ hb; have h2 := ez215.out; omega
          have ne9_10 : g7 ≠ g8 := fun e' => by have h1 := (nbz187).lt; have h2 := ez215.out; omega
          have sz220 := hsu.grown qz217.out
          have nbz221 := (nbz187).grown qz217.out (by simp)
          refine hK.out _ _ ⟨range_of (B4.out.grown (Gz218) (by simp)), range_of (B5.out.grown (Gz218) (by simp))⟩ (fun hHeld => ?_)
          clear hK K
          try simp only [Act.put, List.setIfInBounds_toArray, List.set_cons_zero, List.set_cons_succ]
          refine wpAnyH_ready (rs := [4]) (by kernel_rfl) (by simp) ?_
          refine AllReadyH.cons (o := { dst := some 20, op := Op.call { callee := Callee.value (Operand.func 10), args := #[Operand.tmp 17, Operand.tmp 18, Operand.tmp 19], argTypes := #[29, 24, 24] }, type := 25, pos := "law.go:24", after := #[{ on := 1, ground := Ground.data }, { on := 2, ground := Ground.data }, { on := 3, ground := Ground.data }, { on := 1, ground := Ground.chain }], guard := none }) rfl (fun K hK => ?_) AllReadyH.nil
          rw [if_pos (by rfl)]
          go_simp
          have hcall : Calls Tryd.prog 10 #[tab p, .agg (u8s r).toArray, .agg (u8s s).toArray] vz214 fun e w' => e = .returned (.tuple #[.agg (u8s a).toArray, .agg (u8s b).toArray, .bool true]) ∧ Nx vz214 ok p σ2 w' := by
            have h := root_any sz220 (sg0_room f _) HK.out HK2.out
            rw [← HA.out, ← HB.out, ← H2.out] at h
            exact h
          with_reducible refine hcall.mono ?_
          rintro _ vz222 ⟨rfl, hnx⟩
          have Gz223 := md_grown hnx.2 Gz218 hnew
          have nbz224 := (nbz221).keep (hnx.2.block _ (nbz221).lt nz188)
          have nbz225 := (kz216.out).keep (hnx.2.block _ (kz216.out).lt nz219)
          refine hK.out _ _ ⟨range_of (B4.out.grown (Gz223) (by simp)), range_of (B5.out.grown (Gz223) (by simp))⟩ (fun hHeld => ?_)
          clear hK K
          try simp only [Act.put, List.setIfInBounds_toArray, List.set_cons_zero, List.set_cons_succ]
          refine' wpAnyH_take (i := 5) (oi := { dst := some 15, op := Op.move (Operand.tmp 20), type := 25, pos := "law.go:24", after := #[{ on := 4, ground := Ground.data }], guard := none }) (v := .tuple #[.agg (u8s a).toArray, .agg (u8s b).toArray, .bool true]) rfl (by kernel_rfl) (by kernel_rfl) (by kernel_rfl) (fun _ _ _ h => h) (Or.inl ⟨by rfl, fun _ _ => rfl⟩) (by assumption) ?qz226
          try simp only [Act.put, List.setIfInBounds_toArray, List.set_cons_zero, List.set_cons_succ]
          refine' wpAnyH_take (i := 6) (oi := { dst := some 21, op := Op.extract (Operand.tmp 15) 0, type := 24, pos := "law.go:24", after := #[{ on := 5, ground := Ground.data }], guard := none }) (v := .agg (u8s a).toArray) rfl (by kernel_rfl) (by kernel_rfl) (by kernel_rfl) (fun _ _ _ h => h) (Or.inl ⟨by rfl, fun _ _ => rfl⟩) (by assumption) ?qz227
          try simp only [Act.put, List.setIfInBounds_toArray, List.set_cons_zero, List.set_cons_succ]
          refine' wpAnyH_take (i := 7) (oi := { dst := some 22, op := Op.extract (Operand.tmp 15) 1, type := 24, pos := "law.go:24", after := #[{ on := 5, ground := Ground.data }, { on := 11, ground := Ground.gcOnly Departure.lateStores }], guard := none }) (v := .agg (u8s b).toArray) rfl (by kernel_rfl) (by kernel_rfl) (by kernel_rfl) (fun _ _ _ h => h) (Or.inl ⟨by rfl, fun _ _ => rfl⟩) (by assumption) ?qz228
          try simp only [Act.put, List.setIfInBounds_toArray, List.set_cons_zero, List.set_cons_succ]
          refine' wpAnyH_take (i := 8) (oi := { dst := some 23, op := Op.extract (Operand.tmp 15) 2, type := 4, pos := "law.go:24", after := #[{ on := 5, ground := Ground.data }, { on := 12, ground := Ground.gcOnly Departure.lateStores }], guard := none }) (v := .bool true) rfl (by kernel_rfl) (by kernel_rfl) (by kernel_rfl) (fun _ _ _ h => h) (Or.inl ⟨by rfl, fun _ _ => rfl⟩) (by assumption) ?qz229
          try simp only [Act.put, List.setIfInBounds_toArray, List.set_cons_zero, List.set_cons_succ]
          refine wpAnyH_ready (rs := [11]) (by kernel_rfl) (by simp) ?_
          refine AllReadyH.cons (o := { dst := none, op := Op.store 24 (Operand.tmp 7) (Operand.tmp 21), type := 0, pos := "law.go:24", after := #[{ on := 9, ground := Ground.data }, { on := 6, ground := Ground.data }, { on := 4, ground := Ground.chain }, { on := 0, ground := Ground.phase }, { on := 1, ground := Ground.phase }, { on := 2, ground := Ground.phase }, { on := 3, ground := Ground.phase }, { on := 4, ground := Ground.phase }, { on := 5, ground := Ground.phase }, { on := 6, ground := Ground.phase }, { on := 7, ground := Ground.textOnly Departure.lateStores }, { on := 8, ground := Ground.textOnly Departure.lateStores }, { on := 9, ground := Ground.phase }, { on := 10, ground := Ground.phase }], guard := none }) rfl (fun K hK => ?_) AllReadyH.nil
          rw [if_pos (by rfl)]
          refine wp_storeG agY _ _ rfl g7 rfl rfl (nbz224) (by rw [u8s_length, z32_length]) (by rw [u8s_length, HAL.out]) (u8s_one _) (fun vz230 kz231 qz232 zz233 => ?_)
          have Gz234 : w3.grownBy vz230 none := World.grownBy.andThen (Gz223) qz232.out (by rintro _ ⟨⟩; exact .inl hwg7)
          have nbz235 := (nbz225).grown qz232.out (by simpa using (Ne.symm ne9_10))
          refine hK.out _ _ ⟨range_of (B4.out.grown (Gz234) (by simp)), range_of (B5.out.grown (Gz234) (by simp))⟩ (fun hHeld => ?_)
          clear hK K
          dsimp only [Act.put]
          refine wpAnyH_ready (rs := [12]) (by kernel_rfl) (by simp) ?_
          refine AllReadyH.cons (o := { dst := none, op := Op.store 24 (Operand.tmp 8) (Operand.tmp 22), type := 0, pos := "law.go:24", after := #[{ on := 10, ground := Ground.data }, { on := 7, ground := Ground.data }, { on := 11, ground := Ground.chain }, { on := 0, ground := Ground.phase }, { on := 1, ground := Ground.phase }, { on := 2, ground := Ground.phase }, { on := 3, ground := Ground.phase }, { on := 4, ground := Ground.phase }, { on := 5, ground := Ground.phase }, { on := 6, ground := Ground.phase }, { on := 7, ground := Ground.phase }, { on := 8, ground := Ground.textOnly Departure.lateStores }, { on := 9, ground := Ground.phase }, { on := 10, ground := Ground.phase }, { on := 11, ground := Ground.phase }], guard := none }) rfl (fun K hK => ?_) AllReadyH.nil
          rw [if_pos (by rfl)]
          refine wp_storeG agY _ _ rfl g8 rfl rfl (nbz235) (by rw [u8s_length, z32_length]) (by rw [u8s_length, HBL.out]) (u8s_one _) (fun vz236 kz237 qz238 zz239 => ?_)
          have Gz240 : w3.grownBy vz236 none := World.grownBy.andThen (Gz234) qz238.out (by rintro _ ⟨⟩; exact .inl hwg8)
          have nbz241 := (kz231.out).grown qz238.out (by simpa using ne9_10)
          refine hK.out _ _ ⟨range_of (B4.out.grown (Gz240) (by simp)), range_of (B5.out.grown (Gz240) (by simp))⟩ (fun hHeld => ?_)
          clear hK K
          dsimp only [Act.put]
          refine wpAnyH_ready (rs := [13]) (by kernel_rfl) (by simp) ?_
          refine AllReadyH.cons (o := { dst := some 9, op := Op.assign (Operand.tmp 23), type := 4, pos := "law.go:24", after := #[{ on := 8, ground := Ground.data }, { on := 12, ground := Ground.chain }, { on := 0, ground := Ground.phase }, { on := 1, ground := Ground.phase }, { on := 2, ground := Ground.phase }, { on := 3, ground := Ground.phase }, { on := 4, ground := Ground.phase }, { on := 5, ground := Ground.phase }, { on := 6, ground := Ground.phase }, { on := 7, ground := Ground.phase }, { on := 8, ground := Ground.phase }, { on := 9, ground := Ground.phase }, { on := 10, ground := Ground.phase }, { on := 11, ground := Ground.phase }, { on := 12, ground := Ground.phase }], guard := none }) rfl (fun K hK => ?_) AllReadyH.nil
          rw [if_pos (by rfl)]
          go_simp
          refine hK.out _ _ hHeld (fun hHeld => ?_)
          clear hK K
          try simp only [Act.put, List.setIfInBounds_toArray, List.set_cons_zero, List.set_cons_succ]
          refine wpAnyH_done (by kernel_rfl) ?_ _
          exact hrest_ _ g7 g8 p ⟨Gz240, nbz241, kz237.out⟩
      · rw [if_pos (by rfl)]
        refine wp_allocG zeY rfl (fun g8 vz242 ez243 kz244 qz245 => ?_)
        have Gz246 := (Gz183).trans qz245.out
        have hwg8 : w3.heap.size ≤ g8 := by rw [ez243.out]; exact (Gz183).size
        have ne9_10 : g7 ≠ g8 := fun e' => by have h1 := (kz181.out).lt; have h2 := ez243.out; omega
        have nbz247 := (kz181.out).grown qz245.out (by simp)
        refine hK.out _ _ ⟨range_of (B4.out.grown (Gz246) (by simp)), range_of (B5.out.grown (Gz246) (by simp))⟩ (fun hHeld => ?_)
        clear hK K
        try simp only [Act.put, List.setIfInBounds_toArray, List.set_cons_zero, List.set_cons_succ]
        refine wpAnyH_ready (rs := [1]) (by kernel_rfl) (by simp) ?_
        refine AllReadyH.cons (o := { dst := some 17, op := Op.call { callee := Callee.value (Operand.func 11), args := #[Operand.tmp 16], argTypes := #[4] }, type := 29, pos := "law.go:24", after := #[{ on := 0, ground := Ground.data }], guard := none }) rfl (fun K hK => ?_) AllReadyH.nil
        rw [if_pos (by rfl)]
        go_simp
        with_reducible refine (suite_any vz242 (T3.out.grown (Gz246) (by simp) (by simp)) f).mono ?_
        rintro _ vz248 ⟨p, ok, rfl, hsu, hne, gz249⟩
        have nbz251 := (nbz247).grown gz249 (by simp)
        have nbz252 := (kz244.out).grown gz249 (by simp)
        have Gz250 := (Gz246).trans gz249
        have hnew : ∀ b, ok b → w3.heap.size ≤ b := fun b hb => Nat.le_trans (Gz246).size (hne b hb)
        have nz253 : ¬ ok g7 := fun hb => by have h1 := hne _ hb; have h2 := (nbz247).lt; omega
        have nz254 : ¬ ok g8 := fun hb => by have h1 := hne _ hb; have h2 := (kz244.out).lt; omega
        refine hK.out _ _ ⟨range_of (B4.out.grown (Gz250) (by simp)), range_of (B5.out.grown (Gz250) (by simp))⟩ (fun hHeld => ?_)
        clear hK K
        try simp only [Act.put, List.setIfInBounds_toArray, List.set_cons_zero, List.set_cons_succ]
        refine wpAnyH_ready (rs := [4]) (by kernel_rfl) (by simp) ?_
        refine AllReadyH.cons (o := { dst := some 20, op := Op.call { callee := Callee.value (Operand.func 10), args := #[Operand.tmp 17, Operand.tmp 18, Operand.tmp 19], argTypes := #[29, 24, 24] }, type := 25, pos := "law.go:24", after := #[{ on := 1, ground := Ground.data }, { on := 2, ground := Ground.data }, { on := 3, ground := Ground.data }, { on := 1, ground := Ground.chain }], guard := none }) rfl (fun K hK => ?_) AllReadyH.nil
        rw [if_pos (by rfl)]
        go_simp
        have hcall : Calls Tryd.prog 10 #[tab p, .agg (u8s r).toArray, .agg (u8s s).toArray] vz248 fun e w' => e = .returned (.tuple #[.agg (u8s a).toArray, .agg (u8s b).toArray, .bool true]) ∧ Nx vz248 ok p σ2 w' := by
          have h := root_any hsu (sg0_room f _) HK.out HK2.out
          rw [← HA.out, ← HB.out, ← H2.out] at h
          exact h
        with_reducible refine hcall.mono ?_
        rintro _ vz255 ⟨rfl, hnx⟩
        have Gz256 := md_grown hnx.2 Gz250 hnew
        have nbz257 := (nbz251).keep (hnx.2.block _ (nbz251).lt nz253)
        have nbz258 := (nbz252).keep (hnx.2.block _ (nbz252).lt nz254)
        refine hK.out _ _ ⟨range_of (B4.out.grown (Gz256) (by simp)), range_of (B5.out.grown (Gz256) (by simp))⟩ (fun hHeld => ?_)
        clear hK K
        try simp only [Act.put, List.setIfInBounds_toArray, List.set_cons_zero, List.set_cons_succ]
        refine' wpAnyH_take (i := 5) (oi := { dst := some 15, op := Op.move (Operand.tmp 20), type := 25, pos := "law.go:24", after := #[{ on := 4, ground := Ground.data }], guard := none }) (v := .tuple #[.agg (u8s a).toArray, .agg (u8s b).toArray, .bool true]) rfl (by kernel_rfl) (by kernel_rfl) (by kernel_rfl) (fun _ _ _ h => h) (Or.inl ⟨by rfl, fun _ _ => rfl⟩) (by assumption) ?qz259
        try simp only [Act.put, List.setIfInBounds_toArray, List.set_cons_zero, List.set_cons_succ]
        refine' wpAnyH_take (i := 6) (oi := { dst := some 21, op := Op.extract (Operand.tmp 15) 0, type := 24, pos := "law.go:24", after := #[{ on := 5, ground := Ground.data }], guard := none }) (v := .agg (u8s a).toArray) rfl (by kernel_rfl) (by kernel_rfl) (by kernel_rfl) (fun _ _ _ h => h) (Or.inl ⟨by rfl, fun _ _ => rfl⟩) (by assumption) ?qz260
        try simp only [Act.put, List.setIfInBounds_toArray, List.set_cons_zero, List.set_cons_succ]
        refine' wpAnyH_take (i := 7) (oi := { dst := some 22, op := Op.extract (Operand.tmp 15) 1, type := 24, pos := "law.go:24", after := #[{ on := 5, ground := Ground.data }, { on := 11, ground := Ground.gcOnly Departure.lateStores }], guard := none }) (v := .agg (u8s b).toArray) rfl (by kernel_rfl) (by kernel_rfl) (by kernel_rfl) (fun _ _ _ h => h) (Or.inl ⟨by rfl, fun _ _ => rfl⟩) (by assumption) ?qz261
        try simp only [Act.put, List.setIfInBounds_toArray, List.set_cons_zero, List.set_cons_succ]
        refine' wpAnyH_take (i := 8) (oi := { dst := some 23, op := Op.extract (Operand.tmp 15) 2, type := 4, pos := "law.go:24", after := #[{ on := 5, ground := Ground.data }, { on := 12, ground := Ground.gcOnly Departure.lateStores }], guard := none }) (v := .bool true) rfl (by kernel_rfl) (by kernel_rfl) (by kernel_rfl) (fun _ _ _ h => h) (Or.inl ⟨by rfl, fun _ _ => rfl⟩) (by assumption) ?qz262
        try simp only [Act.put, List.setIfInBounds_toArray, List.set_cons_zero, List.set_cons_succ]
        refine wpAnyH_ready (rs := [11]) (by kernel_rfl) (by simp) ?_
        refine AllReadyH.cons (o := { dst := none, op := Op.store 24 (Operand.tmp 7) (Operand.tmp 21), type := 0, pos := "law.go:24", after := #[{ on := 9, ground := Ground.data }, { on := 6, ground := Ground.data }, { on := 4, ground := Ground.chain }, { on := 0, ground := Ground.phase }, { on := 1, ground := Ground.phase }, { on := 2, ground := Ground.phase }, { on := 3, ground := Ground.phase }, { on := 4, ground := Ground.phase }, { on := 5, ground := Ground.phase }, { on := 6, ground := Ground.phase }, { on := 7, ground := Ground.textOnly Departure.lateStores }, { on := 8, ground := Ground.textOnly Departure.lateStores }, { on := 9, ground := Ground.phase }, { on := 10, ground := Ground.phase }], guard := none }) rfl (fun K hK => ?_) AllReadyH.nil
        rw [if_pos (by rfl)]
        refine wp_storeG agY _ _ rfl g7 rfl rfl (nbz257) (by rw [u8s_length, z32_length]) (by rw [u8s_length, HAL.out]) (u8s_one _) (fun vz263 kz264 qz265 zz266 => ?_)
        have Gz267 : w3.grownBy vz263 none := World.grownBy.andThen (Gz256) qz265.out (by rintro _ ⟨⟩; exact .inl hwg7)
        have nbz268 := (nbz258).grown qz265.out (by simpa using (Ne.symm ne9_10))
        refine hK.out _ _ ⟨range_of (B4.out.grown (Gz267) (by simp)), range_of (B5.out.grown (Gz267) (by simp))⟩ (fun hHeld => ?_)
        clear hK K
        dsimp only [Act.put]
        refine wpAnyH_ready (rs := [12]) (by kernel_rfl) (by simp) ?_
        refine AllReadyH.cons (o := { dst := none, op := Op.store 24 (Operand.tmp 8) (Operand.tmp 22), type := 0, pos := "law.go:24", after := #[{ on := 10, ground := Ground.data }, { on := 7, ground := Ground.data }, { on := 11, ground := Ground.chain }, { on := 0, ground := Ground.phase }, { on := 1, ground := Ground.phase }, { on := 2, ground := Ground.phase }, { on := 3, ground := Ground.phase }, { on := 4, ground := Ground.phase }, { on := 5, ground := Ground.phase }, { on := 6, ground := Ground.phase }, { on := 7, ground := Ground.phase }, { on := 8, ground := Ground.textOnly Departure.lateStores }, { on := 9, ground := Ground.phase }, { on := 10, ground := Ground.phase }, { on := 11, ground := Ground.phase }], guard := none }) rfl (fun K hK => ?_) AllReadyH.nil
        rw [if_pos (by rfl)]
        refine wp_storeG agY _ _ rfl g8 rfl rfl (nbz268) (by rw [u8s_length, z32_length]) (by rw [u8s_length, HBL.out]) (u8s_one _) (fun vz269 kz270 qz271 zz272 => ?_)
        have Gz273 : w3.grownBy vz269 none := World.grownBy.andThen (Gz267) qz271.out (by rintro _ ⟨⟩; exact .inl hwg8)
        have nbz274 := (kz264.out).grown qz271.out (by simpa using ne9_10)
        refine hK.out _ _ ⟨range_of (B4.out.grown (Gz273) (by simp)), range_of (B5.out.grown (Gz273) (by simp))⟩ (fun hHeld => ?_)
        clear hK K
        dsimp only [Act.put]
        refine wpAnyH_ready (rs := [13]) (by kernel_rfl) (by simp) ?_
        refine AllReadyH.cons (o := { dst := some 9, op := Op.assign (Operand.tmp 23), type := 4, pos := "law.go:24", after := #[{ on := 8, ground := Ground.data }, { on := 12, ground := Ground.chain }, { on := 0, ground := Ground.phase }, { on := 1, ground := Ground.phase }, { on := 2, ground := Ground.phase }, { on := 3, ground := Ground.phase }, { on := 4, ground := Ground.phase }, { on := 5, ground := Ground.phase }, { on := 6, ground := Ground.phase }, { on := 7, ground := Ground.phase }, { on := 8, ground := Ground.phase }, { on := 9, ground := Ground.phase }, { on := 10, ground := Ground.phase }, { on := 11, ground := Ground.phase }, { on := 12, ground := Ground.phase }], guard := none }) rfl (fun K hK => ?_) AllReadyH.nil
        rw [if_pos (by rfl)]
        go_simp
        refine hK.out _ _ hHeld (fun hHeld => ?_)
        clear hK K
        try simp only [Act.put, List.setIfInBounds_toArray, List.set_cons_zero, List.set_cons_succ]
        refine wpAnyH_done (by kernel_rfl) ?_ _
        exact hrest_ _ g7 g8 p ⟨Gz273, nbz274, kz270.out⟩
    · rw [if_pos (by rfl)]
      refine wp_allocG zeY rfl (fun g8 vz275 ez276 kz277 qz278 => ?_)
      have Gz279 := (hg0).trans qz278.out
      have hwg8 : w3.heap.size ≤ g8 := by rw [ez276.out]; exact (hg0).size
      refine hK.out _ _ ⟨range_of (B4.out.grown (Gz279) (by simp)), range_of (B5.out.grown (Gz279) (by simp))⟩ (fun hHeld => ?_)
      clear hK K
      try simp only [Act.put, List.setIfInBounds_toArray, List.set_cons_zero, List.set_cons_succ]
      refine wpAnyH_ready (rs := [1, 9]) (by kernel_rfl) (by simp) ?_
      refine AllReadyH.cons (o := { dst := some 17, op := Op.call { callee := Callee.value (Operand.func 11), args := #[Operand.tmp 16], argTypes := #[4] }, type := 29, pos := "law.go:24", after := #[{ on := 0, ground := Ground.data }], guard := none }) rfl (fun K hK => ?_) (AllReadyH.cons (o := { dst := some 7, op := Op.alloc 24, type := 0, pos := "law.go:24", after := #[], guard := none }) rfl (fun K hK => ?_) AllReadyH.nil)
      · rw [if_pos (by rfl)]
        go_simp
        with_reducible refine (suite_any vz275 (T3.out.grown (Gz279) (by simp) (by simp)) f).mono ?_
        rintro _ vz280 ⟨p, ok, rfl, hsu, hne, gz281⟩
        have nbz283 := (kz277.out).grown gz281 (by simp)
        have Gz282 := (Gz279).trans gz281
        have hnew : ∀ b, ok b → w3.heap.size ≤ b := fun b hb => Nat.le_trans (Gz279).size (hne b hb)
        have nz284 : ¬ ok g8 := fun hb => by have h1 := hne _ hb; have h2 := (kz277.out).lt; omega
        refine hK.out _ _ ⟨range_of (B4.out.grown (Gz282) (by simp)), range_of (B5.out.grown (Gz282) (by simp))⟩ (fun hHeld => ?_)
        clear hK K
        try simp only [Act.put, List.setIfInBounds_toArray, List.set_cons_zero, List.set_cons_succ]
        refine wpAnyH_ready (rs := [4, 9]) (by kernel_rfl) (by simp) ?_
        refine AllReadyH.cons (o := { dst := some 20, op := Op.call { callee := Callee.value (Operand.func 10), args := #[Operand.tmp 17, Operand.tmp 18, Operand.tmp 19], argTypes := #[29, 24, 24] }, type := 25, pos := "law.go:24", after := #[{ on := 1, ground := Ground.data }, { on := 2, ground := Ground.data }, { on := 3, ground := Ground.data }, { on := 1, ground := Ground.chain }], guard := none }) rfl (fun K hK => ?_) (AllReadyH.cons (o := { dst := some 7, op := Op.alloc 24, type := 0, pos := "law.go:24", after := #[], guard := none }) rfl (fun K hK => ?_) AllReadyH.nil)
        · rw [if_pos (by rfl)]
          go_simp
          have hcall : Calls Tryd.prog 10 #[tab p, .agg (u8s r).toArray, .agg (u8s s).toArray] vz280 fun e w' => e = .returned (.tuple #[.agg (u8s a).toArray, .agg (u8s b).toArray, .bool true]) ∧ Nx vz280 ok p σ2 w' := by
            have h := root_any hsu (sg0_room f _) HK.out HK2.out
            rw [← HA.out, ← HB.out, ← H2.out] at h
            exact h
          with_reducible refine hcall.mono ?_
          rintro _ vz285 ⟨rfl, hnx⟩
          have Gz286 := md_grown hnx.2 Gz282 hnew
          have nbz287 := (nbz283).keep (hnx.2.block _ (nbz283).lt nz284)
          refine hK.out _ _ ⟨range_of (B4.out.grown (Gz286) (by simp)), range_of (B5.out.grown (Gz286) (by simp))⟩ (fun hHeld => ?_)
          clear hK K
          try simp only [Act.put, List.setIfInBounds_toArray, List.set_cons_zero, List.set_cons_succ]
          refine' wpAnyH_take (i := 5) (oi := { dst := some 15, op := Op.move (Operand.tmp 20), type := 25, pos := "law.go:24", after := #[{ on := 4, ground := Ground.data }], guard := none }) (v := .tuple #[.agg (u8s a).toArray, .agg (u8s b).toArray, .bool true]) rfl (by kernel_rfl) (by kernel_rfl) (by kernel_rfl) (fun _ _ _ h => h) (Or.inl ⟨by rfl, fun _ _ => rfl⟩) (by assumption) ?qz288
          try simp only [Act.put, List.setIfInBounds_toArray, List.set_cons_zero, List.set_cons_succ]
          refine' wpAnyH_take (i := 6) (oi := { dst := some 21, op := Op.extract (Operand.tmp 15) 0, type := 24, pos := "law.go:24", after := #[{ on := 5, ground := Ground.data }], guard := none }) (v := .agg (u8s a).toArray) rfl (by kernel_rfl) (by kernel_rfl) (by kernel_rfl) (fun _ _ _ h => h) (Or.inl ⟨by rfl, fun _ _ => rfl⟩) (by assumption) ?qz289
          try simp only [Act.put, List.setIfInBounds_toArray, List.set_cons_zero, List.set_cons_succ]
          refine' wpAnyH_take (i := 7) (oi := { dst := some 22, op := Op.extract (Operand.tmp 15) 1, type := 24, pos := "law.go:24", after := #[{ on := 5, ground := Ground.data }, { on := 11, ground := Ground.gcOnly Departure.lateStores }], guard := none }) (v := .agg (u8s b).toArray) rfl (by kernel_rfl) (by kernel_rfl) (by kernel_rfl) (fun _ _ _ h => h) (Or.inl ⟨by rfl, fun _ _ => rfl⟩) (by assumption) ?qz290
          try simp only [Act.put, List.setIfInBounds_toArray, List.set_cons_zero, List.set_cons_succ]
          refine' wpAnyH_take (i := 8) (oi := { dst := some 23, op := Op.extract (Operand.tmp 15) 2, type := 4, pos := "law.go:24", after := #[{ on := 5, ground := Ground.data }, { on := 12, ground := Ground.gcOnly Departure.lateStores }], guard := none }) (v := .bool true) rfl (by kernel_rfl) (by kernel_rfl) (by kernel_rfl) (fun _ _ _ h => h) (Or.inl ⟨by rfl, fun _ _ => rfl⟩) (by assumption) ?qz291
          try simp only [Act.put, List.setIfInBounds_toArray, List.set_cons_zero, List.set_cons_succ]
          refine wpAnyH_ready (rs := [9]) (by kernel_rfl) (by simp) ?_
          refine AllReadyH.cons (o := { dst := some 7, op := Op.alloc 24, type := 0, pos := "law.go:24", after := #[], guard := none }) rfl (fun K hK => ?_) AllReadyH.nil
          rw [if_pos (by rfl)]
          refine wp_allocG zeY rfl (fun g7 vz292 ez293 kz294 qz295 => ?_)
          have Gz296 := (Gz286).trans qz295.out
          have hwg7 : w3.heap.size ≤ g7 := by rw [ez293.out]; exact (Gz286).size
          have ne9_10 : g8 ≠ g7 := fun e' => by have h1 := (nbz287).lt; have h2 := ez293.out; omega
          have nbz297 := (nbz287).grown qz295.out (by simp)
          refine hK.out _ _ ⟨range_of (B4.out.grown (Gz296) (by simp)), range_of (B5.out.grown (Gz296) (by simp))⟩ (fun hHeld => ?_)
          clear hK K
          try simp only [Act.put, List.setIfInBounds_toArray, List.set_cons_zero, List.set_cons_succ]
          refine wpAnyH_ready (rs := [11]) (by kernel_rfl) (by simp) ?_
          refine AllReadyH.cons (o := { dst := none, op := Op.store 24 (Operand.tmp 7) (Operand.tmp 21), type := 0, pos := "law.go:24", after := #[{ on := 9, ground := Ground.data }, { on := 6, ground := Ground.data }, { on := 4, ground := Ground.chain }, { on := 0, ground := Ground.phase }, { on := 1, ground := Ground.phase }, { on := 2, ground := Ground.phase }, { on := 3, ground := Ground.phase }, { on := 4, ground := Ground.phase }, { on := 5, ground := Ground.phase }, { on := 6, ground := Ground.phase }, { on := 7, ground := Ground.textOnly Departure.lateStores }, { on := 8, ground := Ground.textOnly Departure.lateStores }, { on := 9, ground := Ground.phase }, { on := 10, ground := Ground.phase }], guard := none }) rfl (fun K hK => ?_) AllReadyH.nil
          rw [if_pos (by rfl)]
          refine wp_storeG agY _ _ rfl g7 rfl rfl (kz294.out) (by rw [u8s_length, z32_length]) (by rw [u8s_length, HAL.out]) (u8s_one _) (fun vz298 kz299 qz300 zz301 => ?_)
          have Gz302 : w3.grownBy vz298 none := World.grownBy.andThen (Gz296) qz300.out (by rintro _ ⟨⟩; exact .inl hwg7)
          have nbz303 := (nbz297).grown qz300.out (by simpa using ne9_10)
          refine hK.out _ _ ⟨range_of (B4.out.grown (Gz302) (by simp)), range_of (B5.out.grown (Gz302) (by simp))⟩ (fun hHeld => ?_)
          clear hK K
          dsimp only [Act.put]
          refine wpAnyH_ready (rs := [12]) (by kernel_rfl) (by simp) ?_
          refine AllReadyH.cons (o := { dst := none, op := Op.store 24 (Operand.tmp 8) (Operand.tmp 22), type := 0, pos := "law.go:24", after := #[{ on := 10, ground := Ground.data }, { on := 7, ground := Ground.data }, { on := 11, ground := Ground.chain }, { on := 0, ground := Ground.phase }, { on := 1, ground := Ground.phase }, { on := 2, ground := Ground.phase }, { on := 3, ground := Ground.phase }, { on := 4, ground := Ground.phase }, { on := 5, ground := Ground.phase }, { on := 6, ground := Ground.phase }, { on := 7, ground := Ground.phase }, { on := 8, ground := Ground.textOnly Departure.lateStores }, { on := 9, ground := Ground.phase }, { on := 10, ground := Ground.phase }, { on := 11, ground := Ground.phase }], guard := none }) rfl (fun K hK => ?_) AllReadyH.nil
          rw [if_pos (by rfl)]
          refine wp_storeG agY _ _ rfl g8 rfl rfl (nbz303) (by rw [u8s_length, z32_length]) (by rw [u8s_length, HBL.out]) (u8s_one _) (fun vz304 kz305 qz306 zz307 => ?_)
          have Gz308 : w3.grownBy vz304 none := World.grownBy.andThen (Gz302) qz306.out (by rintro _ ⟨⟩; exact .inl hwg8)
          have nbz309 := (kz299.out).grown qz306.out (by simpa using (Ne.symm ne9_10))
          refine hK.out _ _ ⟨range_of (B4.out.grown (Gz308) (by simp)), range_of (B5.out.grown (Gz308) (by simp))⟩ (fun hHeld => ?_)
          clear hK K
          dsimp only [Act.put]
          refine wpAnyH_ready (rs := [13]) (by kernel_rfl) (by simp) ?_
          refine AllReadyH.cons (o := { dst := some 9, op := Op.assign (Operand.tmp 23), type := 4, pos := "law.go:24", after := #[{ on := 8, ground := Ground.data }, { on := 12, ground := Ground.chain }, { on := 0, ground := Ground.phase }, { on := 1, ground := Ground.phase }, { on := 2, ground := Ground.phase }, { on := 3, ground := Ground.phase }, { on := 4, ground := Ground.phase }, { on := 5, ground := Ground.phase }, { on := 6, ground := Ground.phase }, { on := 7, ground := Ground.phase }, { on := 8, ground := Ground.phase }, { on := 9, ground := Ground.phase }, { on := 10, ground := Ground.phase }, { on := 11, ground := Ground.phase }, { on := 12, ground := Ground.phase }], guard := none }) rfl (fun K hK => ?_) AllReadyH.nil
          rw [if_pos (by rfl)]
          go_simp
          refine hK.out _ _ hHeld (fun hHeld => ?_)
          clear hK K
          try simp only [Act.put, List.setIfInBounds_toArray, List.set_cons_zero, List.set_cons_succ]
          refine wpAnyH_done (by kernel_rfl) ?_ _
          exact hrest_ _ g7 g8 p ⟨Gz308, nbz309, kz305.out⟩
        · rw [if_pos (by rfl)]
          refine wp_allocG zeY rfl (fun g7 vz310 ez311 kz312 qz313 => ?_)
          have Gz314 := (Gz282).trans qz313.out
          have hwg7 : w3.heap.size ≤ g7 := by rw [ez311.out]; exact (Gz282).size
          have nz315 : ¬ ok g7 := fun hb => by have h1 := hsu.lt _ hb; have h2 := ez311.out; omega
          have ne9_10 : g8 ≠ g7 := fun e' => by have h1 := (nbz283).lt; have h2 := ez311.out; omega
          have sz316 := hsu.grown qz313.out
          have nbz317 := (nbz283).grown qz313.out (by simp)
          refine hK.out _ _ ⟨range_of (B4.out.grown (Gz314) (by simp)), range_of (B5.out.grown (Gz314) (by simp))⟩ (fun hHeld => ?_)
          clear hK K
          try simp only [Act.put, List.setIfInBounds_toArray, List.set_cons_zero, List.set_cons_succ]
          refine wpAnyH_ready (rs := [4]) (by kernel_rfl) (by simp) ?_
          refine AllReadyH.cons (o := { dst := some 20, op := Op.call { callee := Callee.value (Operand.func 10), args := #[Operand.tmp 17, Operand.tmp 18, Operand.tmp 19], argTypes := #[29, 24, 24] }, type := 25, pos := "law.go:24", after := #[{ on := 1, ground := Ground.data }, { on := 2, ground := Ground.data }, { on := 3, ground := Ground.data }, { on := 1, ground := Ground.chain }], guard := none }) rfl (fun K hK => ?_) AllReadyH.nil
          rw [if_pos (by rfl)]
          go_simp
          have hcall : Calls Tryd.prog 10 #[tab p, .agg (u8s r).toArray, .agg (u8s s).toArray] vz310 fun e w' => e = .returned (.tuple #[.agg (u8s a).toArray, .agg (u8s b).toArray, .bool true]) ∧ Nx vz310 ok p σ2 w' := by
            have h := root_any sz316 (sg0_room f _) HK.out HK2.out
            rw [← HA.out, ← HB.out, ← H2.out] at h
            exact h
          with_reducible refine hcall.mono ?_
          rintro _ vz318 ⟨rfl, hnx⟩
          have Gz319 := md_grown hnx.2 Gz314 hnew
          have nbz320 := (nbz317).keep (hnx.2.block _ (nbz317).lt nz284)
          have nbz321 := (kz312.out).keep (hnx.2.block _ (kz312.out).lt nz315)
          refine hK.out _ _ ⟨range_of (B4.out.grown (Gz319) (by simp)), range_of (B5.out.grown (Gz319) (by simp))⟩ (fun hHeld => ?_)
          clear hK K
          try simp only [Act.put, List.setIfInBounds_toArray, List.set_cons_zero, List.set_cons_succ]
          refine' wpAnyH_take (i := 5) (oi := { dst := some 15, op := Op.move (Operand.tmp 20), type := 25, pos := "law.go:24", after := #[{ on := 4, ground := Ground.data }], guard := none }) (v := .tuple #[.agg (u8s a).toArray, .agg (u8s b).toArray, .bool true]) rfl (by kernel_rfl) (by kernel_rfl) (by kernel_rfl) (fun _ _ _ h => h) (Or.inl ⟨by rfl, fun _ _ => rfl⟩) (by assumption) ?qz322
          try simp only [Act.put, List.setIfInBounds_toArray, List.set_cons_zero, List.set_cons_succ]
          refine' wpAnyH_take (i := 6) (oi := { dst := some 21, op := Op.extract (Operand.tmp 15) 0, type := 24, pos := "law.go:24", after := #[{ on := 5, ground := Ground.data }], guard := none }) (v := .agg (u8s a).toArray) rfl (by kernel_rfl) (by kernel_rfl) (by kernel_rfl) (fun _ _ _ h => h) (Or.inl ⟨by rfl, fun _ _ => rfl⟩) (by assumption) ?qz323
          try simp only [Act.put, List.setIfInBounds_toArray, List.set_cons_zero, List.set_cons_succ]
          refine' wpAnyH_take (i := 7) (oi := { dst := some 22, op := Op.extract (Operand.tmp 15) 1, type := 24, pos := "law.go:24", after := #[{ on := 5, ground := Ground.data }, { on := 11, ground := Ground.gcOnly Departure.lateStores }], guard := none }) (v := .agg (u8s b).toArray) rfl (by kernel_rfl) (by kernel_rfl) (by kernel_rfl) (fun _ _ _ h => h) (Or.inl ⟨by rfl, fun _ _ => rfl⟩) (by assumption) ?qz324
          try simp only [Act.put, List.setIfInBounds_toArray, List.set_cons_zero, List.set_cons_succ]
          refine' wpAnyH_take (i := 8) (oi := { dst := some 23, op := Op.extract (Operand.tmp 15) 2, type := 4, pos := "law.go:24", after := #[{ on := 5, ground := Ground.data }, { on := 12, ground := Ground.gcOnly Departure.lateStores }], guard := none }) (v := .bool true) rfl (by kernel_rfl) (by kernel_rfl) (by kernel_rfl) (fun _ _ _ h => h) (Or.inl ⟨by rfl, fun _ _ => rfl⟩) (by assumption) ?qz325
          try simp only [Act.put, List.setIfInBounds_toArray, List.set_cons_zero, List.set_cons_succ]
          refine wpAnyH_ready (rs := [11]) (by kernel_rfl) (by simp) ?_
          refine AllReadyH.cons (o := { dst := none, op := Op.store 24 (Operand.tmp 7) (Operand.tmp 21), type := 0, pos := "law.go:24", after := #[{ on := 9, ground := Ground.data }, { on := 6, ground := Ground.data }, { on := 4, ground := Ground.chain }, { on := 0, ground := Ground.phase }, { on := 1, ground := Ground.phase }, { on := 2, ground := Ground.phase }, { on := 3, ground := Ground.phase }, { on := 4, ground := Ground.phase }, { on := 5, ground := Ground.phase }, { on := 6, ground := Ground.phase }, { on := 7, ground := Ground.textOnly Departure.lateStores }, { on := 8, ground := Ground.textOnly Departure.lateStores }, { on := 9, ground := Ground.phase }, { on := 10, ground := Ground.phase }], guard := none }) rfl (fun K hK => ?_) AllReadyH.nil
          rw [if_pos (by rfl)]
          refine wp_storeG agY _ _ rfl g7 rfl rfl (nbz321) (by rw [u8s_length, z32_length]) (by rw [u8s_length, HAL.out]) (u8s_one _) (fun vz326 kz327 qz328 zz329 => ?_)
          have Gz330 : w3.grownBy vz326 none := World.grownBy.andThen (Gz319) qz328.out (by rintro _ ⟨⟩; exact .inl hwg7)
          have nbz331 := (nbz320).grown qz328.out (by simpa using ne9_10)
          refine hK.out _ _ ⟨range_of (B4.out.grown (Gz330) (by simp)), range_of (B5.out.grown (Gz330) (by simp))⟩ (fun hHeld => ?_)
          clear hK K
          dsimp only [Act.put]
          refine wpAnyH_ready (rs := [12]) (by kernel_rfl) (by simp) ?_
          refine AllReadyH.cons (o := { dst := none, op := Op.store 24 (Operand.tmp 8) (Operand.tmp 22), type := 0, pos := "law.go:24", after := #[{ on := 10, ground := Ground.data }, { on := 7, ground := Ground.data }, { on := 11, ground := Ground.chain }, { on := 0, ground := Ground.phase }, { on := 1, ground := Ground.phase }, { on := 2, ground := Ground.phase }, { on := 3, ground := Ground.phase }, { on := 4, ground := Ground.phase }, { on := 5, ground := Ground.phase }, { on := 6, ground := Ground.phase }, { on := 7, ground := Ground.phase }, { on := 8, ground := Ground.textOnly Departure.lateStores }, { on := 9, ground := Ground.phase }, { on := 10, ground := Ground.phase }, { on := 11, ground := Ground.phase }], guard := none }) rfl (fun K hK => ?_) AllReadyH.nil
          rw [if_pos (by rfl)]
          refine wp_storeG agY _ _ rfl g8 rfl rfl (nbz331) (by rw [u8s_length, z32_length]) (by rw [u8s_length, HBL.out]) (u8s_one _) (fun vz332 kz333 qz334 zz335 => ?_)
          have Gz336 : w3.grownBy vz332 none := World.grownBy.andThen (Gz330) qz334.out (by rintro _ ⟨⟩; exact .inl hwg8)
          have nbz337 := (kz327.out).grown qz334.out (by simpa using (Ne.symm ne9_10))
          refine hK.out _ _ ⟨range_of (B4.out.grown (Gz336) (by simp)), range_of (B5.out.grown (Gz336) (by simp))⟩ (fun hHeld => ?_)
          clear hK K
          dsimp only [Act.put]
          refine wpAnyH_ready (rs := [13]) (by kernel_rfl) (by simp) ?_
          refine AllReadyH.cons (o := { dst := some 9, op := Op.assign (Operand.tmp 23), type := 4, pos := "law.go:24", after := #[{ on := 8, ground := Ground.data }, { on := 12, ground := Ground.chain }, { on := 0, ground := Ground.phase }, { on := 1, ground := Ground.phase }, { on := 2, ground := Ground.phase }, { on := 3, ground := Ground.phase }, { on := 4, ground := Ground.phase }, { on := 5, ground := Ground.phase }, { on := 6, ground := Ground.phase }, { on := 7, ground := Ground.phase }, { on := 8, ground := Ground.phase }, { on := 9, ground := Ground.phase }, { on := 10, ground := Ground.phase }, { on := 11, ground := Ground.phase }, { on := 12, ground := Ground.phase }], guard := none }) rfl (fun K hK => ?_) AllReadyH.nil
          rw [if_pos (by rfl)]
          go_simp
          refine hK.out _ _ hHeld (fun hHeld => ?_)
          clear hK K
          try simp only [Act.put, List.setIfInBounds_toArray, List.set_cons_zero, List.set_cons_succ]
          refine wpAnyH_done (by kernel_rfl) ?_ _
          exact hrest_ _ g7 g8 p ⟨Gz336, nbz337, kz333.out⟩
      · rw [if_pos (by rfl)]
        refine wp_allocG zeY rfl (fun g7 vz338 ez339 kz340 qz341 => ?_)
        have Gz342 := (Gz279).trans qz341.out
        have hwg7 : w3.heap.size ≤ g7 := by rw [ez339.out]; exact (Gz279).size
        have ne9_10 : g8 ≠ g7 := fun e' => by have h1 := (kz277.out).lt; have h2 := ez339.out; omega
        have nbz343 := (kz277.out).grown qz341.out (by simp)
        refine hK.out _ _ ⟨range_of (B4.out.grown (Gz342) (by simp)), range_of (B5.out.grown (Gz342) (by simp))⟩ (fun hHeld => ?_)
        clear hK K
        try simp only [Act.put, List.setIfInBounds_toArray, List.set_cons_zero, List.set_cons_succ]
        refine wpAnyH_ready (rs := [1]) (by kernel_rfl) (by simp) ?_
        refine AllReadyH.cons (o := { dst := some 17, op := Op.call { callee := Callee.value (Operand.func 11), args := #[Operand.tmp 16], argTypes := #[4] }, type := 29, pos := "law.go:24", after := #[{ on := 0, ground := Ground.data }], guard := none }) rfl (fun K hK => ?_) AllReadyH.nil
        rw [if_pos (by rfl)]
        go_simp
        with_reducible refine (suite_any vz338 (T3.out.grown (Gz342) (by simp) (by simp)) f).mono ?_
        rintro _ vz344 ⟨p, ok, rfl, hsu, hne, gz345⟩
        have nbz347 := (nbz343).grown gz345 (by simp)
        have nbz348 := (kz340.out).grown gz345 (by simp)
        have Gz346 := (Gz342).trans gz345
        have hnew : ∀ b, ok b → w3.heap.size ≤ b := fun b hb => Nat.le_trans (Gz342).size (hne b hb)
        have nz349 : ¬ ok g8 := fun hb => by have h1 := hne _ hb; have h2 := (nbz343).lt; omega
        have nz350 : ¬ ok g7 := fun hb => by have h1 := hne _ hb; have h2 := (kz340.out).lt; omega
        refine hK.out _ _ ⟨range_of (B4.out.grown (Gz346) (by simp)), range_of (B5.out.grown (Gz346) (by simp))⟩ (fun hHeld => ?_)
        clear hK K
        try simp only [Act.put, List.setIfInBounds_toArray, List.set_cons_zero, List.set_cons_succ]
        refine wpAnyH_ready (rs := [4]) (by kernel_rfl) (by simp) ?_
        refine AllReadyH.cons (o := { dst := some 20, op := Op.call { callee := Callee.value (Operand.func 10), args := #[Operand.tmp 17, Operand.tmp 18, Operand.tmp 19], argTypes := #[29, 24, 24] }, type := 25, pos := "law.go:24", after := #[{ on := 1, ground := Ground.data }, { on := 2, ground := Ground.data }, { on := 3, ground := Ground.data }, { on := 1, ground := Ground.chain }], guard := none }) rfl (fun K hK => ?_) AllReadyH.nil
        rw [if_pos (by rfl)]
        go_simp
        have hcall : Calls Tryd.prog 10 #[tab p, .agg (u8s r).toArray, .agg (u8s s).toArray] vz344 fun e w' => e = .returned (.tuple #[.agg (u8s a).toArray, .agg (u8s b).toArray, .bool true]) ∧ Nx vz344 ok p σ2 w' := by
          have h := root_any hsu (sg0_room f _) HK.out HK2.out
          rw [← HA.out, ← HB.out, ← H2.out] at h
          exact h
        with_reducible refine hcall.mono ?_
        rintro _ vz351 ⟨rfl, hnx⟩
        have Gz352 := md_grown hnx.2 Gz346 hnew
        have nbz353 := (nbz347).keep (hnx.2.block _ (nbz347).lt nz349)
        have nbz354 := (nbz348).keep (hnx.2.block _ (nbz348).lt nz350)
        refine hK.out _ _ ⟨range_of (B4.out.grown (Gz352) (by simp)), range_of (B5.out.grown (Gz352) (by simp))⟩ (fun hHeld => ?_)
        clear hK K
        try simp only [Act.put, List.setIfInBounds_toArray, List.set_cons_zero, List.set_cons_succ]
        refine' wpAnyH_take (i := 5) (oi := { dst := some 15, op := Op.move (Operand.tmp 20), type := 25, pos := "law.go:24", after := #[{ on := 4, ground := Ground.data }], guard := none }) (v := .tuple #[.agg (u8s a).toArray, .agg (u8s b).toArray, .bool true]) rfl (by kernel_rfl) (by kernel_rfl) (by kernel_rfl) (fun _ _ _ h => h) (Or.inl ⟨by rfl, fun _ _ => rfl⟩) (by assumption) ?qz355
        try simp only [Act.put, List.setIfInBounds_toArray, List.set_cons_zero, List.set_cons_succ]
        refine' wpAnyH_take (i := 6) (oi := { dst := some 21, op := Op.extract (Operand.tmp 15) 0, type := 24, pos := "law.go:24", after := #[{ on := 5, ground := Ground.data }], guard := none }) (v := .agg (u8s a).toArray) rfl (by kernel_rfl) (by kernel_rfl) (by kernel_rfl) (fun _ _ _ h => h) (Or.inl ⟨by rfl, fun _ _ => rfl⟩) (by assumption) ?qz356
        try simp only [Act.put, List.setIfInBounds_toArray, List.set_cons_zero, List.set_cons_succ]
        refine' wpAnyH_take (i := 7) (oi := { dst := some 22, op := Op.extract (Operand.tmp 15) 1, type := 24, pos := "law.go:24", after := #[{ on := 5, ground := Ground.data }, { on := 11, ground := Ground.gcOnly Departure.lateStores }], guard := none }) (v := .agg (u8s b).toArray) rfl (by kernel_rfl) (by kernel_rfl) (by kernel_rfl) (fun _ _ _ h => h) (Or.inl ⟨by rfl, fun _ _ => rfl⟩) (by assumption) ?qz357
        try simp only [Act.put, List.setIfInBounds_toArray, List.set_cons_zero, List.set_cons_succ]
        refine' wpAnyH_take (i := 8) (oi := { dst := some 23, op := Op.extract (Operand.tmp 15) 2, type := 4, pos := "law.go:24", after := #[{ on := 5, ground := Ground.data }, { on := 12, ground := Ground.gcOnly Departure.lateStores }], guard := none }) (v := .bool true) rfl (by kernel_rfl) (by kernel_rfl) (by kernel_rfl) (fun _ _ _ h => h) (Or.inl ⟨by rfl, fun _ _ => rfl⟩) (by assumption) ?qz358
        try simp only [Act.put, List.setIfInBounds_toArray, List.set_cons_zero, List.set_cons_succ]
        refine wpAnyH_ready (rs := [11]) (by kernel_rfl) (by simp) ?_
        refine AllReadyH.cons (o := { dst := none, op := Op.store 24 (Operand.tmp 7) (Operand.tmp 21), type := 0, pos := "law.go:24", after := #[{ on := 9, ground := Ground.data }, { on := 6, ground := Ground.data }, { on := 4, ground := Ground.chain }, { on := 0, ground := Ground.phase }, { on := 1, ground := Ground.phase }, { on := 2, ground := Ground.phase }, { on := 3, ground := Ground.phase }, { on := 4, ground := Ground.phase }, { on := 5, ground := Ground.phase }, { on := 6, ground := Ground.phase }, { on := 7, ground := Ground.textOnly Departure.lateStores }, { on := 8, ground := Ground.textOnly Departure.lateStores }, { on := 9, ground := Ground.phase }, { on := 10, ground := Ground.phase }], guard := none }) rfl (fun K hK => ?_) AllReadyH.nil
        rw [if_pos (by rfl)]
        refine wp_storeG agY _ _ rfl g7 rfl rfl (nbz354) (by rw [u8s_length, z32_length]) (by rw [u8s_length, HAL.out]) (u8s_one _) (fun vz359 kz360 qz361 zz362 => ?_)
        have Gz363 : w3.grownBy vz359 none := World.grownBy.andThen (Gz352) qz361.out (by rintro _ ⟨⟩; exact .inl hwg7)
        have nbz364 := (nbz353).grown qz361.out (by simpa using ne9_10)
        refine hK.out _ _ ⟨range_of (B4.out.grown (Gz363) (by simp)), range_of (B5.out.grown (Gz363) (by simp))⟩ (fun hHeld => ?_)
        clear hK K
        dsimp only [Act.put]
        refine wpAnyH_ready (rs := [12]) (by kernel_rfl) (by simp) ?_
        refine AllReadyH.cons (o := { dst := none, op := Op.store 24 (Operand.tmp 8) (Operand.tmp 22), type := 0, pos := "law.go:24", after := #[{ on := 10, ground := Ground.data }, { on := 7, ground := Ground.data }, { on := 11, ground := Ground.chain }, { on := 0, ground := Ground.phase }, { on := 1, ground := Ground.phase }, { on := 2, ground := Ground.phase }, { on := 3, ground := Ground.phase }, { on := 4, ground := Ground.phase }, { on := 5, ground := Ground.phase }, { on := 6, ground := Ground.phase }, { on := 7, ground := Ground.phase }, { on := 8, ground := Ground.textOnly Departure.lateStores }, { on := 9, ground := Ground.phase }, { on := 10, ground := Ground.phase }, { on := 11, ground := Ground.phase }], guard := none }) rfl (fun K hK => ?_) AllReadyH.nil
        rw [if_pos (by rfl)]
        refine wp_storeG agY _ _ rfl g8 rfl rfl (nbz364) (by rw [u8s_length, z32_length]) (by rw [u8s_length, HBL.out]) (u8s_one _) (fun vz365 kz366 qz367 zz368 => ?_)
        have Gz369 : w3.grownBy vz365 none := World.grownBy.andThen (Gz363) qz367.out (by rintro _ ⟨⟩; exact .inl hwg8)
        have nbz370 := (kz360.out).grown qz367.out (by simpa using (Ne.symm ne9_10))
        refine hK.out _ _ ⟨range_of (B4.out.grown (Gz369) (by simp)), range_of (B5.out.grown (Gz369) (by simp))⟩ (fun hHeld => ?_)
        clear hK K
        dsimp only [Act.put]
        refine wpAnyH_ready (rs := [13]) (by kernel_rfl) (by simp) ?_
        refine AllReadyH.cons (o := { dst := some 9, op := Op.assign (Operand.tmp 23), type := 4, pos := "law.go:24", after := #[{ on := 8, ground := Ground.data }, { on := 12, ground := Ground.chain }, { on := 0, ground := Ground.phase }, { on := 1, ground := Ground.phase }, { on := 2, ground := Ground.phase }, { on := 3, ground := Ground.phase }, { on := 4, ground := Ground.phase }, { on := 5, ground := Ground.phase }, { on := 6, ground := Ground.phase }, { on := 7, ground := Ground.phase }, { on := 8, ground := Ground.phase }, { on := 9, ground := Ground.phase }, { on := 10, ground := Ground.phase }, { on := 11, ground := Ground.phase }, { on := 12, ground := Ground.phase }], guard := none }) rfl (fun K hK => ?_) AllReadyH.nil
        rw [if_pos (by rfl)]
        go_simp
        refine hK.out _ _ hHeld (fun hHeld => ?_)
        clear hK K
        try simp only [Act.put, List.setIfInBounds_toArray, List.set_cons_zero, List.set_cons_succ]
        refine wpAnyH_done (by kernel_rfl) ?_ _
        exact hrest_ _ g7 g8 p ⟨Gz369, nbz370, kz366.out⟩
  · intro w5 g7 g8 p1 ⟨hg5, hb7, hb8⟩
    have G5 := Lib.hid (G4.out.trans hg5)
    have B7 := Lib.hid hb7
    have B8 := Lib.hid hb8
    have B4b := Lib.hid (B4.out.grown hg5 (by simp))
    have B5b := Lib.hid (B5.out.grown hg5 (by simp))
    clear hg5 hb7 hb8
    go_wp2_with fail
    apply cutR (F := fun w' g10 g11 _ => w5.grownBy w' none ∧ C.Blk w' g10 22 (u8s a) ∧ C.Blk w' g11 22 (u8s b))
    · intro hrest2_
      refine wp_region_held_drew (S := fun W => W.rangeAt g4 0 (u8s r) ∧ W.rangeAt g5 0 (u8s s)) (by kernel_rfl) ⟨range_of B4b.out, range_of B5b.out⟩ (fun hHeld => ?_)
      obtain ⟨v0, hv0⟩ : ∃ v, v = w5.drew := ⟨_, rfl⟩
      have hg0 : w5.grownBy v0 none := by rw [hv0]; exact grown_drew w5
      rw [← hv0] at hHeld ⊢
      clear hv0
      refine' wpAnyH_take (i := 0) (oi := { dst := some 25, op := Op.move (Operand.tmp 0), type := 4, pos := "law.go:25", after := #[], guard := none }) (v := .bool f) rfl (by kernel_rfl) (by kernel_rfl) (by kernel_rfl) (fun _ _ _ h => h) (Or.inl ⟨by rfl, fun w' hSw => by go_simp⟩) (by assumption) ?qz3001
      try simp only [Act.put, List.setIfInBounds_toArray, List.set_cons_zero, List.set_cons_succ]
      refine' wpAnyH_take (i := 2) (oi := { dst := some 27, op := Op.load 22 (Operand.tmp 4), type := 22, pos := "law.go:25", after := #[], guard := none }) (v := .agg (u8s r).toArray) rfl (by kernel_rfl) (by kernel_rfl) (by kernel_rfl) (fun _ _ _ h => h) (yieldsIf_loadR agA (by rfl) (.tmp 4) rfl g4 0 rfl (by rw [u8s_length, HK.out]) (fun _ h => h.1)) (by assumption) ?qz3002
      try simp only [Act.put, List.setIfInBounds_toArray, List.set_cons_zero, List.set_cons_succ]
      refine' wpAnyH_take (i := 3) (oi := { dst := some 28, op := Op.load 22 (Operand.tmp 5), type := 22, pos := "law.go:25", after := #[], guard := none }) (v := .agg (u8s s).toArray) rfl (by kernel_rfl) (by kernel_rfl) (by kernel_rfl) (fun _ _ _ h => h) (yieldsIf_loadR agA (by rfl) (.tmp 5) rfl g5 0 rfl (by rw [u8s_length, HK2.out]) (fun _ h => h.2)) (by assumption) ?qz3003
      try simp only [Act.put, List.setIfInBounds_toArray, List.set_cons_zero, List.set_cons_succ]
      refine wpAnyH_ready (rs := [1, 9, 10]) (by kernel_rfl) (by simp) ?_
      refine AllReadyH.cons (o := { dst := some 26, op := Op.call { callee := Callee.value (Operand.func 13), args := #[Operand.tmp 25], argTypes := #[4] }, type := 35, pos := "law.go:25", after := #[{ on := 0, ground := Ground.data }], guard := none }) rfl (fun K hK => ?_) (AllReadyH.cons (o := { dst := some 10, op := Op.alloc 22, type := 0, pos := "law.go:25", after := #[], guard := none }) rfl (fun K hK => ?_) (AllReadyH.cons (o := { dst := some 11, op := Op.alloc 22, type := 0, pos := "law.go:25", after := #[], guard := none }) rfl (fun K hK => ?_) AllReadyH.nil))
      · rw [if_pos (by rfl)]
        go_simp
        with_reducible refine (rsuite_any v0  f).mono ?_
        rintro _ vz3004 ⟨p, ok, rfl, hsu, hne, gz3005⟩
        have Gz3006 := (hg0).trans gz3005
        have hnew : ∀ b, ok b → w5.heap.size ≤ b := fun b hb => Nat.le_trans (hg0).size (hne b hb)
        refine hK.out _ _ ⟨range_of (B4b.out.grown (Gz3006) (by simp)), range_of (B5b.out.grown (Gz3006) (by simp))⟩ (fun hHeld => ?_)
        clear hK K
        try simp only [Act.put, List.setIfInBounds_toArray, List.set_cons_zero, List.set_cons_succ]
        refine wpAnyH_ready (rs := [4, 9, 10]) (by kernel_rfl) (by simp) ?_
        refine AllReadyH.cons (o := { dst := some 29, op := Op.call { callee := Callee.value (Operand.func 12), args := #[Operand.tmp 26, Operand.tmp 27, Operand.tmp 28], argTypes := #[35, 22, 22] }, type := 31, pos := "law.go:25", after := #[{ on := 1, ground := Ground.data }, { on := 2, ground := Ground.data }, { on := 3, ground := Ground.data }, { on := 1, ground := Ground.chain }], guard := none }) rfl (fun K hK => ?_) (AllReadyH.cons (o := { dst := some 10, op := Op.alloc 22, type := 0, pos := "law.go:25", after := #[], guard := none }) rfl (fun K hK => ?_) (AllReadyH.cons (o := { dst := some 11, op := Op.alloc 22, type := 0, pos := "law.go:25", after := #[], guard := none }) rfl (fun K hK => ?_) AllReadyH.nil))
        · rw [if_pos (by rfl)]
          go_simp
          have hcall : Calls Tryd.prog 12 #[tab p, .agg (u8s r).toArray, .agg (u8s s).toArray] vz3004 fun e w' => e = .returned (.tuple #[.agg (u8s a).toArray, .agg (u8s b).toArray, .bool true]) ∧ Rx vz3004 ok p σ2 w' := by
            have h := rroot_any hsu (sg0_room f _) HK.out HK2.out
            rw [← HA.out, ← HB.out, ← H2.out] at h
            exact h
          with_reducible refine hcall.mono ?_
          rintro _ vz3007 ⟨rfl, hnx⟩
          have Gz3008 := md_grown hnx.2 Gz3006 hnew
          refine hK.out _ _ ⟨range_of (B4b.out.grown (Gz3008) (by simp)), range_of (B5b.out.grown (Gz3008) (by simp))⟩ (fun hHeld => ?_)
          clear hK K
          try simp only [Act.put, List.setIfInBounds_toArray, List.set_cons_zero, List.set_cons_succ]
          refine' wpAnyH_take (i := 5) (oi := { dst := some 24, op := Op.move (Operand.tmp 29), type := 31, pos := "law.go:25", after := #[{ on := 4, ground := Ground.data }], guard := none }) (v := .tuple #[.agg (u8s a).toArray, .agg (u8s b).toArray, .bool true]) rfl (by kernel_rfl) (by kernel_rfl) (by kernel_rfl) (fun _ _ _ h => h) (Or.inl ⟨by rfl, fun _ _ => rfl⟩) (by assumption) ?qz3009
          try simp only [Act.put, List.setIfInBounds_toArray, List.set_cons_zero, List.set_cons_succ]
          refine' wpAnyH_take (i := 6) (oi := { dst := some 30, op := Op.extract (Operand.tmp 24) 0, type := 22, pos := "law.go:25", after := #[{ on := 5, ground := Ground.data }], guard := none }) (v := .agg (u8s a).toArray) rfl (by kernel_rfl) (by kernel_rfl) (by kernel_rfl) (fun _ _ _ h => h) (Or.inl ⟨by rfl, fun _ _ => rfl⟩) (by assumption) ?qz3010
          try simp only [Act.put, List.setIfInBounds_toArray, List.set_cons_zero, List.set_cons_succ]
          refine' wpAnyH_take (i := 7) (oi := { dst := some 31, op := Op.extract (Operand.tmp 24) 1, type := 22, pos := "law.go:25", after := #[{ on := 5, ground := Ground.data }, { on := 11, ground := Ground.gcOnly Departure.lateStores }], guard := none }) (v := .agg (u8s b).toArray) rfl (by kernel_rfl) (by kernel_rfl) (by kernel_rfl) (fun _ _ _ h => h) (Or.inl ⟨by rfl, fun _ _ => rfl⟩) (by assumption) ?qz3011
          try simp only [Act.put, List.setIfInBounds_toArray, List.set_cons_zero, List.set_cons_succ]
          refine' wpAnyH_take (i := 8) (oi := { dst := some 32, op := Op.extract (Operand.tmp 24) 2, type := 4, pos := "law.go:25", after := #[{ on := 5, ground := Ground.data }, { on := 12, ground := Ground.gcOnly Departure.lateStores }], guard := none }) (v := .bool true) rfl (by kernel_rfl) (by kernel_rfl) (by kernel_rfl) (fun _ _ _ h => h) (Or.inl ⟨by rfl, fun _ _ => rfl⟩) (by assumption) ?qz3012
          try simp only [Act.put, List.setIfInBounds_toArray, List.set_cons_zero, List.set_cons_succ]
          refine wpAnyH_ready (rs := [9, 10]) (by kernel_rfl) (by simp) ?_
          refine AllReadyH.cons (o := { dst := some 10, op := Op.alloc 22, type := 0, pos := "law.go:25", after := #[], guard := none }) rfl (fun K hK => ?_) (AllReadyH.cons (o := { dst := some 11, op := Op.alloc 22, type := 0, pos := "law.go:25", after := #[], guard := none }) rfl (fun K hK => ?_) AllReadyH.nil)
          · rw [if_pos (by rfl)]
            refine wp_allocG zeA rfl (fun g10 vz3013 ez3014 kz3015 qz3016 => ?_)
            have Gz3017 := (Gz3008).trans qz3016.out
            have hwg10 : w5.heap.size ≤ g10 := by rw [ez3014.out]; exact (Gz3008).size
            refine hK.out _ _ ⟨range_of (B4b.out.grown (Gz3017) (by simp)), range_of (B5b.out.grown (Gz3017) (by simp))⟩ (fun hHeld => ?_)
            clear hK K
            try simp only [Act.put, List.setIfInBounds_toArray, List.set_cons_zero, List.set_cons_succ]
            refine wpAnyH_ready (rs := [10]) (by kernel_rfl) (by simp) ?_
            refine AllReadyH.cons (o := { dst := some 11, op := Op.alloc 22, type := 0, pos := "law.go:25", after := #[], guard := none }) rfl (fun K hK => ?_) AllReadyH.nil
            rw [if_pos (by rfl)]
            refine wp_allocG zeA rfl (fun g11 vz3018 ez3019 kz3020 qz3021 => ?_)
            have Gz3022 := (Gz3017).trans qz3021.out
            have hwg11 : w5.heap.size ≤ g11 := by rw [ez3019.out]; exact (Gz3017).size
            have ne9_10 : g10 ≠ g11 := fun e' => by have h1 := (kz3015.out).lt; have h2 := ez3019.out; omega
            have nbz3023 := (kz3015.out).grown qz3021.out (by simp)
            refine hK.out _ _ ⟨range_of (B4b.out.grown (Gz3022) (by simp)), range_of (B5b.out.grown (Gz3022) (by simp))⟩ (fun hHeld => ?_)
            clear hK K
            try simp only [Act.put, List.setIfInBounds_toArray, List.set_cons_zero, List.set_cons_succ]
            refine wpAnyH_ready (rs := [11]) (by kernel_rfl) (by simp) ?_
            refine AllReadyH.cons (o := { dst := none, op := Op.store 22 (Operand.tmp 10) (Operand.tmp 30), type := 0, pos := "law.go:25", after := #[{ on := 9, ground := Ground.data }, { on := 6, ground := Ground.data }, { on := 4, ground := Ground.chain }, { on := 0, ground := Ground.phase }, { on := 1, ground := Ground.phase }, { on := 2, ground := Ground.phase }, { on := 3, ground := Ground.phase }, { on := 4, ground := Ground.phase }, { on := 5, ground := Ground.phase }, { on := 6, ground := Ground.phase }, { on := 7, ground := Ground.textOnly Departure.lateStores }, { on := 8, ground := Ground.textOnly Departure.lateStores }, { on := 9, ground := Ground.phase }, { on := 10, ground := Ground.phase }], guard := none }) rfl (fun K hK => ?_) AllReadyH.nil
            rw [if_pos (by rfl)]
            refine wp_storeG agA _ _ rfl g10 rfl rfl (nbz3023) (by rw [u8s_length, z32_length]) (by rw [u8s_length, HAL.out]) (u8s_one _) (fun vz3024 kz3025 qz3026 zz3027 => ?_)
            have Gz3028 : w5.grownBy vz3024 none := World.grownBy.andThen (Gz3022) qz3026.out (by rintro _ ⟨⟩; exact .inl hwg10)
            have nbz3029 := (kz3020.out).grown qz3026.out (by simpa using (Ne.symm ne9_10))
            refine hK.out _ _ ⟨range_of (B4b.out.grown (Gz3028) (by simp)), range_of (B5b.out.grown (Gz3028) (by simp))⟩ (fun hHeld => ?_)
            clear hK K
            dsimp only [Act.put]
            refine wpAnyH_ready (rs := [12]) (by kernel_rfl) (by simp) ?_
            refine AllReadyH.cons (o := { dst := none, op := Op.store 22 (Operand.tmp 11) (Operand.tmp 31), type := 0, pos := "law.go:25", after := #[{ on := 10, ground := Ground.data }, { on := 7, ground := Ground.data }, { on := 11, ground := Ground.chain }, { on := 0, ground := Ground.phase }, { on := 1, ground := Ground.phase }, { on := 2, ground := Ground.phase }, { on := 3, ground := Ground.phase }, { on := 4, ground := Ground.phase }, { on := 5, ground := Ground.phase }, { on := 6, ground := Ground.phase }, { on := 7, ground := Ground.phase }, { on := 8, ground := Ground.textOnly Departure.lateStores }, { on := 9, ground := Ground.phase }, { on := 10, ground := Ground.phase }, { on := 11, ground := Ground.phase }], guard := none }) rfl (fun K hK => ?_) AllReadyH.nil
            rw [if_pos (by rfl)]
            refine wp_storeG agA _ _ rfl g11 rfl rfl (nbz3029) (by rw [u8s_length, z32_length]) (by rw [u8s_length, HBL.out]) (u8s_one _) (fun vz3030 kz3031 qz3032 zz3033 => ?_)
            have Gz3034 : w5.grownBy vz3030 none := World.grownBy.andThen (Gz3028) qz3032.out (by rintro _ ⟨⟩; exact .inl hwg11)
            have nbz3035 := (kz3025.out).grown qz3032.out (by simpa using ne9_10)
            refine hK.out _ _ ⟨range_of (B4b.out.grown (Gz3034) (by simp)), range_of (B5b.out.grown (Gz3034) (by simp))⟩ (fun hHeld => ?_)
            clear hK K
            dsimp only [Act.put]
            refine wpAnyH_ready (rs := [13]) (by kernel_rfl) (by simp) ?_
            refine AllReadyH.cons (o := { dst := some 12, op := Op.assign (Operand.tmp 32), type := 4, pos := "law.go:25", after := #[{ on := 8, ground := Ground.data }, { on := 12, ground := Ground.chain }, { on := 0, ground := Ground.phase }, { on := 1, ground := Ground.phase }, { on := 2, ground := Ground.phase }, { on := 3, ground := Ground.phase }, { on := 4, ground := Ground.phase }, { on := 5, ground := Ground.phase }, { on := 6, ground := Ground.phase }, { on := 7, ground := Ground.phase }, { on := 8, ground := Ground.phase }, { on := 9, ground := Ground.phase }, { on := 10, ground := Ground.phase }, { on := 11, ground := Ground.phase }, { on := 12, ground := Ground.phase }], guard := none }) rfl (fun K hK => ?_) AllReadyH.nil
            rw [if_pos (by rfl)]
            go_simp
            refine hK.out _ _ hHeld (fun hHeld => ?_)
            clear hK K
            try simp only [Act.put, List.setIfInBounds_toArray, List.set_cons_zero, List.set_cons_succ]
            refine wpAnyH_done (by kernel_rfl) ?_ _
            exact hrest2_ _ g10 g11 p ⟨Gz3034, nbz3035, kz3031.out⟩
          · rw [if_pos (by rfl)]
            refine wp_allocG zeA rfl (fun g11 vz3036 ez3037 kz3038 qz3039 => ?_)
            have Gz3040 := (Gz3008).trans qz3039.out
            have hwg11 : w5.heap.size ≤ g11 := by rw [ez3037.out]; exact (Gz3008).size
            refine hK.out _ _ ⟨range_of (B4b.out.grown (Gz3040) (by simp)), range_of (B5b.out.grown (Gz3040) (by simp))⟩ (fun hHeld => ?_)
            clear hK K
            try simp only [Act.put, List.setIfInBounds_toArray, List.set_cons_zero, List.set_cons_succ]
            refine wpAnyH_ready (rs := [9]) (by kernel_rfl) (by simp) ?_
            refine AllReadyH.cons (o := { dst := some 10, op := Op.alloc 22, type := 0, pos := "law.go:25", after := #[], guard := none }) rfl (fun K hK => ?_) AllReadyH.nil
            rw [if_pos (by rfl)]
            refine wp_allocG zeA rfl (fun g10 vz3041 ez3042 kz3043 qz3044 => ?_)
            have Gz3045 := (Gz3040).trans qz3044.out
            have hwg10 : w5.heap.size ≤ g10 := by rw [ez3042.out]; exact (Gz3040).size
            have ne9_10 : g11 ≠ g10 := fun e' => by have h1 := (kz3038.out).lt; have h2 := ez3042.out; omega
            have nbz3046 := (kz3038.out).grown qz3044.out (by simp)
            refine hK.out _ _ ⟨range_of (B4b.out.grown (Gz3045) (by simp)), range_of (B5b.out.grown (Gz3045) (by simp))⟩ (fun hHeld => ?_)
            clear hK K
            try simp only [Act.put, List.setIfInBounds_toArray, List.set_cons_zero, List.set_cons_succ]
            refine wpAnyH_ready (rs := [11]) (by kernel_rfl) (by simp) ?_
            refine AllReadyH.cons (o := { dst := none, op := Op.store 22 (Operand.tmp 10) (Operand.tmp 30), type := 0, pos := "law.go:25", after := #[{ on := 9, ground := Ground.data }, { on := 6, ground := Ground.data }, { on := 4, ground := Ground.chain }, { on := 0, ground := Ground.phase }, { on := 1, ground := Ground.phase }, { on := 2, ground := Ground.phase }, { on := 3, ground := Ground.phase }, { on := 4, ground := Ground.phase }, { on := 5, ground := Ground.phase }, { on := 6, ground := Ground.phase }, { on := 7, ground := Ground.textOnly Departure.lateStores }, { on := 8, ground := Ground.textOnly Departure.lateStores }, { on := 9, ground := Ground.phase }, { on := 10, ground := Ground.phase }], guard := none }) rfl (fun K hK => ?_) AllReadyH.nil
            rw [if_pos (by rfl)]
            refine wp_storeG agA _ _ rfl g10 rfl rfl (kz3043.out) (by rw [u8s_length, z32_length]) (by rw [u8s_length, HAL.out]) (u8s_one _) (fun vz3047 kz3048 qz3049 zz3050 => ?_)
            have Gz3051 : w5.grownBy vz3047 none := World.grownBy.andThen (Gz3045) qz3049.out (by rintro _ ⟨⟩; exact .inl hwg10)
            have nbz3052 := (nbz3046).grown qz3049.out (by simpa using ne9_10)
            refine hK.out _ _ ⟨range_of (B4b.out.grown (Gz3051) (by simp)), range_of (B5b.out.grown (Gz3051) (by simp))⟩ (fun hHeld => ?_)
            clear hK K
            dsimp only [Act.put]
            refine wpAnyH_ready (rs := [12]) (by kernel_rfl) (by simp) ?_
            refine AllReadyH.cons (o := { dst := none, op := Op.store 22 (Operand.tmp 11) (Operand.tmp 31), type := 0, pos := "law.go:25", after := #[{ on := 10, ground := Ground.data }, { on := 7, ground := Ground.data }, { on := 11, ground := Ground.chain }, { on := 0, ground := Ground.phase }, { on := 1, ground := Ground.phase }, { on := 2, ground := Ground.phase }, { on := 3, ground := Ground.phase }, { on := 4, ground := Ground.phase }, { on := 5, ground := Ground.phase }, { on := 6, ground := Ground.phase }, { on := 7, ground := Ground.phase }, { on := 8, ground := Ground.textOnly Departure.lateStores }, { on := 9, ground := Ground.phase }, { on := 10, ground := Ground.phase }, { on := 11, ground := Ground.phase }], guard := none }) rfl (fun K hK => ?_) AllReadyH.nil
            rw [if_pos (by rfl)]
            refine wp_storeG agA _ _ rfl g11 rfl rfl (nbz3052) (by rw [u8s_length, z32_length]) (by rw [u8s_length, HBL.out]) (u8s_one _) (fun vz3053 kz3054 qz3055 zz3056 => ?_)
            have Gz3057 : w5.grownBy vz3053 none := World.grownBy.andThen (Gz3051) qz3055.out (by rintro _ ⟨⟩; exact .inl hwg11)
            have nbz3058 := (kz3048.out).grown qz3055.out (by simpa using (Ne.symm ne9_10))
            refine hK.out _ _ ⟨range_of (B4b.out.grown (Gz3057) (by simp)), range_of (B5b.out.grown (Gz3057) (by simp))⟩ (fun hHeld => ?_)
            clear hK K
            dsimp only [Act.put]
            refine wpAnyH_ready (rs := [13]) (by kernel_rfl) (by simp) ?_
            refine AllReadyH.cons (o := { dst := some 12, op := Op.assign (Operand.tmp 32), type := 4, pos := "law.go:25", after := #[{ on := 8, ground := Ground.data }, { on := 12, ground := Ground.chain }, { on := 0, ground := Ground.phase }, { on := 1, ground := Ground.phase }, { on := 2, ground := Ground.phase }, { on := 3, ground := Ground.phase }, { on := 4, ground := Ground.phase }, { on := 5, ground := Ground.phase }, { on := 6, ground := Ground.phase }, { on := 7, ground := Ground.phase }, { on := 8, ground := Ground.phase }, { on := 9, ground := Ground.phase }, { on := 10, ground := Ground.phase }, { on := 11, ground := Ground.phase }, { on := 12, ground := Ground.phase }], guard := none }) rfl (fun K hK => ?_) AllReadyH.nil
            rw [if_pos (by rfl)]
            go_simp
            refine hK.out _ _ hHeld (fun hHeld => ?_)
            clear hK K
            try simp only [Act.put, List.setIfInBounds_toArray, List.set_cons_zero, List.set_cons_succ]
            refine wpAnyH_done (by kernel_rfl) ?_ _
            exact hrest2_ _ g10 g11 p ⟨Gz3057, nbz3058, kz3054.out⟩
        · rw [if_pos (by rfl)]
          refine wp_allocG zeA rfl (fun g10 vz3059 ez3060 kz3061 qz3062 => ?_)
          have Gz3063 := (Gz3006).trans qz3062.out
          have hwg10 : w5.heap.size ≤ g10 := by rw [ez3060.out]; exact (Gz3006).size
          have nz3064 : ¬ ok g10 := fun hb => by have h1 := hsu.lt _ hb; have h2 := ez3060.out; omega
          have sz3065 := hsu.grown qz3062.out
          refine hK.out _ _ ⟨range_of (B4b.out.grown (Gz3063) (by simp)), range_of (B5b.out.grown (Gz3063) (by simp))⟩ (fun hHeld => ?_)
          clear hK K
          try simp only [Act.put, List.setIfInBounds_toArray, List.set_cons_zero, List.set_cons_succ]
          refine wpAnyH_ready (rs := [4, 10]) (by kernel_rfl) (by simp) ?_
          refine AllReadyH.cons (o := { dst := some 29, op := Op.call { callee := Callee.value (Operand.func 12), args := #[Operand.tmp 26, Operand.tmp 27, Operand.tmp 28], argTypes := #[35, 22, 22] }, type := 31, pos := "law.go:25", after := #[{ on := 1, ground := Ground.data }, { on := 2, ground := Ground.data }, { on := 3, ground := Ground.data }, { on := 1, ground := Ground.chain }], guard := none }) rfl (fun K hK => ?_) (AllReadyH.cons (o := { dst := some 11, op := Op.alloc 22, type := 0, pos := "law.go:25", after := #[], guard := none }) rfl (fun K hK => ?_) AllReadyH.nil)
          · rw [if_pos (by rfl)]
            go_simp
            have hcall : Calls Tryd.prog 12 #[tab p, .agg (u8s r).toArray, .agg (u8s s).toArray] vz3059 fun e w' => e = .returned (.tuple #[.agg (u8s a).toArray, .agg (u8s b).toArray, .bool true]) ∧ Rx vz3059 ok p σ2 w' := by
              have h := rroot_any sz3065 (sg0_room f _) HK.out HK2.out
              rw [← HA.out, ← HB.out, ← H2.out] at h
              exact h
            with_reducible refine hcall.mono ?_
            rintro _ vz3066 ⟨rfl, hnx⟩
            have Gz3067 := md_grown hnx.2 Gz3063 hnew
            have nbz3068 := (kz3061.out).keep (hnx.2.block _ (kz3061.out).lt nz3064)
            refine hK.out _ _ ⟨range_of (B4b.out.grown (Gz3067) (by simp)), range_of (B5b.out.grown (Gz3067) (by simp))⟩ (fun hHeld => ?_)
            clear hK K
            try simp only [Act.put, List.setIfInBounds_toArray, List.set_cons_zero, List.set_cons_succ]
            refine' wpAnyH_take (i := 5) (oi := { dst := some 24, op := Op.move (Operand.tmp 29), type := 31, pos := "law.go:25", after := #[{ on := 4, ground := Ground.data }], guard := none }) (v := .tuple #[.agg (u8s a).toArray, .agg (u8s b).toArray, .bool true]) rfl (by kernel_rfl) (by kernel_rfl) (by kernel_rfl) (fun _ _ _ h => h) (Or.inl ⟨by rfl, fun _ _ => rfl⟩) (by assumption) ?qz3069
            try simp only [Act.put, List.setIfInBounds_toArray, List.set_cons_zero, List.set_cons_succ]
            refine' wpAnyH_take (i := 6) (oi := { dst := some 30, op := Op.extract (Operand.tmp 24) 0, type := 22, pos := "law.go:25", after := #[{ on := 5, ground := Ground.data }], guard := none }) (v := .agg (u8s a).toArray) rfl (by kernel_rfl) (by kernel_rfl) (by kernel_rfl) (fun _ _ _ h => h) (Or.inl ⟨by rfl, fun _ _ => rfl⟩) (by assumption) ?qz3070
            try simp only [Act.put, List.setIfInBounds_toArray, List.set_cons_zero, List.set_cons_succ]
            refine' wpAnyH_take (i := 7) (oi := { dst := some 31, op := Op.extract (Operand.tmp 24) 1, type := 22, pos := "law.go:25", after := #[{ on := 5, ground := Ground.data }, { on := 11, ground := Ground.gcOnly Departure.lateStores }], guard := none }) (v := .agg (u8s b).toArray) rfl (by kernel_rfl) (by kernel_rfl) (by kernel_rfl) (fun _ _ _ h => h) (Or.inl ⟨by rfl, fun _ _ => rfl⟩) (by assumption) ?qz3071
            try simp only [Act.put, List.setIfInBounds_toArray, List.set_cons_zero, List.set_cons_succ]
            refine' wpAnyH_take (i := 8) (oi := { dst := some 32, op := Op.extract (Operand.tmp 24) 2, type := 4, pos := "law.go:25", after := #[{ on := 5, ground := Ground.data }, { on := 12, ground := Ground.gcOnly Departure.lateStores }], guard := none }) (v := .bool true) rfl (by kernel_rfl) (by kernel_rfl) (by kernel_rfl) (fun _ _ _ h => h) (Or.inl ⟨by rfl, fun _ _ => rfl⟩) (by assumption) ?qz3072
            try simp only [Act.put, List.setIfInBounds_toArray, List.set_cons_zero, List.set_cons_succ]
            refine wpAnyH_ready (rs := [10]) (by kernel_rfl) (by simp) ?_
            refine AllReadyH.cons (o := { dst := some 11, op := Op.alloc 22, type := 0, pos := "law.go:25", after := #[], guard := none }) rfl (fun K hK => ?_) AllReadyH.nil
            rw [if_pos (by rfl)]
            refine wp_allocG zeA rfl (fun g11 vz3073 ez3074 kz3075 qz3076 => ?_)
            have Gz3077 := (Gz3067).trans qz3076.out
            have hwg11 : w5.heap.size ≤ g11 := by rw [ez3074.out]; exact (Gz3067).size
            have ne9_10 : g10 ≠ g11 := fun e' => by have h1 := (nbz3068).lt; have h2 := ez3074.out; omega
            have nbz3078 := (nbz3068).grown qz3076.out (by simp)
            refine hK.out _ _ ⟨range_of (B4b.out.grown (Gz3077) (by simp)), range_of (B5b.out.grown (Gz3077) (by simp))⟩ (fun hHeld => ?_)
            clear hK K
            try simp only [Act.put, List.setIfInBounds_toArray, List.set_cons_zero, List.set_cons_succ]
            refine wpAnyH_ready (rs := [11]) (by kernel_rfl) (by simp) ?_
            refine AllReadyH.cons (o := { dst := none, op := Op.store 22 (Operand.tmp 10) (Operand.tmp 30), type := 0, pos := "law.go:25", after := #[{ on := 9, ground := Ground.data }, { on := 6, ground := Ground.data }, { on := 4, ground := Ground.chain }, { on := 0, ground := Ground.phase }, { on := 1, ground := Ground.phase }, { on := 2, ground := Ground.phase }, { on := 3, ground := Ground.phase }, { on := 4, ground := Ground.phase }, { on := 5, ground := Ground.phase }, { on := 6, ground := Ground.phase }, { on := 7, ground := Ground.textOnly Departure.lateStores }, { on := 8, ground := Ground.textOnly Departure.lateStores }, { on := 9, ground := Ground.phase }, { on := 10, ground := Ground.phase }], guard := none }) rfl (fun K hK => ?_) AllReadyH.nil
            rw [if_pos (by rfl)]
            refine wp_storeG agA _ _ rfl g10 rfl rfl (nbz3078) (by rw [u8s_length, z32_length]) (by rw [u8s_length, HAL.out]) (u8s_one _) (fun vz3079 kz3080 qz3081 zz3082 => ?_)
            have Gz3083 : w5.grownBy vz3079 none := World.grownBy.andThen (Gz3077) qz3081.out (by rintro _ ⟨⟩; exact .inl hwg10)
            have nbz3084 := (kz3075.out).grown qz3081.out (by simpa using (Ne.symm ne9_10))
            refine hK.out _ _ ⟨range_of (B4b.out.grown (Gz3083) (by simp)), range_of (B5b.out.grown (Gz3083) (by simp))⟩ (fun hHeld => ?_)
            clear hK K
            dsimp only [Act.put]
            refine wpAnyH_ready (rs := [12]) (by kernel_rfl) (by simp) ?_
            refine AllReadyH.cons (o := { dst := none, op := Op.store 22 (Operand.tmp 11) (Operand.tmp 31), type := 0, pos := "law.go:25", after := #[{ on := 10, ground := Ground.data }, { on := 7, ground := Ground.data }, { on := 11, ground := Ground.chain }, { on := 0, ground := Ground.phase }, { on := 1, ground := Ground.phase }, { on := 2, ground := Ground.phase }, { on := 3, ground := Ground.phase }, { on := 4, ground := Ground.phase }, { on := 5, ground := Ground.phase }, { on := 6, ground := Ground.phase }, { on := 7, ground := Ground.phase }, { on := 8, ground := Ground.textOnly Departure.lateStores }, { on := 9, ground := Ground.phase }, { on := 10, ground := Ground.phase }, { on := 11, ground := Ground.phase }], guard := none }) rfl (fun K hK => ?_) AllReadyH.nil
            rw [if_pos (by rfl)]
            refine wp_storeG agA _ _ rfl g11 rfl rfl (nbz3084) (by rw [u8s_length, z32_length]) (by rw [u8s_length, HBL.out]) (u8s_one _) (fun vz3085 kz3086 qz3087 zz3088 => ?_)
            have Gz3089 : w5.grownBy vz3085 none := World.grownBy.andThen (Gz3083) qz3087.out (by rintro _ ⟨⟩; exact .inl hwg11)
            have nbz3090 := (kz3080.out).grown qz3087.out (by simpa using ne9_10)
            refine hK.out _ _ ⟨range_of (B4b.out.grown (Gz3089) (by simp)), range_of (B5b.out.grown (Gz3089) (by simp))⟩ (fun hHeld => ?_)
            clear hK K
            dsimp only [Act.put]
            refine wpAnyH_ready (rs := [13]) (by kernel_rfl) (by simp) ?_
            refine AllReadyH.cons (o := { dst := some 12, op := Op.assign (Operand.tmp 32), type := 4, pos := "law.go:25", after := #[{ on := 8, ground := Ground.data }, { on := 12, ground := Ground.chain }, { on := 0, ground := Ground.phase }, { on := 1, ground := Ground.phase }, { on := 2, ground := Ground.phase }, { on := 3, ground := Ground.phase }, { on := 4, ground := Ground.phase }, { on := 5, ground := Ground.phase }, { on := 6, ground := Ground.phase }, { on := 7, ground := Ground.phase }, { on := 8, ground := Ground.phase }, { on := 9, ground := Ground.phase }, { on := 10, ground := Ground.phase }, { on := 11, ground := Ground.phase }, { on := 12, ground := Ground.phase }], guard := none }) rfl (fun K hK => ?_) AllReadyH.nil
            rw [if_pos (by rfl)]
            go_simp
            refine hK.out _ _ hHeld (fun hHeld => ?_)
            clear hK K
            try simp only [Act.put, List.setIfInBounds_toArray, List.set_cons_zero, List.set_cons_succ]
            refine wpAnyH_done (by kernel_rfl) ?_ _
            exact hrest2_ _ g10 g11 p ⟨Gz3089, nbz3090, kz3086.out⟩
          · rw [if_pos (by rfl)]
            refine wp_allocG zeA rfl (fun g11 vz3091 ez3092 kz3093 qz3094 => ?_)
            have Gz3095 := (Gz3063).trans qz3094.out
            have hwg11 : w5.heap.size ≤ g11 := by rw [ez3092.out]; exact (Gz3063).size
            have nz3096 : ¬ ok g11 := fun hb => by have h1 := sz3065.lt _ hb; have h2 := ez3092.out; omega
            have ne9_10 : g10 ≠ g11 := fun e' => by have h1 := (kz3061.out).lt; have h2 := ez3092.out; omega
            have sz3097 := sz3065.grown qz3094.out
            have nbz3098 := (kz3061.out).grown qz3094.out (by simp)
            refine hK.out _ _ ⟨range_of (B4b.out.grown (Gz3095) (by simp)), range_of (B5b.out.grown (Gz3095) (by simp))⟩ (fun hHeld => ?_)
            clear hK K
            try simp only [Act.put, List.setIfInBounds_toArray, List.set_cons_zero, List.set_cons_succ]
            refine wpAnyH_ready (rs := [4]) (by kernel_rfl) (by simp) ?_
            refine AllReadyH.cons (o := { dst := some 29, op := Op.call { callee := Callee.value (Operand.func 12), args := #[Operand.tmp 26, Operand.tmp 27, Operand.tmp 28], argTypes := #[35, 22, 22] }, type := 31, pos := "law.go:25", after := #[{ on := 1, ground := Ground.data }, { on := 2, ground := Ground.data }, { on := 3, ground := Ground.data }, { on := 1, ground := Ground.chain }], guard := none }) rfl (fun K hK => ?_) AllReadyH.nil
            rw [if_pos (by rfl)]
            go_simp
            have hcall : Calls Tryd.prog 12 #[tab p, .agg (u8s r).toArray, .agg (u8s s).toArray] vz3091 fun e w' => e = .returned (.tuple #[.agg (u8s a).toArray, .agg (u8s b).toArray, .bool true]) ∧ Rx vz3091 ok p σ2 w' := by
              have h := rroot_any sz3097 (sg0_room f _) HK.out HK2.out
              rw [← HA.out, ← HB.out, ← H2.out] at h
              exact h
            with_reducible refine hcall.mono ?_
            rintro _ vz3099 ⟨rfl, hnx⟩
            have Gz3100 := md_grown hnx.2 Gz3095 hnew
            have nbz3101 := (nbz3098).keep (hnx.2.block _ (nbz3098).lt nz3064)
            have nbz3102 := (kz3093.out).keep (hnx.2.block _ (kz3093.out).lt nz3096)
            refine hK.out _ _ ⟨range_of (B4b.out.grown (Gz3100) (by simp)), range_of (B5b.out.grown (Gz3100) (by simp))⟩ (fun hHeld => ?_)
            clear hK K
            try simp only [Act.put, List.setIfInBounds_toArray, List.set_cons_zero, List.set_cons_succ]
            refine' wpAnyH_take (i := 5) (oi := { dst := some 24, op := Op.move (Operand.tmp 29), type := 31, pos := "law.go:25", after := #[{ on := 4, ground := Ground.data }], guard := none }) (v := .tuple #[.agg (u8s a).toArray, .agg (u8s b).toArray, .bool true]) rfl (by kernel_rfl) (by kernel_rfl) (by kernel_rfl) (fun _ _ _ h => h) (Or.inl ⟨by rfl, fun _ _ => rfl⟩) (by assumption) ?qz3103
            try simp only [Act.put, List.setIfInBounds_toArray, List.set_cons_zero, List.set_cons_succ]
            refine' wpAnyH_take (i := 6) (oi := { dst := some 30, op := Op.extract (Operand.tmp 24) 0, type := 22, pos := "law.go:25", after := #[{ on := 5, ground := Ground.data }], guard := none }) (v := .agg (u8s a).toArray) rfl (by kernel_rfl) (by kernel_rfl) (by kernel_rfl) (fun _ _ _ h => h) (Or.inl ⟨by rfl, fun _ _ => rfl⟩) (by assumption) ?qz3104
            try simp only [Act.put, List.setIfInBounds_toArray, List.set_cons_zero, List.set_cons_succ]
            refine' wpAnyH_take (i := 7) (oi := { dst := some 31, op := Op.extract (Operand.tmp 24) 1, type := 22, pos := "law.go:25", after := #[{ on := 5, ground := Ground.data }, { on := 11, ground := Ground.gcOnly Departure.lateStores }], guard := none }) (v := .agg (u8s b).toArray) rfl (by kernel_rfl) (by kernel_rfl) (by kernel_rfl) (fun _ _ _ h => h) (Or.inl ⟨by rfl, fun _ _ => rfl⟩) (by assumption) ?qz3105
            try simp only [Act.put, List.setIfInBounds_toArray, List.set_cons_zero, List.set_cons_succ]
            refine' wpAnyH_take (i := 8) (oi := { dst := some 32, op := Op.extract (Operand.tmp 24) 2, type := 4, pos := "law.go:25", after := #[{ on := 5, ground := Ground.data }, { on := 12, ground := Ground.gcOnly Departure.lateStores }], guard := none }) (v := .bool true) rfl (by kernel_rfl) (by kernel_rfl) (by kernel_rfl) (fun _ _ _ h => h) (Or.inl ⟨by rfl, fun _ _ => rfl⟩) (by assumption) ?qz3106
            try simp only [Act.put, List.setIfInBounds_toArray, List.set_cons_zero, List.set_cons_succ]
            refine wpAnyH_ready (rs := [11]) (by kernel_rfl) (by simp) ?_
            refine AllReadyH.cons (o := { dst := none, op := Op.store 22 (Operand.tmp 10) (Operand.tmp 30), type := 0, pos := "law.go:25", after := #[{ on := 9, ground := Ground.data }, { on := 6, ground := Ground.data }, { on := 4, ground := Ground.chain }, { on := 0, ground := Ground.phase }, { on := 1, ground := Ground.phase }, { on := 2, ground := Ground.phase }, { on := 3, ground := Ground.phase }, { on := 4, ground := Ground.phase }, { on := 5, ground := Ground.phase }, { on := 6, ground := Ground.phase }, { on := 7, ground := Ground.textOnly Departure.lateStores }, { on := 8, ground := Ground.textOnly Departure.lateStores }, { on := 9, ground := Ground.phase }, { on := 10, ground := Ground.phase }], guard := none }) rfl (fun K hK => ?_) AllReadyH.nil
            rw [if_pos (by rfl)]
            refine wp_storeG agA _ _ rfl g10 rfl rfl (nbz3101) (by rw [u8s_length, z32_length]) (by rw [u8s_length, HAL.out]) (u8s_one _) (fun vz3107 kz3108 qz3109 zz3110 => ?_)
            have Gz3111 : w5.grownBy vz3107 none := World.grownBy.andThen (Gz3100) qz3109.out (by rintro _ ⟨⟩; exact .inl hwg10)
            have nbz3112 := (nbz3102).grown qz3109.out (by simpa using (Ne.symm ne9_10))
            refine hK.out _ _ ⟨range_of (B4b.out.grown (Gz3111) (by simp)), range_of (B5b.out.grown (Gz3111) (by simp))⟩ (fun hHeld => ?_)
            clear hK K
            dsimp only [Act.put]
            refine wpAnyH_ready (rs := [12]) (by kernel_rfl) (by simp) ?_
            refine AllReadyH.cons (o := { dst := none, op := Op.store 22 (Operand.tmp 11) (Operand.tmp 31), type := 0, pos := "law.go:25", after := #[{ on := 10, ground := Ground.data }, { on := 7, ground := Ground.data }, { on := 11, ground := Ground.chain }, { on := 0, ground := Ground.phase }, { on := 1, ground := Ground.phase }, { on := 2, ground := Ground.phase }, { on := 3, ground := Ground.phase }, { on := 4, ground := Ground.phase }, { on := 5, ground := Ground.phase }, { on := 6, ground := Ground.phase }, { on := 7, ground := Ground.phase }, { on := 8, ground := Ground.textOnly Departure.lateStores }, { on := 9, ground := Ground.phase }, { on := 10, ground := Ground.phase }, { on := 11, ground := Ground.phase }], guard := none }) rfl (fun K hK => ?_) AllReadyH.nil
            rw [if_pos (by rfl)]
            refine wp_storeG agA _ _ rfl g11 rfl rfl (nbz3112) (by rw [u8s_length, z32_length]) (by rw [u8s_length, HBL.out]) (u8s_one _) (fun vz3113 kz3114 qz3115 zz3116 => ?_)
            have Gz3117 : w5.grownBy vz3113 none := World.grownBy.andThen (Gz3111) qz3115.out (by rintro _ ⟨⟩; exact .inl hwg11)
            have nbz3118 := (kz3108.out).grown qz3115.out (by simpa using ne9_10)
            refine hK.out _ _ ⟨range_of (B4b.out.grown (Gz3117) (by simp)), range_of (B5b.out.grown (Gz3117) (by simp))⟩ (fun hHeld => ?_)
            clear hK K
            dsimp only [Act.put]
            refine wpAnyH_ready (rs := [13]) (by kernel_rfl) (by simp) ?_
            refine AllReadyH.cons (o := { dst := some 12, op := Op.assign (Operand.tmp 32), type := 4, pos := "law.go:25", after := #[{ on := 8, ground := Ground.data }, { on := 12, ground := Ground.chain }, { on := 0, ground := Ground.phase }, { on := 1, ground := Ground.phase }, { on := 2, ground := Ground.phase }, { on := 3, ground := Ground.phase }, { on := 4, ground := Ground.phase }, { on := 5, ground := Ground.phase }, { on := 6, ground := Ground.phase }, { on := 7, ground := Ground.phase }, { on := 8, ground := Ground.phase }, { on := 9, ground := Ground.phase }, { on := 10, ground := Ground.phase }, { on := 11, ground := Ground.phase }, { on := 12, ground := Ground.phase }], guard := none }) rfl (fun K hK => ?_) AllReadyH.nil
            rw [if_pos (by rfl)]
            go_simp
            refine hK.out _ _ hHeld (fun hHeld => ?_)
            clear hK K
            try simp only [Act.put, List.setIfInBounds_toArray, List.set_cons_zero, List.set_cons_succ]
            refine wpAnyH_done (by kernel_rfl) ?_ _
            exact hrest2_ _ g10 g11 p ⟨Gz3117, nbz3118, kz3114.out⟩
        · rw [if_pos (by rfl)]
          refine wp_allocG zeA rfl (fun g11 vz3119 ez3120 kz3121 qz3122 => ?_)
          have Gz3123 := (Gz3006).trans qz3122.out
          have hwg11 : w5.heap.size ≤ g11 := by rw [ez3120.out]; exact (Gz3006).size
          have nz3124 : ¬ ok g11 := fun hb => by have h1 := hsu.lt _ hb; have h2 := ez3120.out; omega
          have sz3125 := hsu.grown qz3122.out
          refine hK.out _ _ ⟨range_of (B4b.out.grown (Gz3123) (by simp)), range_of (B5b.out.grown (Gz3123) (by simp))⟩ (fun hHeld => ?_)
          clear hK K
          try simp only [Act.put, List.setIfInBounds_toArray, List.set_cons_zero, List.set_cons_succ]
          refine wpAnyH_ready (rs := [4, 9]) (by kernel_rfl) (by simp) ?_
          refine AllReadyH.cons (o := { dst := some 29, op := Op.call { callee := Callee.value (Operand.func 12), args := #[Operand.tmp 26, Operand.tmp 27, Operand.tmp 28], argTypes := #[35, 22, 22] }, type := 31, pos := "law.go:25", after := #[{ on := 1, ground := Ground.data }, { on := 2, ground := Ground.data }, { on := 3, ground := Ground.data }, { on := 1, ground := Ground.chain }], guard := none }) rfl (fun K hK => ?_) (AllReadyH.cons (o := { dst := some 10, op := Op.alloc 22, type := 0, pos := "law.go:25", after := #[], guard := none }) rfl (fun K hK => ?_) AllReadyH.nil)
          · rw [if_pos (by rfl)]
            go_simp
            have hcall : Calls Tryd.prog 12 #[tab p, .agg (u8s r).toArray, .agg (u8s s).toArray] vz3119 fun e w' => e = .returned (.tuple #[.agg (u8s a).toArray, .agg (u8s b).toArray, .bool true]) ∧ Rx vz3119 ok p σ2 w' := by
              have h := rroot_any sz3125 (sg0_room f _) HK.out HK2.out
              rw [← HA.out, ← HB.out, ← H2.out] at h
              exact h
            with_reducible refine hcall.mono ?_
            rintro _ vz3126 ⟨rfl, hnx⟩
            have Gz3127 := md_grown hnx.2 Gz3123 hnew
            have nbz3128 := (kz3121.out).keep (hnx.2.block _ (kz3121.out).lt nz3124)
            refine hK.out _ _ ⟨range_of (B4b.out.grown (Gz3127) (by simp)), range_of (B5b.out.grown (Gz3127) (by simp))⟩ (fun hHeld => ?_)
            clear hK K
            try simp only [Act.put, List.setIfInBounds_toArray, List.set_cons_zero, List.set_cons_succ]
            refine' wpAnyH_take (i := 5) (oi := { dst := some 24, op := Op.move (Operand.tmp 29), type := 31, pos := "law.go:25", after := #[{ on := 4, ground := Ground.data }], guard := none }) (v := .tuple #[.agg (u8s a).toArray, .agg (u8s b).toArray, .bool true]) rfl (by kernel_rfl) (by kernel_rfl) (by kernel_rfl) (fun _ _ _ h => h) (Or.inl ⟨by rfl, fun _ _ => rfl⟩) (by assumption) ?qz3129
            try simp only [Act.put, List.setIfInBounds_toArray, List.set_cons_zero, List.set_cons_succ]
            refine' wpAnyH_take (i := 6) (oi := { dst := some 30, op := Op.extract (Operand.tmp 24) 0, type := 22, pos := "law.go:25", after := #[{ on := 5, ground := Ground.data }], guard := none }) (v := .agg (u8s a).toArray) rfl (by kernel_rfl) (by kernel_rfl) (by kernel_rfl) (fun _ _ _ h => h) (Or.inl ⟨by rfl, fun _ _ => rfl⟩) (by assumption) ?qz3130
            try simp only [Act.put, List.setIfInBounds_toArray, List.set_cons_zero, List.set_cons_succ]
            refine' wpAnyH_take (i := 7) (oi := { dst := some 31, op := Op.extract (Operand.tmp 24) 1, type := 22, pos := "law.go:25", after := #[{ on := 5, ground := Ground.data }, { on := 11, ground := Ground.gcOnly Departure.lateStores }], guard := none }) (v := .agg (u8s b).toArray) rfl (by kernel_rfl) (by kernel_rfl) (by kernel_rfl) (fun _ _ _ h => h) (Or.inl ⟨by rfl, fun _ _ => rfl⟩) (by assumption) ?qz3131
            try simp only [Act.put, List.setIfInBounds_toArray, List.set_cons_zero, List.set_cons_succ]
            refine' wpAnyH_take (i := 8) (oi := { dst := some 32, op := Op.extract (Operand.tmp 24) 2, type := 4, pos := "law.go:25", after := #[{ on := 5, ground := Ground.data }, { on := 12, ground := Ground.gcOnly Departure.lateStores }], guard := none }) (v := .bool true) rfl (by kernel_rfl) (by kernel_rfl) (by kernel_rfl) (fun _ _ _ h => h) (Or.inl ⟨by rfl, fun _ _ => rfl⟩) (by assumption) ?qz3132
            try simp only [Act.put, List.setIfInBounds_toArray, List.set_cons_zero, List.set_cons_succ]
            refine wpAnyH_ready (rs := [9]) (by kernel_rfl) (by simp) ?_
            refine AllReadyH.cons (o := { dst := some 10, op := Op.alloc 22, type := 0, pos := "law.go:25", after := #[], guard := none }) rfl (fun K hK => ?_) AllReadyH.nil
            rw [if_pos (by rfl)]
            refine wp_allocG zeA rfl (fun g10 vz3133 ez3134 kz3135 qz3136 => ?_)
            have Gz3137 := (Gz3127).trans qz3136.out
            have hwg10 : w5.heap.size ≤ g10 := by rw [ez3134.out]; exact (Gz3127).size
            have ne9_10 : g11 ≠ g10 := fun e' => by have h1 := (nbz3128).lt; have h2 := ez3134.out; omega
            have nbz3138 := (nbz3128).grown qz3136.out (by simp)
            refine hK.out _ _ ⟨range_of (B4b.out.grown (Gz3137) (by simp)), range_of (B5b.out.grown (Gz3137) (by simp))⟩ (fun hHeld => ?_)
            clear hK K
            try simp only [Act.put, List.setIfInBounds_toArray, List.set_cons_zero, List.set_cons_succ]
            refine wpAnyH_ready (rs := [11]) (by kernel_rfl) (by simp) ?_
            refine AllReadyH.cons (o := { dst := none, op := Op.store 22 (Operand.tmp 10) (Operand.tmp 30), type := 0, pos := "law.go:25", after := #[{ on := 9, ground := Ground.data }, { on := 6, ground := Ground.data }, { on := 4, ground := Ground.chain }, { on := 0, ground := Ground.phase }, { on := 1, ground := Ground.phase }, { on := 2, ground := Ground.phase }, { on := 3, ground := Ground.phase }, { on := 4, ground := Ground.phase }, { on := 5, ground := Ground.phase }, { on := 6, ground := Ground.phase }, { on := 7, ground := Ground.textOnly Departure.lateStores }, { on := 8, ground := Ground.textOnly Departure.lateStores }, { on := 9, ground := Ground.phase }, { on := 10, ground := Ground.phase }], guard := none }) rfl (fun K hK => ?_) AllReadyH.nil
            rw [if_pos (by rfl)]
            refine wp_storeG agA _ _ rfl g10 rfl rfl (kz3135.out) (by rw [u8s_length, z32_length]) (by rw [u8s_length, HAL.out]) (u8s_one _) (fun vz3139 kz3140 qz3141 zz3142 => ?_)
            have Gz3143 : w5.grownBy vz3139 none := World.grownBy.andThen (Gz3137) qz3141.out (by rintro _ ⟨⟩; exact .inl hwg10)
            have nbz3144 := (nbz3138).grown qz3141.out (by simpa using ne9_10)
            refine hK.out _ _ ⟨range_of (B4b.out.grown (Gz3143) (by simp)), range_of (B5b.out.grown (Gz3143) (by simp))⟩ (fun hHeld => ?_)
            clear hK K
            dsimp only [Act.put]
            refine wpAnyH_ready (rs := [12]) (by kernel_rfl) (by simp) ?_
            refine AllReadyH.cons (o := { dst := none, op := Op.store 22 (Operand.tmp 11) (Operand.tmp 31), type := 0, pos := "law.go:25", after := #[{ on := 10, ground := Ground.data }, { on := 7, ground := Ground.data }, { on := 11, ground := Ground.chain }, { on := 0, ground := Ground.phase }, { on := 1, ground := Ground.phase }, { on := 2, ground := Ground.phase }, { on := 3, ground := Ground.phase }, { on := 4, ground := Ground.phase }, { on := 5, ground := Ground.phase }, { on := 6, ground := Ground.phase }, { on := 7, ground := Ground.phase }, { on := 8, ground := Ground.textOnly Departure.lateStores }, { on := 9, ground := Ground.phase }, { on := 10, ground := Ground.phase }, { on := 11, ground := Ground.phase }], guard := none }) rfl (fun K hK => ?_) AllReadyH.nil
            rw [if_pos (by rfl)]
            refine wp_storeG agA _ _ rfl g11 rfl rfl (nbz3144) (by rw [u8s_length, z32_length]) (by rw [u8s_length, HBL.out]) (u8s_one _) (fun vz3145 kz3146 qz3147 zz3148 => ?_)
            have Gz3149 : w5.grownBy vz3145 none := World.grownBy.andThen (Gz3143) qz3147.out (by rintro _ ⟨⟩; exact .inl hwg11)
            have nbz3150 := (kz3140.out).grown qz3147.out (by simpa using (Ne.symm ne9_10))
            refine hK.out _ _ ⟨range_of (B4b.out.grown (Gz3149) (by simp)), range_of (B5b.out.grown (Gz3149) (by simp))⟩ (fun hHeld => ?_)
            clear hK K
            dsimp only [Act.put]
            refine wpAnyH_ready (rs := [13]) (by kernel_rfl) (by simp) ?_
            refine AllReadyH.cons (o := { dst := some 12, op := Op.assign (Operand.tmp 32), type := 4, pos := "law.go:25", after := #[{ on := 8, ground := Ground.data }, { on := 12, ground := Ground.chain }, { on := 0, ground := Ground.phase }, { on := 1, ground := Ground.phase }, { on := 2, ground := Ground.phase }, { on := 3, ground := Ground.phase }, { on := 4, ground := Ground.phase }, { on := 5, ground := Ground.phase }, { on := 6, ground := Ground.phase }, { on := 7, ground := Ground.phase }, { on := 8, ground := Ground.phase }, { on := 9, ground := Ground.phase }, { on := 10, ground := Ground.phase }, { on := 11, ground := Ground.phase }, { on := 12, ground := Ground.phase }], guard := none }) rfl (fun K hK => ?_) AllReadyH.nil
            rw [if_pos (by rfl)]
            go_simp
            refine hK.out _ _ hHeld (fun hHeld => ?_)
            clear hK K
            try simp only [Act.put, List.setIfInBounds_toArray, List.set_cons_zero, List.set_cons_succ]
            refine wpAnyH_done (by kernel_rfl) ?_ _
            exact hrest2_ _ g10 g11 p ⟨Gz3149, nbz3150, kz3146.out⟩
          · rw [if_pos (by rfl)]
            refine wp_allocG zeA rfl (fun g10 vz3151 ez3152 kz3153 qz3154 => ?_)
            have Gz3155 := (Gz3123).trans qz3154.out
            have hwg10 : w5.heap.size ≤ g10 := by rw [ez3152.out]; exact (Gz3123).size
            have nz3156 : ¬ ok g10 := fun hb => by have h1 := sz3125.lt _ hb; have h2 := ez3152.out; omega
            have ne9_10 : g11 ≠ g10 := fun e' => by have h1 := (kz3121.out).lt; have h2 := ez3152.out; omega
            have sz3157 := sz3125.grown qz3154.out
            have nbz3158 := (kz3121.out).grown qz3154.out (by simp)
            refine hK.out _ _ ⟨range_of (B4b.out.grown (Gz3155) (by simp)), range_of (B5b.out.grown (Gz3155) (by simp))⟩ (fun hHeld => ?_)
            clear hK K
            try simp only [Act.put, List.setIfInBounds_toArray, List.set_cons_zero, List.set_cons_succ]
            refine wpAnyH_ready (rs := [4]) (by kernel_rfl) (by simp) ?_
            refine AllReadyH.cons (o := { dst := some 29, op := Op.call { callee := Callee.value (Operand.func 12), args := #[Operand.tmp 26, Operand.tmp 27, Operand.tmp 28], argTypes := #[35, 22, 22] }, type := 31, pos := "law.go:25", after := #[{ on := 1, ground := Ground.data }, { on := 2, ground := Ground.data }, { on := 3, ground := Ground.data }, { on := 1, ground := Ground.chain }], guard := none }) rfl (fun K hK => ?_) AllReadyH.nil
            rw [if_pos (by rfl)]
            go_simp
            have hcall : Calls Tryd.prog 12 #[tab p, .agg (u8s r).toArray, .agg (u8s s).toArray] vz3151 fun e w' => e = .returned (.tuple #[.agg (u8s a).toArray, .agg (u8s b).toArray, .bool true]) ∧ Rx vz3151 ok p σ2 w' := by
              have h := rroot_any sz3157 (sg0_room f _) HK.out HK2.out
              rw [← HA.out, ← HB.out, ← H2.out] at h
              exact h
            with_reducible refine hcall.mono ?_
            rintro _ vz3159 ⟨rfl, hnx⟩
            have Gz3160 := md_grown hnx.2 Gz3155 hnew
            have nbz3161 := (nbz3158).keep (hnx.2.block _ (nbz3158).lt nz3124)
            have nbz3162 := (kz3153.out).keep (hnx.2.block _ (kz3153.out).lt nz3156)
            refine hK.out _ _ ⟨range_of (B4b.out.grown (Gz3160) (by simp)), range_of (B5b.out.grown (Gz3160) (by simp))⟩ (fun hHeld => ?_)
            clear hK K
            try simp only [Act.put, List.setIfInBounds_toArray, List.set_cons_zero, List.set_cons_succ]
            refine' wpAnyH_take (i := 5) (oi := { dst := some 24, op := Op.move (Operand.tmp 29), type := 31, pos := "law.go:25", after := #[{ on := 4, ground := Ground.data }], guard := none }) (v := .tuple #[.agg (u8s a).toArray, .agg (u8s b).toArray, .bool true]) rfl (by kernel_rfl) (by kernel_rfl) (by kernel_rfl) (fun _ _ _ h => h) (Or.inl ⟨by rfl, fun _ _ => rfl⟩) (by assumption) ?qz3163
            try simp only [Act.put, List.setIfInBounds_toArray, List.set_cons_zero, List.set_cons_succ]
            refine' wpAnyH_take (i := 6) (oi := { dst := some 30, op := Op.extract (Operand.tmp 24) 0, type := 22, pos := "law.go:25", after := #[{ on := 5, ground := Ground.data }], guard := none }) (v := .agg (u8s a).toArray) rfl (by kernel_rfl) (by kernel_rfl) (by kernel_rfl) (fun _ _ _ h => h) (Or.inl ⟨by rfl, fun _ _ => rfl⟩) (by assumption) ?qz3164
            try simp only [Act.put, List.setIfInBounds_toArray, List.set_cons_zero, List.set_cons_succ]
            refine' wpAnyH_take (i := 7) (oi := { dst := some 31, op := Op.extract (Operand.tmp 24) 1, type := 22, pos := "law.go:25", after := #[{ on := 5, ground := Ground.data }, { on := 11, ground := Ground.gcOnly Departure.lateStores }], guard := none }) (v := .agg (u8s b).toArray) rfl (by kernel_rfl) (by kernel_rfl) (by kernel_rfl) (fun _ _ _ h => h) (Or.inl ⟨by rfl, fun _ _ => rfl⟩) (by assumption) ?qz3165
            try simp only [Act.put, List.setIfInBounds_toArray, List.set_cons_zero, List.set_cons_succ]
            refine' wpAnyH_take (i := 8) (oi := { dst := some 32, op := Op.extract (Operand.tmp 24) 2, type := 4, pos := "law.go:25", after := #[{ on := 5, ground := Ground.data }, { on := 12, ground := Ground.gcOnly Departure.lateStores }], guard := none }) (v := .bool true) rfl (by kernel_rfl) (by kernel_rfl) (by kernel_rfl) (fun _ _ _ h => h) (Or.inl ⟨by rfl, fun _ _ => rfl⟩) (by assumption) ?qz3166
            try simp only [Act.put, List.setIfInBounds_toArray, List.set_cons_zero, List.set_cons_succ]
            refine wpAnyH_ready (rs := [11]) (by kernel_rfl) (by simp) ?_
            refine AllReadyH.cons (o := { dst := none, op := Op.store 22 (Operand.tmp 10) (Operand.tmp 30), type := 0, pos := "law.go:25", after := #[{ on := 9, ground := Ground.data }, { on := 6, ground := Ground.data }, { on := 4, ground := Ground.chain }, { on := 0, ground := Ground.phase }, { on := 1, ground := Ground.phase }, { on := 2, ground := Ground.phase }, { on := 3, ground := Ground.phase }, { on := 4, ground := Ground.phase }, { on := 5, ground := Ground.phase }, { on := 6, ground := Ground.phase }, { on := 7, ground := Ground.textOnly Departure.lateStores }, { on := 8, ground := Ground.textOnly Departure.lateStores }, { on := 9, ground := Ground.phase }, { on := 10, ground := Ground.phase }], guard := none }) rfl (fun K hK => ?_) AllReadyH.nil
            rw [if_pos (by rfl)]
            refine wp_storeG agA _ _ rfl g10 rfl rfl (nbz3162) (by rw [u8s_length, z32_length]) (by rw [u8s_length, HAL.out]) (u8s_one _) (fun vz3167 kz3168 qz3169 zz3170 => ?_)
            have Gz3171 : w5.grownBy vz3167 none := World.grownBy.andThen (Gz3160) qz3169.out (by rintro _ ⟨⟩; exact .inl hwg10)
            have nbz3172 := (nbz3161).grown qz3169.out (by simpa using ne9_10)
            refine hK.out _ _ ⟨range_of (B4b.out.grown (Gz3171) (by simp)), range_of (B5b.out.grown (Gz3171) (by simp))⟩ (fun hHeld => ?_)
            clear hK K
            dsimp only [Act.put]
            refine wpAnyH_ready (rs := [12]) (by kernel_rfl) (by simp) ?_
            refine AllReadyH.cons (o := { dst := none, op := Op.store 22 (Operand.tmp 11) (Operand.tmp 31), type := 0, pos := "law.go:25", after := #[{ on := 10, ground := Ground.data }, { on := 7, ground := Ground.data }, { on := 11, ground := Ground.chain }, { on := 0, ground := Ground.phase }, { on := 1, ground := Ground.phase }, { on := 2, ground := Ground.phase }, { on := 3, ground := Ground.phase }, { on := 4, ground := Ground.phase }, { on := 5, ground := Ground.phase }, { on := 6, ground := Ground.phase }, { on := 7, ground := Ground.phase }, { on := 8, ground := Ground.textOnly Departure.lateStores }, { on := 9, ground := Ground.phase }, { on := 10, ground := Ground.phase }, { on := 11, ground := Ground.phase }], guard := none }) rfl (fun K hK => ?_) AllReadyH.nil
            rw [if_pos (by rfl)]
            refine wp_storeG agA _ _ rfl g11 rfl rfl (nbz3172) (by rw [u8s_length, z32_length]) (by rw [u8s_length, HBL.out]) (u8s_one _) (fun vz3173 kz3174 qz3175 zz3176 => ?_)
            have Gz3177 : w5.grownBy vz3173 none := World.grownBy.andThen (Gz3171) qz3175.out (by rintro _ ⟨⟩; exact .inl hwg11)
            have nbz3178 := (kz3168.out).grown qz3175.out (by simpa using (Ne.symm ne9_10))
            refine hK.out _ _ ⟨range_of (B4b.out.grown (Gz3177) (by simp)), range_of (B5b.out.grown (Gz3177) (by simp))⟩ (fun hHeld => ?_)
            clear hK K
            dsimp only [Act.put]
            refine wpAnyH_ready (rs := [13]) (by kernel_rfl) (by simp) ?_
            refine AllReadyH.cons (o := { dst := some 12, op := Op.assign (Operand.tmp 32), type := 4, pos := "law.go:25", after := #[{ on := 8, ground := Ground.data }, { on := 12, ground := Ground.chain }, { on := 0, ground := Ground.phase }, { on := 1, ground := Ground.phase }, { on := 2, ground := Ground.phase }, { on := 3, ground := Ground.phase }, { on := 4, ground := Ground.phase }, { on := 5, ground := Ground.phase }, { on := 6, ground := Ground.phase }, { on := 7, ground := Ground.phase }, { on := 8, ground := Ground.phase }, { on := 9, ground := Ground.phase }, { on := 10, ground := Ground.phase }, { on := 11, ground := Ground.phase }, { on := 12, ground := Ground.phase }], guard := none }) rfl (fun K hK => ?_) AllReadyH.nil
            rw [if_pos (by rfl)]
            go_simp
            refine hK.out _ _ hHeld (fun hHeld => ?_)
            clear hK K
            try simp only [Act.put, List.setIfInBounds_toArray, List.set_cons_zero, List.set_cons_succ]
            refine wpAnyH_done (by kernel_rfl) ?_ _
            exact hrest2_ _ g10 g11 p ⟨Gz3177, nbz3178, kz3174.out⟩
      · rw [if_pos (by rfl)]
        refine wp_allocG zeA rfl (fun g10 vz3179 ez3180 kz3181 qz3182 => ?_)
        have Gz3183 := (hg0).trans qz3182.out
        have hwg10 : w5.heap.size ≤ g10 := by rw [ez3180.out]; exact (hg0).size
        refine hK.out _ _ ⟨range_of (B4b.out.grown (Gz3183) (by simp)), range_of (B5b.out.grown (Gz3183) (by simp))⟩ (fun hHeld => ?_)
        clear hK K
        try simp only [Act.put, List.setIfInBounds_toArray, List.set_cons_zero, List.set_cons_succ]
        refine wpAnyH_ready (rs := [1, 10]) (by kernel_rfl) (by simp) ?_
        refine AllReadyH.cons (o := { dst := some 26, op := Op.call { callee := Callee.value (Operand.func 13), args := #[Operand.tmp 25], argTypes := #[4] }, type := 35, pos := "law.go:25", after := #[{ on := 0, ground := Ground.data }], guard := none }) rfl (fun K hK => ?_) (AllReadyH.cons (o := { dst := some 11, op := Op.alloc 22, type := 0, pos := "law.go:25", after := #[], guard := none }) rfl (fun K hK => ?_) AllReadyH.nil)
        · rw [if_pos (by rfl)]
          go_simp
          with_reducible refine (rsuite_any vz3179  f).mono ?_
          rintro _ vz3184 ⟨p, ok, rfl, hsu, hne, gz3185⟩
          have nbz3187 := (kz3181.out).grown gz3185 (by simp)
          have Gz3186 := (Gz3183).trans gz3185
          have hnew : ∀ b, ok b → w5.heap.size ≤ b := fun b hb => Nat.le_trans (Gz3183).size (hne b hb)
          have nz3188 : ¬ ok g10 := fun hb => by have h1 := hne _ hb; have h2 := (kz3181.out).lt; omega
          refine hK.out _ _ ⟨range_of (B4b.out.grown (Gz3186) (by simp)), range_of (B5b.out.grown (Gz3186) (by simp))⟩ (fun hHeld => ?_)
          clear hK K
          try simp only [Act.put, List.setIfInBounds_toArray, List.set_cons_zero, List.set_cons_succ]
          refine wpAnyH_ready (rs := [4, 10]) (by kernel_rfl) (by simp) ?_
          refine AllReadyH.cons (o := { dst := some 29, op := Op.call { callee := Callee.value (Operand.func 12), args := #[Operand.tmp 26, Operand.tmp 27, Operand.tmp 28], argTypes := #[35, 22, 22] }, type := 31, pos := "law.go:25", after := #[{ on := 1, ground := Ground.data }, { on := 2, ground := Ground.data }, { on := 3, ground := Ground.data }, { on := 1, ground := Ground.chain }], guard := none }) rfl (fun K hK => ?_) (AllReadyH.cons (o := { dst := some 11, op := Op.alloc 22, type := 0, pos := "law.go:25", after := #[], guard := none }) rfl (fun K hK => ?_) AllReadyH.nil)
          · rw [if_pos (by rfl)]
            go_simp
            have hcall : Calls Tryd.prog 12 #[tab p, .agg (u8s r).toArray, .agg (u8s s).toArray] vz3184 fun e w' => e = .returned (.tuple #[.agg (u8s a).toArray, .agg (u8s b).toArray, .bool true]) ∧ Rx vz3184 ok p σ2 w' := by
              have h := rroot_any hsu (sg0_room f _) HK.out HK2.out
              rw [← HA.out, ← HB.out, ← H2.out] at h
              exact h
            with_reducible refine hcall.mono ?_
            rintro _ vz3189 ⟨rfl, hnx⟩
            have Gz3190 := md_grown hnx.2 Gz3186 hnew
            have nbz3191 := (nbz3187).keep (hnx.2.block _ (nbz3187).lt nz3188)
            refine hK.out _ _ ⟨range_of (B4b.out.grown (Gz3190) (by simp)), range_of (B5b.out.grown (Gz3190) (by simp))⟩ (fun hHeld => ?_)
            clear hK K
            try simp only [Act.put, List.setIfInBounds_toArray, List.set_cons_zero, List.set_cons_succ]
            refine' wpAnyH_take (i := 5) (oi := { dst := some 24, op := Op.move (Operand.tmp 29), type := 31, pos := "law.go:25", after := #[{ on := 4, ground := Ground.data }], guard := none }) (v := .tuple #[.agg (u8s a).toArray, .agg (u8s b).toArray, .bool true]) rfl (by kernel_rfl) (by kernel_rfl) (by kernel_rfl) (fun _ _ _ h => h) (Or.inl ⟨by rfl, fun _ _ => rfl⟩) (by assumption) ?qz3192
            try simp only [Act.put, List.setIfInBounds_toArray, List.set_cons_zero, List.set_cons_succ]
            refine' wpAnyH_take (i := 6) (oi := { dst := some 30, op := Op.extract (Operand.tmp 24) 0, type := 22, pos := "law.go:25", after := #[{ on := 5, ground := Ground.data }], guard := none }) (v := .agg (u8s a).toArray) rfl (by kernel_rfl) (by kernel_rfl) (by kernel_rfl) (fun _ _ _ h => h) (Or.inl ⟨by rfl, fun _ _ => rfl⟩) (by assumption) ?qz3193
            try simp only [Act.put, List.setIfInBounds_toArray, List.set_cons_zero, List.set_cons_succ]
            refine' wpAnyH_take (i := 7) (oi := { dst := some 31, op := Op.extract (Operand.tmp 24) 1, type := 22, pos := "law.go:25", after := #[{ on := 5, ground := Ground.data }, { on := 11, ground := Ground.gcOnly Departure.lateStores }], guard := none }) (v := .agg (u8s b).toArray) rfl (by kernel_rfl) (by kernel_rfl) (by kernel_rfl) (fun _ _ _ h => h) (Or.inl ⟨by rfl, fun _ _ => rfl⟩) (by assumption) ?qz3194
            try simp only [Act.put, List.setIfInBounds_toArray, List.set_cons_zero, List.set_cons_succ]
            refine' wpAnyH_take (i := 8) (oi := { dst := some 32, op := Op.extract (Operand.tmp 24) 2, type := 4, pos := "law.go:25", after := #[{ on := 5, ground := Ground.data }, { on := 12, ground := Ground.gcOnly Departure.lateStores }], guard := none }) (v := .bool true) rfl (by kernel_rfl) (by kernel_rfl) (by kernel_rfl) (fun _ _ _ h => h) (Or.inl ⟨by rfl, fun _ _ => rfl⟩) (by assumption) ?qz3195
            try simp only [Act.put, List.setIfInBounds_toArray, List.set_cons_zero, List.set_cons_succ]
            refine wpAnyH_ready (rs := [10]) (by kernel_rfl) (by simp) ?_
            refine AllReadyH.cons (o := { dst := some 11, op := Op.alloc 22, type := 0, pos := "law.go:25", after := #[], guard := none }) rfl (fun K hK => ?_) AllReadyH.nil
            rw [if_pos (by rfl)]
            refine wp_allocG zeA rfl (fun g11 vz3196 ez3197 kz3198 qz3199 => ?_)
            have Gz3200 := (Gz3190).trans qz3199.out
            have hwg11 : w5.heap.size ≤ g11 := by rw [ez3197.out]; exact (Gz3190).size
            have ne9_10 : g10 ≠ g11 := fun e' => by have h1 := (nbz3191).lt; have h2 := ez3197.out; omega
            have nbz3201 := (nbz3191).grown qz3199.out (by simp)
            refine hK.out _ _ ⟨range_of (B4b.out.grown (Gz3200) (by simp)), range_of (B5b.out.grown (Gz3200) (by simp))⟩ (fun hHeld => ?_)
            clear hK K
            try simp only [Act.put, List.setIfInBounds_toArray, List.set_cons_zero, List.set_cons_succ]
            refine wpAnyH_ready (rs := [11]) (by kernel_rfl) (by simp) ?_
            refine AllReadyH.cons (o := { dst := none, op := Op.store 22 (Operand.tmp 10) (Operand.tmp 30), type := 0, pos := "law.go:25", after := #[{ on := 9, ground := Ground.data }, { on := 6, ground := Ground.data }, { on := 4, ground := Ground.chain }, { on := 0, ground := Ground.phase }, { on := 1, ground := Ground.phase }, { on := 2, ground := Ground.phase }, { on := 3, ground := Ground.phase }, { on := 4, ground := Ground.phase }, { on := 5, ground := Ground.phase }, { on := 6, ground := Ground.phase }, { on := 7, ground := Ground.textOnly Departure.lateStores }, { on := 8, ground := Ground.textOnly Departure.lateStores }, { on := 9, ground := Ground.phase }, { on := 10, ground := Ground.phase }], guard := none }) rfl (fun K hK => ?_) AllReadyH.nil
            rw [if_pos (by rfl)]
            refine wp_storeG agA _ _ rfl g10 rfl rfl (nbz3201) (by rw [u8s_length, z32_length]) (by rw [u8s_length, HAL.out]) (u8s_one _) (fun vz3202 kz3203 qz3204 zz3205 => ?_)
            have Gz3206 : w5.grownBy vz3202 none := World.grownBy.andThen (Gz3200) qz3204.out (by rintro _ ⟨⟩; exact .inl hwg10)
            have nbz3207 := (kz3198.out).grown qz3204.out (by simpa using (Ne.symm ne9_10))
            refine hK.out _ _ ⟨range_of (B4b.out.grown (Gz3206) (by simp)), range_of (B5b.out.grown (Gz3206) (by simp))⟩ (fun hHeld => ?_)
            clear hK K
            dsimp only [Act.put]
            refine wpAnyH_ready (rs := [12]) (by kernel_rfl) (by simp) ?_
            refine AllReadyH.cons (o := { dst := none, op := Op.store 22 (Operand.tmp 11) (Operand.tmp 31), type := 0, pos := "law.go:25", after := #[{ on := 10, ground := Ground.data }, { on := 7, ground := Ground.data }, { on := 11, ground := Ground.chain }, { on := 0, ground := Ground.phase }, { on := 1, ground := Ground.phase }, { on := 2, ground := Ground.phase }, { on := 3, ground := Ground.phase }, { on := 4, ground := Ground.phase }, { on := 5, ground := Ground.phase }, { on := 6, ground := Ground.phase }, { on := 7, ground := Ground.phase }, { on := 8, ground := Ground.textOnly Departure.lateStores }, { on := 9, ground := Ground.phase }, { on := 10, ground := Ground.phase }, { on := 11, ground := Ground.phase }], guard := none }) rfl (fun K hK => ?_) AllReadyH.nil
            rw [if_pos (by rfl)]
            refine wp_storeG agA _ _ rfl g11 rfl rfl (nbz3207) (by rw [u8s_length, z32_length]) (by rw [u8s_length, HBL.out]) (u8s_one _) (fun vz3208 kz3209 qz3210 zz3211 => ?_)
            have Gz3212 : w5.grownBy vz3208 none := World.grownBy.andThen (Gz3206) qz3210.out (by rintro _ ⟨⟩; exact .inl hwg11)
            have nbz3213 := (kz3203.out).grown qz3210.out (by simpa using ne9_10)
            refine hK.out _ _ ⟨range_of (B4b.out.grown (Gz3212) (by simp)), range_of (B5b.out.grown (Gz3212) (by simp))⟩ (fun hHeld => ?_)
            clear hK K
            dsimp only [Act.put]
            refine wpAnyH_ready (rs := [13]) (by kernel_rfl) (by simp) ?_
            refine AllReadyH.cons (o := { dst := some 12, op := Op.assign (Operand.tmp 32), type := 4, pos := "law.go:25", after := #[{ on := 8, ground := Ground.data }, { on := 12, ground := Ground.chain }, { on := 0, ground := Ground.phase }, { on := 1, ground := Ground.phase }, { on := 2, ground := Ground.phase }, { on := 3, ground := Ground.phase }, { on := 4, ground := Ground.phase }, { on := 5, ground := Ground.phase }, { on := 6, ground := Ground.phase }, { on := 7, ground := Ground.phase }, { on := 8, ground := Ground.phase }, { on := 9, ground := Ground.phase }, { on := 10, ground := Ground.phase }, { on := 11, ground := Ground.phase }, { on := 12, ground := Ground.phase }], guard := none }) rfl (fun K hK => ?_) AllReadyH.nil
            rw [if_pos (by rfl)]
            go_simp
            refine hK.out _ _ hHeld (fun hHeld => ?_)
            clear hK K
            try simp only [Act.put, List.setIfInBounds_toArray, List.set_cons_zero, List.set_cons_succ]
            refine wpAnyH_done (by kernel_rfl) ?_ _
            exact hrest2_ _ g10 g11 p ⟨Gz3212, nbz3213, kz3209.out⟩
          · rw [if_pos (by rfl)]
            refine wp_allocG zeA rfl (fun g11 vz3214 ez3215 kz3216 qz3217 => ?_)
            have Gz3218 := (Gz3186).trans qz3217.out
            have hwg11 : w5.heap.size ≤ g11 := by rw [ez3215.out]; exact (Gz3186).size
            have nz3219 : ¬ ok g11 := fun hb => by have h1 := hsu.lt _ hb; have h2 := ez3215.out; omega
            have ne9_10 : g10 ≠ g11 := fun e' => by have h1 := (nbz3187).lt; have h2 := ez3215.out; omega
            have sz3220 := hsu.grown qz3217.out
            have nbz3221 := (nbz3187).grown qz3217.out (by simp)
            refine hK.out _ _ ⟨range_of (B4b.out.grown (Gz3218) (by simp)), range_of (B5b.out.grown (Gz3218) (by simp))⟩ (fun hHeld => ?_)
            clear hK K
            try simp only [Act.put, List.setIfInBounds_toArray, List.set_cons_zero, List.set_cons_succ]
            refine wpAnyH_ready (rs := [4]) (by kernel_rfl) (by simp) ?_
            refine AllReadyH.cons (o := { dst := some 29, op := Op.call { callee := Callee.value (Operand.func 12), args := #[Operand.tmp 26, Operand.tmp 27, Operand.tmp 28], argTypes := #[35, 22, 22] }, type := 31, pos := "law.go:25", after := #[{ on := 1, ground := Ground.data }, { on := 2, ground := Ground.data }, { on := 3, ground := Ground.data }, { on := 1, ground := Ground.chain }], guard := none }) rfl (fun K hK => ?_) AllReadyH.nil
            rw [if_pos (by rfl)]
            go_simp
            have hcall : Calls Tryd.prog 12 #[tab p, .agg (u8s r).toArray, .agg (u8s s).toArray] vz3214 fun e w' => e = .returned (.tuple #[.agg (u8s a).toArray, .agg (u8s b).toArray, .bool true]) ∧ Rx vz3214 ok p σ2 w' := by
              have h := rroot_any sz3220 (sg0_room f _) HK.out HK2.out
              rw [← HA.out, ← HB.out, ← H2.out] at h
              exact h
            with_reducible refine hcall.mono ?_
            rintro _ vz3222 ⟨rfl, hnx⟩
            have Gz3223 := md_grown hnx.2 Gz3218 hnew
            have nbz3224 := (nbz3221).keep (hnx.2.block _ (nbz3221).lt nz3188)
            have nbz3225 := (kz3216.out).keep (hnx.2.block _ (kz3216.out).lt nz3219)
            refine hK.out _ _ ⟨range_of (B4b.out.grown (Gz3223) (by simp)), range_of (B5b.out.grown (Gz3223) (by simp))⟩ (fun hHeld => ?_)
            clear hK K
            try simp only [Act.put, List.setIfInBounds_toArray, List.set_cons_zero, List.set_cons_succ]
            refine' wpAnyH_take (i := 5) (oi := { dst := some 24, op := Op.move (Operand.tmp 29), type := 31, pos := "law.go:25", after := #[{ on := 4, ground := Ground.data }], guard := none }) (v := .tuple #[.agg (u8s a).toArray, .agg (u8s b).toArray, .bool true]) rfl (by kernel_rfl) (by kernel_rfl) (by kernel_rfl) (fun _ _ _ h => h) (Or.inl ⟨by rfl, fun _ _ => rfl⟩) (by assumption) ?qz3226
            try simp only [Act.put, List.setIfInBounds_toArray, List.set_cons_zero, List.set_cons_succ]
            refine' wpAnyH_take (i := 6) (oi := { dst := some 30, op := Op.extract (Operand.tmp 24) 0, type := 22, pos := "law.go:25", after := #[{ on := 5, ground := Ground.data }], guard := none }) (v := .agg (u8s a).toArray) rfl (by kernel_rfl) (by kernel_rfl) (by kernel_rfl) (fun _ _ _ h => h) (Or.inl ⟨by rfl, fun _ _ => rfl⟩) (by assumption) ?qz3227
            try simp only [Act.put, List.setIfInBounds_toArray, List.set_cons_zero, List.set_cons_succ]
            refine' wpAnyH_take (i := 7) (oi := { dst := some 31, op := Op.extract (Operand.tmp 24) 1, type := 22, pos := "law.go:25", after := #[{ on := 5, ground := Ground.data }, { on := 11, ground := Ground.gcOnly Departure.lateStores }], guard := none }) (v := .agg (u8s b).toArray) rfl (by kernel_rfl) (by kernel_rfl) (by kernel_rfl) (fun _ _ _ h => h) (Or.inl ⟨by rfl, fun _ _ => rfl⟩) (by assumption) ?qz3228
            try simp only [Act.put, List.setIfInBounds_toArray, List.set_cons_zero, List.set_cons_succ]
            refine' wpAnyH_take (i := 8) (oi := { dst := some 32, op := Op.extract (Operand.tmp 24) 2, type := 4, pos := "law.go:25", after := #[{ on := 5, ground := Ground.data }, { on := 12, ground := Ground.gcOnly Departure.lateStores }], guard := none }) (v := .bool true) rfl (by kernel_rfl) (by kernel_rfl) (by kernel_rfl) (fun _ _ _ h => h) (Or.inl ⟨by rfl, fun _ _ => rfl⟩) (by assumption) ?qz3229
            try simp only [Act.put, List.setIfInBounds_toArray, List.set_cons_zero, List.set_cons_succ]
            refine wpAnyH_ready (rs := [11]) (by kernel_rfl) (by simp) ?_
            refine AllReadyH.cons (o := { dst := none, op := Op.store 22 (Operand.tmp 10) (Operand.tmp 30), type := 0, pos := "law.go:25", after := #[{ on := 9, ground := Ground.data }, { on := 6, ground := Ground.data }, { on := 4, ground := Ground.chain }, { on := 0, ground := Ground.phase }, { on := 1, ground := Ground.phase }, { on := 2, ground := Ground.phase }, { on := 3, ground := Ground.phase }, { on := 4, ground := Ground.phase }, { on := 5, ground := Ground.phase }, { on := 6, ground := Ground.phase }, { on := 7, ground := Ground.textOnly Departure.lateStores }, { on := 8, ground := Ground.textOnly Departure.lateStores }, { on := 9, ground := Ground.phase }, { on := 10, ground := Ground.phase }], guard := none }) rfl (fun K hK => ?_) AllReadyH.nil
            rw [if_pos (by rfl)]
            refine wp_storeG agA _ _ rfl g10 rfl rfl (nbz3224) (by rw [u8s_length, z32_length]) (by rw [u8s_length, HAL.out]) (u8s_one _) (fun vz3230 kz3231 qz3232 zz3233 => ?_)
            have Gz3234 : w5.grownBy vz3230 none := World.grownBy.andThen (Gz3223) qz3232.out (by rintro _ ⟨⟩; exact .inl hwg10)
            have nbz3235 := (nbz3225).grown qz3232.out (by simpa using (Ne.symm ne9_10))
            refine hK.out _ _ ⟨range_of (B4b.out.grown (Gz3234) (by simp)), range_of (B5b.out.grown (Gz3234) (by simp))⟩ (fun hHeld => ?_)
            clear hK K
            dsimp only [Act.put]
            refine wpAnyH_ready (rs := [12]) (by kernel_rfl) (by simp) ?_
            refine AllReadyH.cons (o := { dst := none, op := Op.store 22 (Operand.tmp 11) (Operand.tmp 31), type := 0, pos := "law.go:25", after := #[{ on := 10, ground := Ground.data }, { on := 7, ground := Ground.data }, { on := 11, ground := Ground.chain }, { on := 0, ground := Ground.phase }, { on := 1, ground := Ground.phase }, { on := 2, ground := Ground.phase }, { on := 3, ground := Ground.phase }, { on := 4, ground := Ground.phase }, { on := 5, ground := Ground.phase }, { on := 6, ground := Ground.phase }, { on := 7, ground := Ground.phase }, { on := 8, ground := Ground.textOnly Departure.lateStores }, { on := 9, ground := Ground.phase }, { on := 10, ground := Ground.phase }, { on := 11, ground := Ground.phase }], guard := none }) rfl (fun K hK => ?_) AllReadyH.nil
            rw [if_pos (by rfl)]
            refine wp_storeG agA _ _ rfl g11 rfl rfl (nbz3235) (by rw [u8s_length, z32_length]) (by rw [u8s_length, HBL.out]) (u8s_one _) (fun vz3236 kz3237 qz3238 zz3239 => ?_)
            have Gz3240 : w5.grownBy vz3236 none := World.grownBy.andThen (Gz3234) qz3238.out (by rintro _ ⟨⟩; exact .inl hwg11)
            have nbz3241 := (kz3231.out).grown qz3238.out (by simpa using ne9_10)
            refine hK.out _ _ ⟨range_of (B4b.out.grown (Gz3240) (by simp)), range_of (B5b.out.grown (Gz3240) (by simp))⟩ (fun hHeld => ?_)
            clear hK K
            dsimp only [Act.put]
            refine wpAnyH_ready (rs := [13]) (by kernel_rfl) (by simp) ?_
            refine AllReadyH.cons (o := { dst := some 12, op := Op.assign (Operand.tmp 32), type := 4, pos := "law.go:25", after := #[{ on := 8, ground := Ground.data }, { on := 12, ground := Ground.chain }, { on := 0, ground := Ground.phase }, { on := 1, ground := Ground.phase }, { on := 2, ground := Ground.phase }, { on := 3, ground := Ground.phase }, { on := 4, ground := Ground.phase }, { on := 5, ground := Ground.phase }, { on := 6, ground := Ground.phase }, { on := 7, ground := Ground.phase }, { on := 8, ground := Ground.phase }, { on := 9, ground := Ground.phase }, { on := 10, ground := Ground.phase }, { on := 11, ground := Ground.phase }, { on := 12, ground := Ground.phase }], guard := none }) rfl (fun K hK => ?_) AllReadyH.nil
            rw [if_pos (by rfl)]
            go_simp
            refine hK.out _ _ hHeld (fun hHeld => ?_)
            clear hK K
            try simp only [Act.put, List.setIfInBounds_toArray, List.set_cons_zero, List.set_cons_succ]
            refine wpAnyH_done (by kernel_rfl) ?_ _
            exact hrest2_ _ g10 g11 p ⟨Gz3240, nbz3241, kz3237.out⟩
        · rw [if_pos (by rfl)]
          refine wp_allocG zeA rfl (fun g11 vz3242 ez3243 kz3244 qz3245 => ?_)
          have Gz3246 := (Gz3183).trans qz3245.out
          have hwg11 : w5.heap.size ≤ g11 := by rw [ez3243.out]; exact (Gz3183).size
          have ne9_10 : g10 ≠ g11 := fun e' => by have h1 := (kz3181.out).lt; have h2 := ez3243.out; omega
          have nbz3247 := (kz3181.out).grown qz3245.out (by simp)
          refine hK.out _ _ ⟨range_of (B4b.out.grown (Gz3246) (by simp)), range_of (B5b.out.grown (Gz3246) (by simp))⟩ (fun hHeld => ?_)
          clear hK K
          try simp only [Act.put, List.setIfInBounds_toArray, List.set_cons_zero, List.set_cons_succ]
          refine wpAnyH_ready (rs := [1]) (by kernel_rfl) (by simp) ?_
          refine AllReadyH.cons (o := { dst := some 26, op := Op.call { callee := Callee.value (Operand.func 13), args := #[Operand.tmp 25], argTypes := #[4] }, type := 35, pos := "law.go:25", after := #[{ on := 0, ground := Ground.data }], guard := none }) rfl (fun K hK => ?_) AllReadyH.nil
          rw [if_pos (by rfl)]
          go_simp
          with_reducible refine (rsuite_any vz3242  f).mono ?_
          rintro _ vz3248 ⟨p, ok, rfl, hsu, hne, gz3249⟩
          have nbz3251 := (nbz3247).grown gz3249 (by simp)
          have nbz3252 := (kz3244.out).grown gz3249 (by simp)
          have Gz3250 := (Gz3246).trans gz3249
          have hnew : ∀ b, ok b → w5.heap.size ≤ b := fun b hb => Nat.le_trans (Gz3246).size (hne b hb)
          have nz3253 : ¬ ok g10 := fun hb => by have h1 := hne _ hb; have h2 := (nbz3247).lt; omega
          have nz3254 : ¬ ok g11 := fun hb => by have h1 := hne _ hb; have h2 := (kz3244.out).lt; omega
          refine hK.out _ _ ⟨range_of (B4b.out.grown (Gz3250) (by simp)), range_of (B5b.out.grown (Gz3250) (by simp))⟩ (fun hHeld => ?_)
          clear hK K
          try simp only [Act.put, List.setIfInBounds_toArray, List.set_cons_zero, List.set_cons_succ]
          refine wpAnyH_ready (rs := [4]) (by kernel_rfl) (by simp) ?_
          refine AllReadyH.cons (o := { dst := some 29, op := Op.call { callee := Callee.value (Operand.func 12), args := #[Operand.tmp 26, Operand.tmp 27, Operand.tmp 28], argTypes := #[35, 22, 22] }, type := 31, pos := "law.go:25", after := #[{ on := 1, ground := Ground.data }, { on := 2, ground := Ground.data }, { on := 3, ground := Ground.data }, { on := 1, ground := Ground.chain }], guard := none }) rfl (fun K hK => ?_) AllReadyH.nil
          rw [if_pos (by rfl)]
          go_simp
          have hcall : Calls Tryd.prog 12 #[tab p, .agg (u8s r).toArray, .agg (u8s s).toArray] vz3248 fun e w' => e = .returned (.tuple #[.agg (u8s a).toArray, .agg (u8s b).toArray, .bool true]) ∧ Rx vz3248 ok p σ2 w' := by
            have h := rroot_any hsu (sg0_room f _) HK.out HK2.out
            rw [← HA.out, ← HB.out, ← H2.out] at h
            exact h
          with_reducible refine hcall.mono ?_
          rintro _ vz3255 ⟨rfl, hnx⟩
          have Gz3256 := md_grown hnx.2 Gz3250 hnew
          have nbz3257 := (nbz3251).keep (hnx.2.block _ (nbz3251).lt nz3253)
          have nbz3258 := (nbz3252).keep (hnx.2.block _ (nbz3252).lt nz3254)
          refine hK.out _ _ ⟨range_of (B4b.out.grown (Gz3256) (by simp)), range_of (B5b.out.grown (Gz3256) (by simp))⟩ (fun hHeld => ?_)
          clear hK K
          try simp only [Act.put, List.setIfInBounds_toArray, List.set_cons_zero, List.set_cons_succ]
          refine' wpAnyH_take (i := 5) (oi := { dst := some 24, op := Op.move (Operand.tmp 29), type := 31, pos := "law.go:25", after := #[{ on := 4, ground := Ground.data }], guard := none }) (v := .tuple #[.agg (u8s a).toArray, .agg (u8s b).toArray, .bool true]) rfl (by kernel_rfl) (by kernel_rfl) (by kernel_rfl) (fun _ _ _ h => h) (Or.inl ⟨by rfl, fun _ _ => rfl⟩) (by assumption) ?qz3259
          try simp only [Act.put, List.setIfInBounds_toArray, List.set_cons_zero, List.set_cons_succ]
          refine' wpAnyH_take (i := 6) (oi := { dst := some 30, op := Op.extract (Operand.tmp 24) 0, type := 22, pos := "law.go:25", after := #[{ on := 5, ground := Ground.data }], guard := none }) (v := .agg (u8s a).toArray) rfl (by kernel_rfl) (by kernel_rfl) (by kernel_rfl) (fun _ _ _ h => h) (Or.inl ⟨by rfl, fun _ _ => rfl⟩) (by assumption) ?qz3260
          try simp only [Act.put, List.setIfInBounds_toArray, List.set_cons_zero, List.set_cons_succ]
          refine' wpAnyH_take (i := 7) (oi := { dst := some 31, op := Op.extract (Operand.tmp 24) 1, type := 22, pos := "law.go:25", after := #[{ on := 5, ground := Ground.data }, { on := 11, ground := Ground.gcOnly Departure.lateStores }], guard := none }) (v := .agg (u8s b).toArray) rfl (by kernel_rfl) (by kernel_rfl) (by kernel_rfl) (fun _ _ _ h => h) (Or.inl ⟨by rfl, fun _ _ => rfl⟩) (by assumption) ?qz3261
          try simp only [Act.put, List.setIfInBounds_toArray, List.set_cons_zero, List.set_cons_succ]
          refine' wpAnyH_take (i := 8) (oi := { dst := some 32, op := Op.extract (Operand.tmp 24) 2, type := 4, pos := "law.go:25", after := #[{ on := 5, ground := Ground.data }, { on := 12, ground := Ground.gcOnly Departure.lateStores }], guard := none }) (v := .bool true) rfl (by kernel_rfl) (by kernel_rfl) (by kernel_rfl) (fun _ _ _ h => h) (Or.inl ⟨by rfl, fun _ _ => rfl⟩) (by assumption) ?qz3262
          try simp only [Act.put, List.setIfInBounds_toArray, List.set_cons_zero, List.set_cons_succ]
          refine wpAnyH_ready (rs := [11]) (by kernel_rfl) (by simp) ?_
          refine AllReadyH.cons (o := { dst := none, op := Op.store 22 (Operand.tmp 10) (Operand.tmp 30), type := 0, pos := "law.go:25", after := #[{ on := 9, ground := Ground.data }, { on := 6, ground := Ground.data }, { on := 4, ground := Ground.chain }, { on := 0, ground := Ground.phase }, { on := 1, ground := Ground.phase }, { on := 2, ground := Ground.phase }, { on := 3, ground := Ground.phase }, { on := 4, ground := Ground.phase }, { on := 5, ground := Ground.phase }, { on := 6, ground := Ground.phase }, { on := 7, ground := Ground.textOnly Departure.lateStores }, { on := 8, ground := Ground.textOnly Departure.lateStores }, { on := 9, ground := Ground.phase }, { on := 10, ground := Ground.phase }], guard := none }) rfl (fun K hK => ?_) AllReadyH.nil
          rw [if_pos (by rfl)]
          refine wp_storeG agA _ _ rfl g10 rfl rfl (nbz3257) (by rw [u8s_length, z32_length]) (by rw [u8s_length, HAL.out]) (u8s_one _) (fun vz3263 kz3264 qz3265 zz3266 => ?_)
          have Gz3267 : w5.grownBy vz3263 none := World.grownBy.andThen (Gz3256) qz3265.out (by rintro _ ⟨⟩; exact .inl hwg10)
          have nbz3268 := (nbz3258).grown qz3265.out (by simpa using (Ne.symm ne9_10))
          refine hK.out _ _ ⟨range_of (B4b.out.grown (Gz3267) (by simp)), range_of (B5b.out.grown (Gz3267) (by simp))⟩ (fun hHeld => ?_)
          clear hK K
          dsimp only [Act.put]
          refine wpAnyH_ready (rs := [12]) (by kernel_rfl) (by simp) ?_
          refine AllReadyH.cons (o := { dst := none, op := Op.store 22 (Operand.tmp 11) (Operand.tmp 31), type := 0, pos := "law.go:25", after := #[{ on := 10, ground := Ground.data }, { on := 7, ground := Ground.data }, { on := 11, ground := Ground.chain }, { on := 0, ground := Ground.phase }, { on := 1, ground := Ground.phase }, { on := 2, ground := Ground.phase }, { on := 3, ground := Ground.phase }, { on := 4, ground := Ground.phase }, { on := 5, ground := Ground.phase }, { on := 6, ground := Ground.phase }, { on := 7, ground := Ground.phase }, { on := 8, ground := Ground.textOnly Departure.lateStores }, { on := 9, ground := Ground.phase }, { on := 10, ground := Ground.phase }, { on := 11, ground := Ground.phase }], guard := none }) rfl (fun K hK => ?_) AllReadyH.nil
          rw [if_pos (by rfl)]
          refine wp_storeG agA _ _ rfl g11 rfl rfl (nbz3268) (by rw [u8s_length, z32_length]) (by rw [u8s_length, HBL.out]) (u8s_one _) (fun vz3269 kz3270 qz3271 zz3272 => ?_)
          have Gz3273 : w5.grownBy vz3269 none := World.grownBy.andThen (Gz3267) qz3271.out (by rintro _ ⟨⟩; exact .inl hwg11)
          have nbz3274 := (kz3264.out).grown qz3271.out (by simpa using ne9_10)
          refine hK.out _ _ ⟨range_of (B4b.out.grown (Gz3273) (by simp)), range_of (B5b.out.grown (Gz3273) (by simp))⟩ (fun hHeld => ?_)
          clear hK K
          dsimp only [Act.put]
          refine wpAnyH_ready (rs := [13]) (by kernel_rfl) (by simp) ?_
          refine AllReadyH.cons (o := { dst := some 12, op := Op.assign (Operand.tmp 32), type := 4, pos := "law.go:25", after := #[{ on := 8, ground := Ground.data }, { on := 12, ground := Ground.chain }, { on := 0, ground := Ground.phase }, { on := 1, ground := Ground.phase }, { on := 2, ground := Ground.phase }, { on := 3, ground := Ground.phase }, { on := 4, ground := Ground.phase }, { on := 5, ground := Ground.phase }, { on := 6, ground := Ground.phase }, { on := 7, ground := Ground.phase }, { on := 8, ground := Ground.phase }, { on := 9, ground := Ground.phase }, { on := 10, ground := Ground.phase }, { on := 11, ground := Ground.phase }, { on := 12, ground := Ground.phase }], guard := none }) rfl (fun K hK => ?_) AllReadyH.nil
          rw [if_pos (by rfl)]
          go_simp
          refine hK.out _ _ hHeld (fun hHeld => ?_)
          clear hK K
          try simp only [Act.put, List.setIfInBounds_toArray, List.set_cons_zero, List.set_cons_succ]
          refine wpAnyH_done (by kernel_rfl) ?_ _
          exact hrest2_ _ g10 g11 p ⟨Gz3273, nbz3274, kz3270.out⟩
      · rw [if_pos (by rfl)]
        refine wp_allocG zeA rfl (fun g11 vz3275 ez3276 kz3277 qz3278 => ?_)
        have Gz3279 := (hg0).trans qz3278.out
        have hwg11 : w5.heap.size ≤ g11 := by rw [ez3276.out]; exact (hg0).size
        refine hK.out _ _ ⟨range_of (B4b.out.grown (Gz3279) (by simp)), range_of (B5b.out.grown (Gz3279) (by simp))⟩ (fun hHeld => ?_)
        clear hK K
        try simp only [Act.put, List.setIfInBounds_toArray, List.set_cons_zero, List.set_cons_succ]
        refine wpAnyH_ready (rs := [1, 9]) (by kernel_rfl) (by simp) ?_
        refine AllReadyH.cons (o := { dst := some 26, op := Op.call { callee := Callee.value (Operand.func 13), args := #[Operand.tmp 25], argTypes := #[4] }, type := 35, pos := "law.go:25", after := #[{ on := 0, ground := Ground.data }], guard := none }) rfl (fun K hK => ?_) (AllReadyH.cons (o := { dst := some 10, op := Op.alloc 22, type := 0, pos := "law.go:25", after := #[], guard := none }) rfl (fun K hK => ?_) AllReadyH.nil)
        · rw [if_pos (by rfl)]
          go_simp
          with_reducible refine (rsuite_any vz3275  f).mono ?_
          rintro _ vz3280 ⟨p, ok, rfl, hsu, hne, gz3281⟩
          have nbz3283 := (kz3277.out).grown gz3281 (by simp)
          have Gz3282 := (Gz3279).trans gz3281
          have hnew : ∀ b, ok b → w5.heap.size ≤ b := fun b hb => Nat.le_trans (Gz3279).size (hne b hb)
          have nz3284 : ¬ ok g11 := fun hb => by have h1 := hne _ hb; have h2 := (kz3277.out).lt; omega
          refine hK.out _ _ ⟨range_of (B4b.out.grown (Gz3282) (by simp)), range_of (B5b.out.grown (Gz3282) (by simp))⟩ (fun hHeld => ?_)
          clear hK K
          try simp only [Act.put, List.setIfInBounds_toArray, List.set_cons_zero, List.set_cons_succ]
          refine wpAnyH_ready (rs := [4, 9]) (by kernel_rfl) (by simp) ?_
          refine AllReadyH.cons (o := { dst := some 29, op := Op.call { callee := Callee.value (Operand.func 12), args := #[Operand.tmp 26, Operand.tmp 27, Operand.tmp 28], argTypes := #[35, 22, 22] }, type := 31, pos := "law.go:25", after := #[{ on := 1, ground := Ground.data }, { on := 2, ground := Ground.data }, { on := 3, ground := Ground.data }, { on := 1, ground := Ground.chain }], guard := none }) rfl (fun K hK => ?_) (AllReadyH.cons (o := { dst := some 10, op := Op.alloc 22, type := 0, pos := "law.go:25", after := #[], guard := none }) rfl (fun K hK => ?_) AllReadyH.nil)
          · rw [if_pos (by rfl)]
            go_simp
            have hcall : Calls Tryd.prog 12 #[tab p, .agg (u8s r).toArray, .agg (u8s s).toArray] vz3280 fun e w' => e = .returned (.tuple #[.agg (u8s a).toArray, .agg (u8s b).toArray, .bool true]) ∧ Rx vz3280 ok p σ2 w' := by
              have h := rroot_any hsu (sg0_room f _) HK.out HK2.out
              rw [← HA.out, ← HB.out, ← H2.out] at h
              exact h
            with_reducible refine hcall.mono ?_
            rintro _ vz3285 ⟨rfl, hnx⟩
            have Gz3286 := md_grown hnx.2 Gz3282 hnew
            have nbz3287 := (nbz3283).keep (hnx.2.block _ (nbz3283).lt nz3284)
            refine hK.out _ _ ⟨range_of (B4b.out.grown (Gz3286) (by simp)), range_of (B5b.out.grown (Gz3286) (by simp))⟩ (fun hHeld => ?_)
            clear hK K
            try simp only [Act.put, List.setIfInBounds_toArray, List.set_cons_zero, List.set_cons_succ]
            refine' wpAnyH_take (i := 5) (oi := { dst := some 24, op := Op.move (Operand.tmp 29), type := 31, pos := "law.go:25", after := #[{ on := 4, ground := Ground.data }], guard := none }) (v := .tuple #[.agg (u8s a).toArray, .agg (u8s b).toArray, .bool true]) rfl (by kernel_rfl) (by kernel_rfl) (by kernel_rfl) (fun _ _ _ h => h) (Or.inl ⟨by rfl, fun _ _ => rfl⟩) (by assumption) ?qz3288
            try simp only [Act.put, List.setIfInBounds_toArray, List.set_cons_zero, List.set_cons_succ]
            refine' wpAnyH_take (i := 6) (oi := { dst := some 30, op := Op.extract (Operand.tmp 24) 0, type := 22, pos := "law.go:25", after := #[{ on := 5, ground := Ground.data }], guard := none }) (v := .agg (u8s a).toArray) rfl (by kernel_rfl) (by kernel_rfl) (by kernel_rfl) (fun _ _ _ h => h) (Or.inl ⟨by rfl, fun _ _ => rfl⟩) (by assumption) ?qz3289
            try simp only [Act.put, List.setIfInBounds_toArray, List.set_cons_zero, List.set_cons_succ]
            refine' wpAnyH_take (i := 7) (oi := { dst := some 31, op := Op.extract (Operand.tmp 24) 1, type := 22, pos := "law.go:25", after := #[{ on := 5, ground := Ground.data }, { on := 11, ground := Ground.gcOnly Departure.lateStores }], guard := none }) (v := .agg (u8s b).toArray) rfl (by kernel_rfl) (by kernel_rfl) (by kernel_rfl) (fun _ _ _ h => h) (Or.inl ⟨by rfl, fun _ _ => rfl⟩) (by assumption) ?qz3290
            try simp only [Act.put, List.setIfInBounds_toArray, List.set_cons_zero, List.set_cons_succ]
            refine' wpAnyH_take (i := 8) (oi := { dst := some 32, op := Op.extract (Operand.tmp 24) 2, type := 4, pos := "law.go:25", after := #[{ on := 5, ground := Ground.data }, { on := 12, ground := Ground.gcOnly Departure.lateStores }], guard := none }) (v := .bool true) rfl (by kernel_rfl) (by kernel_rfl) (by kernel_rfl) (fun _ _ _ h => h) (Or.inl ⟨by rfl, fun _ _ => rfl⟩) (by assumption) ?qz3291
            try simp only [Act.put, List.setIfInBounds_toArray, List.set_cons_zero, List.set_cons_succ]
            refine wpAnyH_ready (rs := [9]) (by kernel_rfl) (by simp) ?_
            refine AllReadyH.cons (o := { dst := some 10, op := Op.alloc 22, type := 0, pos := "law.go:25", after := #[], guard := none }) rfl (fun K hK => ?_) AllReadyH.nil
            rw [if_pos (by rfl)]
            refine wp_allocG zeA rfl (fun g10 vz3292 ez3293 kz3294 qz3295 => ?_)
            have Gz3296 := (Gz3286).trans qz3295.out
            have hwg10 : w5.heap.size ≤ g10 := by rw [ez3293.out]; exact (Gz3286).size
            have ne9_10 : g11 ≠ g10 := fun e' => by have h1 := (nbz3287).lt; have h2 := ez3293.out; omega
            have nbz3297 := (nbz3287).grown qz3295.out (by simp)
            refine hK.out _ _ ⟨range_of (B4b.out.grown (Gz3296) (by simp)), range_of (B5b.out.grown (Gz3296) (by simp))⟩ (fun hHeld => ?_)
            clear hK K
            try simp only [Act.put, List.setIfInBounds_toArray, List.set_cons_zero, List.set_cons_succ]
            refine wpAnyH_ready (rs := [11]) (by kernel_rfl) (by simp) ?_
            refine AllReadyH.cons (o := { dst := none, op := Op.store 22 (Operand.tmp 10) (Operand.tmp 30), type := 0, pos := "law.go:25", after := #[{ on := 9, ground := Ground.data }, { on := 6, ground := Ground.data }, { on := 4, ground := Ground.chain }, { on := 0, ground := Ground.phase }, { on := 1, ground := Ground.phase }, { on := 2, ground := Ground.phase }, { on := 3, ground := Ground.phase }, { on := 4, ground := Ground.phase }, { on := 5, ground := Ground.phase }, { on := 6, ground := Ground.phase }, { on := 7, ground := Ground.textOnly Departure.lateStores }, { on := 8, ground := Ground.textOnly Departure.lateStores }, { on := 9, ground := Ground.phase }, { on := 10, ground := Ground.phase }], guard := none }) rfl (fun K hK => ?_) AllReadyH.nil
            rw [if_pos (by rfl)]
            refine wp_storeG agA _ _ rfl g10 rfl rfl (kz3294.out) (by rw [u8s_length, z32_length]) (by rw [u8s_length, HAL.out]) (u8s_one _) (fun vz3298 kz3299 qz3300 zz3301 => ?_)
            have Gz3302 : w5.grownBy vz3298 none := World.grownBy.andThen (Gz3296) qz3300.out (by rintro _ ⟨⟩; exact .inl hwg10)
            have nbz3303 := (nbz3297).grown qz3300.out (by simpa using ne9_10)
            refine hK.out _ _ ⟨range_of (B4b.out.grown (Gz3302) (by simp)), range_of (B5b.out.grown (Gz3302) (by simp))⟩ (fun hHeld => ?_)
            clear hK K
            dsimp only [Act.put]
            refine wpAnyH_ready (rs := [12]) (by kernel_rfl) (by simp) ?_
            refine AllReadyH.cons (o := { dst := none, op := Op.store 22 (Operand.tmp 11) (Operand.tmp 31), type := 0, pos := "law.go:25", after := #[{ on := 10, ground := Ground.data }, { on := 7, ground := Ground.data }, { on := 11, ground := Ground.chain }, { on := 0, ground := Ground.phase }, { on := 1, ground := Ground.phase }, { on := 2, ground := Ground.phase }, { on := 3, ground := Ground.phase }, { on := 4, ground := Ground.phase }, { on := 5, ground := Ground.phase }, { on := 6, ground := Ground.phase }, { on := 7, ground := Ground.phase }, { on := 8, ground := Ground.textOnly Departure.lateStores }, { on := 9, ground := Ground.phase }, { on := 10, ground := Ground.phase }, { on := 11, ground := Ground.phase }], guard := none }) rfl (fun K hK => ?_) AllReadyH.nil
            rw [if_pos (by rfl)]
            refine wp_storeG agA _ _ rfl g11 rfl rfl (nbz3303) (by rw [u8s_length, z32_length]) (by rw [u8s_length, HBL.out]) (u8s_one _) (fun vz3304 kz3305 qz3306 zz3307 => ?_)
            have Gz3308 : w5.grownBy vz3304 none := World.grownBy.andThen (Gz3302) qz3306.out (by rintro _ ⟨⟩; exact .inl hwg11)
            have nbz3309 := (kz3299.out).grown qz3306.out (by simpa using (Ne.symm ne9_10))
            refine hK.out _ _ ⟨range_of (B4b.out.grown (Gz3308) (by simp)), range_of (B5b.out.grown (Gz3308) (by simp))⟩ (fun hHeld => ?_)
            clear hK K
            dsimp only [Act.put]
            refine wpAnyH_ready (rs := [13]) (by kernel_rfl) (by simp) ?_
            refine AllReadyH.cons (o := { dst := some 12, op := Op.assign (Operand.tmp 32), type := 4, pos := "law.go:25", after := #[{ on := 8, ground := Ground.data }, { on := 12, ground := Ground.chain }, { on := 0, ground := Ground.phase }, { on := 1, ground := Ground.phase }, { on := 2, ground := Ground.phase }, { on := 3, ground := Ground.phase }, { on := 4, ground := Ground.phase }, { on := 5, ground := Ground.phase }, { on := 6, ground := Ground.phase }, { on := 7, ground := Ground.phase }, { on := 8, ground := Ground.phase }, { on := 9, ground := Ground.phase }, { on := 10, ground := Ground.phase }, { on := 11, ground := Ground.phase }, { on := 12, ground := Ground.phase }], guard := none }) rfl (fun K hK => ?_) AllReadyH.nil
            rw [if_pos (by rfl)]
            go_simp
            refine hK.out _ _ hHeld (fun hHeld => ?_)
            clear hK K
            try simp only [Act.put, List.setIfInBounds_toArray, List.set_cons_zero, List.set_cons_succ]
            refine wpAnyH_done (by kernel_rfl) ?_ _
            exact hrest2_ _ g10 g11 p ⟨Gz3308, nbz3309, kz3305.out⟩
          · rw [if_pos (by rfl)]
            refine wp_allocG zeA rfl (fun g10 vz3310 ez3311 kz3312 qz3313 => ?_)
            have Gz3314 := (Gz3282).trans qz3313.out
            have hwg10 : w5.heap.size ≤ g10 := by rw [ez3311.out]; exact (Gz3282).size
            have nz3315 : ¬ ok g10 := fun hb => by have h1 := hsu.lt _ hb; have h2 := ez3311.out; omega
            have ne9_10 : g11 ≠ g10 := fun e' => by have h1 := (nbz3283).lt; have h2 := ez3311.out; omega
            have sz3316 := hsu.grown qz3313.out
            have nbz3317 := (nbz3283).grown qz3313.out (by simp)
            refine hK.out _ _ ⟨range_of (B4b.out.grown (Gz3314) (by simp)), range_of (B5b.out.grown (Gz3314) (by simp))⟩ (fun hHeld => ?_)
            clear hK K
            try simp only [Act.put, List.setIfInBounds_toArray, List.set_cons_zero, List.set_cons_succ]
            refine wpAnyH_ready (rs := [4]) (by kernel_rfl) (by simp) ?_
            refine AllReadyH.cons (o := { dst := some 29, op := Op.call { callee := Callee.value (Operand.func 12), args := #[Operand.tmp 26, Operand.tmp 27, Operand.tmp 28], argTypes := #[35, 22, 22] }, type := 31, pos := "law.go:25", after := #[{ on := 1, ground := Ground.data }, { on := 2, ground := Ground.data }, { on := 3, ground := Ground.data }, { on := 1, ground := Ground.chain }], guard := none }) rfl (fun K hK => ?_) AllReadyH.nil
            rw [if_pos (by rfl)]
            go_simp
            have hcall : Calls Tryd.prog 12 #[tab p, .agg (u8s r).toArray, .agg (u8s s).toArray] vz3310 fun e w' => e = .returned (.tuple #[.agg (u8s a).toArray, .agg (u8s b).toArray, .bool true]) ∧ Rx vz3310 ok p σ2 w' := by
              have h := rroot_any sz3316 (sg0_room f _) HK.out HK2.out
              rw [← HA.out, ← HB.out, ← H2.out] at h
              exact h
            with_reducible refine hcall.mono ?_
            rintro _ vz3318 ⟨rfl, hnx⟩
            have Gz3319 := md_grown hnx.2 Gz3314 hnew
            have nbz3320 := (nbz3317).keep (hnx.2.block _ (nbz3317).lt nz3284)
            have nbz3321 := (kz3312.out).keep (hnx.2.block _ (kz3312.out).lt nz3315)
            refine hK.out _ _ ⟨range_of (B4b.out.grown (Gz3319) (by simp)), range_of (B5b.out.grown (Gz3319) (by simp))⟩ (fun hHeld => ?_)
            clear hK K
            try simp only [Act.put, List.setIfInBounds_toArray, List.set_cons_zero, List.set_cons_succ]
            refine' wpAnyH_take (i := 5) (oi := { dst := some 24, op := Op.move (Operand.tmp 29), type := 31, pos := "law.go:25", after := #[{ on := 4, ground := Ground.data }], guard := none }) (v := .tuple #[.agg (u8s a).toArray, .agg (u8s b).toArray, .bool true]) rfl (by kernel_rfl) (by kernel_rfl) (by kernel_rfl) (fun _ _ _ h => h) (Or.inl ⟨by rfl, fun _ _ => rfl⟩) (by assumption) ?qz3322
            try simp only [Act.put, List.setIfInBounds_toArray, List.set_cons_zero, List.set_cons_succ]
            refine' wpAnyH_take (i := 6) (oi := { dst := some 30, op := Op.extract (Operand.tmp 24) 0, type := 22, pos := "law.go:25", after := #[{ on := 5, ground := Ground.data }], guard := none }) (v := .agg (u8s a).toArray) rfl (by kernel_rfl) (by kernel_rfl) (by kernel_rfl) (fun _ _ _ h => h) (Or.inl ⟨by rfl, fun _ _ => rfl⟩) (by assumption) ?qz3323
            try simp only [Act.put, List.setIfInBounds_toArray, List.set_cons_zero, List.set_cons_succ]
            refine' wpAnyH_take (i := 7) (oi := { dst := some 31, op := Op.extract (Operand.tmp 24) 1, type := 22, pos := "law.go:25", after := #[{ on := 5, ground := Ground.data }, { on := 11, ground := Ground.gcOnly Departure.lateStores }], guard := none }) (v := .agg (u8s b).toArray) rfl (by kernel_rfl) (by kernel_rfl) (by kernel_rfl) (fun _ _ _ h => h) (Or.inl ⟨by rfl, fun _ _ => rfl⟩) (by assumption) ?qz3324
            try simp only [Act.put, List.setIfInBounds_toArray, List.set_cons_zero, List.set_cons_succ]
            refine' wpAnyH_take (i := 8) (oi := { dst := some 32, op := Op.extract (Operand.tmp 24) 2, type := 4, pos := "law.go:25", after := #[{ on := 5, ground := Ground.data }, { on := 12, ground := Ground.gcOnly Departure.lateStores }], guard := none }) (v := .bool true) rfl (by kernel_rfl) (by kernel_rfl) (by kernel_rfl) (fun _ _ _ h => h) (Or.inl ⟨by rfl, fun _ _ => rfl⟩) (by assumption) ?qz3325
            try simp only [Act.put, List.setIfInBounds_toArray, List.set_cons_zero, List.set_cons_succ]
            refine wpAnyH_ready (rs := [11]) (by kernel_rfl) (by simp) ?_
            refine AllReadyH.cons (o := { dst := none, op := Op.store 22 (Operand.tmp 10) (Operand.tmp 30), type := 0, pos := "law.go:25", after := #[{ on := 9, ground := Ground.data }, { on := 6, ground := Ground.data }, { on := 4, ground := Ground.chain }, { on := 0, ground := Ground.phase }, { on := 1, ground := Ground.phase }, { on := 2, ground := Ground.phase }, { on := 3, ground := Ground.phase }, { on := 4, ground := Ground.phase }, { on := 5, ground := Ground.phase }, { on := 6, ground := Ground.phase }, { on := 7, ground := Ground.textOnly Departure.lateStores }, { on := 8, ground := Ground.textOnly Departure.lateStores }, { on := 9, ground := Ground.phase }, { on := 10, ground := Ground.phase }], guard := none }) rfl (fun K hK => ?_) AllReadyH.nil
            rw [if_pos (by rfl)]
            refine wp_storeG agA _ _ rfl g10 rfl rfl (nbz3321) (by rw [u8s_length, z32_length]) (by rw [u8s_length, HAL.out]) (u8s_one _) (fun vz3326 kz3327 qz3328 zz3329 => ?_)
            have Gz3330 : w5.grownBy vz3326 none := World.grownBy.andThen (Gz3319) qz3328.out (by rintro _ ⟨⟩; exact .inl hwg10)
            have nbz3331 := (nbz3320).grown qz3328.out (by simpa using ne9_10)
            refine hK.out _ _ ⟨range_of (B4b.out.grown (Gz3330) (by simp)), range_of (B5b.out.grown (Gz3330) (by simp))⟩ (fun hHeld => ?_)
            clear hK K
            dsimp only [Act.put]
            refine wpAnyH_ready (rs := [12]) (by kernel_rfl) (by simp) ?_
            refine AllReadyH.cons (o := { dst := none, op := Op.store 22 (Operand.tmp 11) (Operand.tmp 31), type := 0, pos := "law.go:25", after := #[{ on := 10, ground := Ground.data }, { on := 7, ground := Ground.data }, { on := 11, ground := Ground.chain }, { on := 0, ground := Ground.phase }, { on := 1, ground := Ground.phase }, { on := 2, ground := Ground.phase }, { on := 3, ground := Ground.phase }, { on := 4, ground := Ground.phase }, { on := 5, ground := Ground.phase }, { on := 6, ground := Ground.phase }, { on := 7, ground := Ground.phase }, { on := 8, ground := Ground.textOnly Departure.lateStores }, { on := 9, ground := Ground.phase }, { on := 10, ground := Ground.phase }, { on := 11, ground := Ground.phase }], guard := none }) rfl (fun K hK => ?_) AllReadyH.nil
            rw [if_pos (by rfl)]
            refine wp_storeG agA _ _ rfl g11 rfl rfl (nbz3331) (by rw [u8s_length, z32_length]) (by rw [u8s_length, HBL.out]) (u8s_one _) (fun vz3332 kz3333 qz3334 zz3335 => ?_)
            have Gz3336 : w5.grownBy vz3332 none := World.grownBy.andThen (Gz3330) qz3334.out (by rintro _ ⟨⟩; exact .inl hwg11)
            have nbz3337 := (kz3327.out).grown qz3334.out (by simpa using (Ne.symm ne9_10))
            refine hK.out _ _ ⟨range_of (B4b.out.grown (Gz3336) (by simp)), range_of (B5b.out.grown (Gz3336) (by simp))⟩ (fun hHeld => ?_)
            clear hK K
            dsimp only [Act.put]
            refine wpAnyH_ready (rs := [13]) (by kernel_rfl) (by simp) ?_
            refine AllReadyH.cons (o := { dst := some 12, op := Op.assign (Operand.tmp 32), type := 4, pos := "law.go:25", after := #[{ on := 8, ground := Ground.data }, { on := 12, ground := Ground.chain }, { on := 0, ground := Ground.phase }, { on := 1, ground := Ground.phase }, { on := 2, ground := Ground.phase }, { on := 3, ground := Ground.phase }, { on := 4, ground := Ground.phase }, { on := 5, ground := Ground.phase }, { on := 6, ground := Ground.phase }, { on := 7, ground := Ground.phase }, { on := 8, ground := Ground.phase }, { on := 9, ground := Ground.phase }, { on := 10, ground := Ground.phase }, { on := 11, ground := Ground.phase }, { on := 12, ground := Ground.phase }], guard := none }) rfl (fun K hK => ?_) AllReadyH.nil
            rw [if_pos (by rfl)]
            go_simp
            refine hK.out _ _ hHeld (fun hHeld => ?_)
            clear hK K
            try simp only [Act.put, List.setIfInBounds_toArray, List.set_cons_zero, List.set_cons_succ]
            refine wpAnyH_done (by kernel_rfl) ?_ _
            exact hrest2_ _ g10 g11 p ⟨Gz3336, nbz3337, kz3333.out⟩
        · rw [if_pos (by rfl)]
          refine wp_allocG zeA rfl (fun g10 vz3338 ez3339 kz3340 qz3341 => ?_)
          have Gz3342 := (Gz3279).trans qz3341.out
          have hwg10 : w5.heap.size ≤ g10 := by rw [ez3339.out]; exact (Gz3279).size
          have ne9_10 : g11 ≠ g10 := fun e' => by have h1 := (kz3277.out).lt; have h2 := ez3339.out; omega
          have nbz3343 := (kz3277.out).grown qz3341.out (by simp)
          refine hK.out _ _ ⟨range_of (B4b.out.grown (Gz3342) (by simp)), range_of (B5b.out.grown (Gz3342) (by simp))⟩ (fun hHeld => ?_)
          clear hK K
          try simp only [Act.put, List.setIfInBounds_toArray, List.set_cons_zero, List.set_cons_succ]
          refine wpAnyH_ready (rs := [1]) (by kernel_rfl) (by simp) ?_
          refine AllReadyH.cons (o := { dst := some 26, op := Op.call { callee := Callee.value (Operand.func 13), args := #[Operand.tmp 25], argTypes := #[4] }, type := 35, pos := "law.go:25", after := #[{ on := 0, ground := Ground.data }], guard := none }) rfl (fun K hK => ?_) AllReadyH.nil
          rw [if_pos (by rfl)]
          go_simp
          with_reducible refine (rsuite_any vz3338  f).mono ?_
          rintro _ vz3344 ⟨p, ok, rfl, hsu, hne, gz3345⟩
          have nbz3347 := (nbz3343).grown gz3345 (by simp)
          have nbz3348 := (kz3340.out).grown gz3345 (by simp)
          have Gz3346 := (Gz3342).trans gz3345
          have hnew : ∀ b, ok b → w5.heap.size ≤ b := fun b hb => Nat.le_trans (Gz3342).size (hne b hb)
          have nz3349 : ¬ ok g11 := fun hb => by have h1 := hne _ hb; have h2 := (nbz3343).lt; omega
          have nz3350 : ¬ ok g10 := fun hb => by have h1 := hne _ hb; have h2 := (kz3340.out).lt; omega
          refine hK.out _ _ ⟨range_of (B4b.out.grown (Gz3346) (by simp)), range_of (B5b.out.grown (Gz3346) (by simp))⟩ (fun hHeld => ?_)
          clear hK K
          try simp only [Act.put, List.setIfInBounds_toArray, List.set_cons_zero, List.set_cons_succ]
          refine wpAnyH_ready (rs := [4]) (by kernel_rfl) (by simp) ?_
          refine AllReadyH.cons (o := { dst := some 29, op := Op.call { callee := Callee.value (Operand.func 12), args := #[Operand.tmp 26, Operand.tmp 27, Operand.tmp 28], argTypes := #[35, 22, 22] }, type := 31, pos := "law.go:25", after := #[{ on := 1, ground := Ground.data }, { on := 2, ground := Ground.data }, { on := 3, ground := Ground.data }, { on := 1, ground := Ground.chain }], guard := none }) rfl (fun K hK => ?_) AllReadyH.nil
          rw [if_pos (by rfl)]
          go_simp
          have hcall : Calls Tryd.prog 12 #[tab p, .agg (u8s r).toArray, .agg (u8s s).toArray] vz3344 fun e w' => e = .returned (.tuple #[.agg (u8s a).toArray, .agg (u8s b).toArray, .bool true]) ∧ Rx vz3344 ok p σ2 w' := by
            have h := rroot_any hsu (sg0_room f _) HK.out HK2.out
            rw [← HA.out, ← HB.out, ← H2.out] at h
            exact h
          with_reducible refine hcall.mono ?_
          rintro _ vz3351 ⟨rfl, hnx⟩
          have Gz3352 := md_grown hnx.2 Gz3346 hnew
          have nbz3353 := (nbz3347).keep (hnx.2.block _ (nbz3347).lt nz3349)
          have nbz3354 := (nbz3348).keep (hnx.2.block _ (nbz3348).lt nz3350)
          refine hK.out _ _ ⟨range_of (B4b.out.grown (Gz3352) (by simp)), range_of (B5b.out.grown (Gz3352) (by simp))⟩ (fun hHeld => ?_)
          clear hK K
          try simp only [Act.put, List.setIfInBounds_toArray, List.set_cons_zero, List.set_cons_succ]
          refine' wpAnyH_take (i := 5) (oi := { dst := some 24, op := Op.move (Operand.tmp 29), type := 31, pos := "law.go:25", after := #[{ on := 4, ground := Ground.data }], guard := none }) (v := .tuple #[.agg (u8s a).toArray, .agg (u8s b).toArray, .bool true]) rfl (by kernel_rfl) (by kernel_rfl) (by kernel_rfl) (fun _ _ _ h => h) (Or.inl ⟨by rfl, fun _ _ => rfl⟩) (by assumption) ?qz3355
          try simp only [Act.put, List.setIfInBounds_toArray, List.set_cons_zero, List.set_cons_succ]
          refine' wpAnyH_take (i := 6) (oi := { dst := some 30, op := Op.extract (Operand.tmp 24) 0, type := 22, pos := "law.go:25", after := #[{ on := 5, ground := Ground.data }], guard := none }) (v := .agg (u8s a).toArray) rfl (by kernel_rfl) (by kernel_rfl) (by kernel_rfl) (fun _ _ _ h => h) (Or.inl ⟨by rfl, fun _ _ => rfl⟩) (by assumption) ?qz3356
          try simp only [Act.put, List.setIfInBounds_toArray, List.set_cons_zero, List.set_cons_succ]
          refine' wpAnyH_take (i := 7) (oi := { dst := some 31, op := Op.extract (Operand.tmp 24) 1, type := 22, pos := "law.go:25", after := #[{ on := 5, ground := Ground.data }, { on := 11, ground := Ground.gcOnly Departure.lateStores }], guard := none }) (v := .agg (u8s b).toArray) rfl (by kernel_rfl) (by kernel_rfl) (by kernel_rfl) (fun _ _ _ h => h) (Or.inl ⟨by rfl, fun _ _ => rfl⟩) (by assumption) ?qz3357
          try simp only [Act.put, List.setIfInBounds_toArray, List.set_cons_zero, List.set_cons_succ]
          refine' wpAnyH_take (i := 8) (oi := { dst := some 32, op := Op.extract (Operand.tmp 24) 2, type := 4, pos := "law.go:25", after := #[{ on := 5, ground := Ground.data }, { on := 12, ground := Ground.gcOnly Departure.lateStores }], guard := none }) (v := .bool true) rfl (by kernel_rfl) (by kernel_rfl) (by kernel_rfl) (fun _ _ _ h => h) (Or.inl ⟨by rfl, fun _ _ => rfl⟩) (by assumption) ?qz3358
          try simp only [Act.put, List.setIfInBounds_toArray, List.set_cons_zero, List.set_cons_succ]
          refine wpAnyH_ready (rs := [11]) (by kernel_rfl) (by simp) ?_
          refine AllReadyH.cons (o := { dst := none, op := Op.store 22 (Operand.tmp 10) (Operand.tmp 30), type := 0, pos := "law.go:25", after := #[{ on := 9, ground := Ground.data }, { on := 6, ground := Ground.data }, { on := 4, ground := Ground.chain }, { on := 0, ground := Ground.phase }, { on := 1, ground := Ground.phase }, { on := 2, ground := Ground.phase }, { on := 3, ground := Ground.phase }, { on := 4, ground := Ground.phase }, { on := 5, ground := Ground.phase }, { on := 6, ground := Ground.phase }, { on := 7, ground := Ground.textOnly Departure.lateStores }, { on := 8, ground := Ground.textOnly Departure.lateStores }, { on := 9, ground := Ground.phase }, { on := 10, ground := Ground.phase }], guard := none }) rfl (fun K hK => ?_) AllReadyH.nil
          rw [if_pos (by rfl)]
          refine wp_storeG agA _ _ rfl g10 rfl rfl (nbz3354) (by rw [u8s_length, z32_length]) (by rw [u8s_length, HAL.out]) (u8s_one _) (fun vz3359 kz3360 qz3361 zz3362 => ?_)
          have Gz3363 : w5.grownBy vz3359 none := World.grownBy.andThen (Gz3352) qz3361.out (by rintro _ ⟨⟩; exact .inl hwg10)
          have nbz3364 := (nbz3353).grown qz3361.out (by simpa using ne9_10)
          refine hK.out _ _ ⟨range_of (B4b.out.grown (Gz3363) (by simp)), range_of (B5b.out.grown (Gz3363) (by simp))⟩ (fun hHeld => ?_)
          clear hK K
          dsimp only [Act.put]
          refine wpAnyH_ready (rs := [12]) (by kernel_rfl) (by simp) ?_
          refine AllReadyH.cons (o := { dst := none, op := Op.store 22 (Operand.tmp 11) (Operand.tmp 31), type := 0, pos := "law.go:25", after := #[{ on := 10, ground := Ground.data }, { on := 7, ground := Ground.data }, { on := 11, ground := Ground.chain }, { on := 0, ground := Ground.phase }, { on := 1, ground := Ground.phase }, { on := 2, ground := Ground.phase }, { on := 3, ground := Ground.phase }, { on := 4, ground := Ground.phase }, { on := 5, ground := Ground.phase }, { on := 6, ground := Ground.phase }, { on := 7, ground := Ground.phase }, { on := 8, ground := Ground.textOnly Departure.lateStores }, { on := 9, ground := Ground.phase }, { on := 10, ground := Ground.phase }, { on := 11, ground := Ground.phase }], guard := none }) rfl (fun K hK => ?_) AllReadyH.nil
          rw [if_pos (by rfl)]
          refine wp_storeG agA _ _ rfl g11 rfl rfl (nbz3364) (by rw [u8s_length, z32_length]) (by rw [u8s_length, HBL.out]) (u8s_one _) (fun vz3365 kz3366 qz3367 zz3368 => ?_)
          have Gz3369 : w5.grownBy vz3365 none := World.grownBy.andThen (Gz3363) qz3367.out (by rintro _ ⟨⟩; exact .inl hwg11)
          have nbz3370 := (kz3360.out).grown qz3367.out (by simpa using (Ne.symm ne9_10))
          refine hK.out _ _ ⟨range_of (B4b.out.grown (Gz3369) (by simp)), range_of (B5b.out.grown (Gz3369) (by simp))⟩ (fun hHeld => ?_)
          clear hK K
          dsimp only [Act.put]
          refine wpAnyH_ready (rs := [13]) (by kernel_rfl) (by simp) ?_
          refine AllReadyH.cons (o := { dst := some 12, op := Op.assign (Operand.tmp 32), type := 4, pos := "law.go:25", after := #[{ on := 8, ground := Ground.data }, { on := 12, ground := Ground.chain }, { on := 0, ground := Ground.phase }, { on := 1, ground := Ground.phase }, { on := 2, ground := Ground.phase }, { on := 3, ground := Ground.phase }, { on := 4, ground := Ground.phase }, { on := 5, ground := Ground.phase }, { on := 6, ground := Ground.phase }, { on := 7, ground := Ground.phase }, { on := 8, ground := Ground.phase }, { on := 9, ground := Ground.phase }, { on := 10, ground := Ground.phase }, { on := 11, ground := Ground.phase }, { on := 12, ground := Ground.phase }], guard := none }) rfl (fun K hK => ?_) AllReadyH.nil
          rw [if_pos (by rfl)]
          go_simp
          refine hK.out _ _ hHeld (fun hHeld => ?_)
          clear hK K
          try simp only [Act.put, List.setIfInBounds_toArray, List.set_cons_zero, List.set_cons_succ]
          refine wpAnyH_done (by kernel_rfl) ?_ _
          exact hrest2_ _ g10 g11 p ⟨Gz3369, nbz3370, kz3366.out⟩
    · intro w6 g10 g11 p2 ⟨hg6, hb10, hb11⟩
      have G6 := Lib.hid (G5.out.trans hg6)
      have B7b := Lib.hid (B7.out.grown hg6 (by simp))
      have B8b := Lib.hid (B8.out.grown hg6 (by simp))
      have B10 := Lib.hid hb10
      have B11 := Lib.hid hb11
      clear hg6 hb10 hb11
      go_wp2_with (first | (refine wpList_loadGw agY (by rfl) (.tmp 7) rfl g7 rfl B7b.out (by rw [u8s_length, HAL.out]) ?_) | (refine wpList_loadGw agA (by rfl) (.tmp 10) rfl g10 rfl B10.out (by rw [u8s_length, HAL.out]) ?_) | (refine wpList_eqs (eqsY HAL.out) (by rfl) (.tmp 33) (.tmp 34) rfl rfl rfl ?_) | (refine wpList_loadGw agY (by rfl) (.tmp 8) rfl g8 rfl B8b.out (by rw [u8s_length, HBL.out]) ?_) | (refine wpList_loadGw agA (by rfl) (.tmp 11) rfl g11 rfl B11.out (by rw [u8s_length, HBL.out]) ?_) | (refine wpList_eqs (eqsY HBL.out) (by rfl) (.tmp 37) (.tmp 38) rfl rfl rfl ?_) | fail)
      go_ret
      exact ⟨rfl, G6.out⟩
end Go.Proofs.YtdnkeaokgkiloaaDoor
