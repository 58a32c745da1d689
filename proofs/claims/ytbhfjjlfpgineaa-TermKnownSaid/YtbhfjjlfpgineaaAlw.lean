/- The document's example is told. Conditions: MaxLen holds some number. -/
import Derived.Test.YtbhfjjlfpgineaaAls
import Derived.Deep.RegionHeld3
namespace Go.Proofs.Ytbhfjjlfpgineaa
open Go.RowKit

section
variable {w : World}
set_option maxRecDepth 100000 in
set_option maxHeartbeats 4000000 in
theorem alive_any (hM : Mx w) : Calls Try.prog 8 #[] w fun e w' => e = .returned (.bool true) ∧ Below w.heap.size w w' := by
  have HMX := Lib.hid hM
  clear hM
  go_enter Try.func8, Try.ntmps8
  go_wp2_with fail
  go_at_call 9
  refine (new_any w).mono ?_
  intro e w1 hn
  obtain ⟨tb, rfl, m0⟩ := exm_new hn
  have M0 := Lib.hid m0
  clear hn m0
  have H1 := make_text M0.out 110 ex1 (by omega)
  rw [show (((110 : UInt8).toNat : Nat) : Int) = 110 from rfl, show ((1 : Nat) : Int) = 1 from rfl] at H1
  have H1 := Lib.hid H1
  have hcv1 := Lib.run_convert_bytes_const (P := Try.prog) w1 41 5 #[.int .u8 110] 1 1 Try.underlying41 Try.underlying5
  go_wp2_with fail
  go_at_call 21
  refine H1.out.mono ?_
  rintro e w12 ⟨rfl, m12⟩
  have N1 := Lib.hid m12
  clear m12 H1 hcv1
  go_wp2_with (first | (refine wpList_alloc32 i49 rfl rfl ?_) | fail)
  intro w13 ha1 hb1 hz1
  go_wp2_with (first | (refine wpList_store32 i49 rfl _ _ rfl w12.heap.size z32 (nm 1) rfl rfl ha1 z32_length (nm_length 1) w12.heap.size (Nat.le_refl _) ?_) | fail)
  intro w14 hk1 hc1 ho1 hy1
  have M1 := Lib.hid (N1.out.key (hb1.trans hc1) (Nat.le_refl _) hk1)
  obtain ⟨g1, hg1⟩ : ∃ g, w12.heap.size = g := ⟨_, rfl⟩
  rw [hg1] at M1 ⊢
  clear ha1 hb1 hk1 hc1 ho1 hy1 hz1 N1 hg1
  have H2 := make_text M1.out 109 ex2 (by omega)
  rw [show (((109 : UInt8).toNat : Nat) : Int) = 109 from rfl, show ((1 : Nat) : Int) = 1 from rfl] at H2
  have H2 := Lib.hid H2
  have hcv2 := Lib.run_convert_bytes_const (P := Try.prog) w14 41 5 #[.int .u8 109] 1 1 Try.underlying41 Try.underlying5
  go_wp2_with fail
  go_at_call 21
  refine H2.out.mono ?_
  rintro e w22 ⟨rfl, m22⟩
  have N2 := Lib.hid m22
  clear m22 H2 hcv2
  go_wp2_with (first | (refine wpList_alloc32 i49 rfl rfl ?_) | fail)
  intro w23 ha2 hb2 hz2
  go_wp2_with (first | (refine wpList_store32 i49 rfl _ _ rfl w22.heap.size z32 (nm 2) rfl rfl ha2 z32_length (nm_length 2) w22.heap.size (Nat.le_refl _) ?_) | fail)
  intro w24 hk2 hc2 ho2 hy2
  have M2 := Lib.hid (N2.out.key (hb2.trans hc2) (Nat.le_refl _) hk2)
  obtain ⟨g2, hg2⟩ : ∃ g, w22.heap.size = g := ⟨_, rfl⟩
  rw [hg2] at M2 ⊢
  clear ha2 hb2 hk2 hc2 ho2 hy2 hz2 N2 hg2
  have H3 := make_one (k := 2) (N := 3) (g := g1) (xs := nm 1) M2.out (by simp) (nm_length 1) ex3 (by omega)
  rw [show ((2 : Nat) : Int) = 2 from rfl] at H3
  have H3 := Lib.hid H3
  go_wp2_with fail
  go_at_call 21
  refine H3.out.mono ?_
  rintro e w32 ⟨rfl, m32⟩
  have N3 := Lib.hid m32
  clear m32 H3
  go_wp2_with (first | (refine wpList_alloc32 i49 rfl rfl ?_) | fail)
  intro w33 ha3 hb3 hz3
  go_wp2_with (first | (refine wpList_store32 i49 rfl _ _ rfl w32.heap.size z32 (nm 3) rfl rfl ha3 z32_length (nm_length 3) w32.heap.size (Nat.le_refl _) ?_) | fail)
  intro w34 hk3 hc3 ho3 hy3
  have M3 := Lib.hid (N3.out.key (hb3.trans hc3) (Nat.le_refl _) hk3)
  obtain ⟨g3, hg3⟩ : ∃ g, w32.heap.size = g := ⟨_, rfl⟩
  rw [hg3] at M3 ⊢
  clear ha3 hb3 hk3 hc3 ho3 hy3 hz3 N3 hg3
  go_wp2_with fail
  go_cut [8, 9] from 43 to 50 (fun s t wx => Stp w tb 4 (exT.take 4) [(g3, nm 3), (g2, nm 2), (g1, nm 1)] s t wx)
  case first =>
    have m0_ := M3.out.drew
    refine wp_region_held_drew (S := fun _ => True) (by kernel_rfl) trivial (fun hHeld => ?_)
    obtain ⟨v0, hv0_⟩ : ∃ v, v = World.drew w34 := ⟨_, rfl⟩
    rw [← hv0_] at m0_ ⊢
    have M0_ := Lib.hid m0_
    have HB0 := Lib.hid (Below.refl v0.heap.size v0)
    clear m0_ hv0_
    refine' wpAnyH_take (i := 0) (oi := { dst := some 44, op := Op.move (Operand.tmp 1), type := 24, pos := "law.go:20", after := #[], guard := none }) (v := .pointer (some ⟨tb, 0, none⟩)) rfl (by kernel_rfl) (by kernel_rfl) (by kernel_rfl) (fun _ _ _ h => h) (Or.inl ⟨by rfl, fun _ _ => rfl⟩) (by assumption) ?qz1
    try simp only [Act.put, List.setIfInBounds_toArray, List.set_cons_zero, List.set_cons_succ]
    refine' wpAnyH_take (i := 1) (oi := { dst := some 45, op := Op.slice 49 (Operand.tmp 2) none none none, type := 41, pos := "law.go:20", after := #[], guard := none }) (v := .slice (some ⟨g1, 0, none⟩) 32 32) rfl (by kernel_rfl) (by kernel_rfl) (by kernel_rfl) (fun _ _ _ h => h) (Or.inl ⟨by rfl, fun w' hSw => by go_simp⟩) (by assumption) ?qz2
    try simp only [Act.put, List.setIfInBounds_toArray, List.set_cons_zero, List.set_cons_succ]
    refine' wpAnyH_take (i := 2) (oi := { dst := some 46, op := Op.slice 49 (Operand.tmp 4) none none none, type := 41, pos := "law.go:20", after := #[], guard := none }) (v := .slice (some ⟨g2, 0, none⟩) 32 32) rfl (by kernel_rfl) (by kernel_rfl) (by kernel_rfl) (fun _ _ _ h => h) (Or.inl ⟨by rfl, fun w' hSw => by go_simp⟩) (by assumption) ?qz3
    try simp only [Act.put, List.setIfInBounds_toArray, List.set_cons_zero, List.set_cons_succ]
    refine wpAnyH_ready (rs := [3, 8]) (by kernel_rfl) (by simp) ?_
    refine AllReadyH.cons (o := { dst := some 47, op := Op.buildSlice 31 2 #[(0, Operand.tmp 45), (1, Operand.tmp 46)], type := 31, pos := "law.go:20", after := #[{ on := 1, ground := Ground.data }, { on := 2, ground := Ground.data }], guard := none }) rfl (fun K hK => ?_) (AllReadyH.cons (o := { dst := some 8, op := Op.alloc 49, type := 0, pos := "law.go:20", after := #[], guard := none }) rfl (fun K hK => ?_) AllReadyH.nil)
    · rw [if_pos (by rfl)]
      go_simp
      have hbl_ := below_alc v0 (.cells #[.slice (some ⟨g1, 0, none⟩) 32 32, .slice (some ⟨g2, 0, none⟩) 32 32] 41)
      have hnew_ := lst2 (M0_.out.up HB0.out) (g := g1) (g2 := g2) (xs := nm 1) (ys := nm 2) (by simp) (nm_length 1) (by simp) (nm_length 2)
      have HBz6 := Lib.hid (HB0.out.trans ((hbl_).mono HB0.out.size))
      obtain ⟨wz4, hw_⟩ : ∃ w', v0.alloc (.cells #[.slice (some ⟨g1, 0, none⟩) 32 32, .slice (some ⟨g2, 0, none⟩) 32 32] 41) = w' := ⟨_, rfl⟩
      rw [hw_] at HBz6 hnew_ ⊢
      obtain ⟨gbz5, hg_⟩ : ∃ g, v0.heap.size = g := ⟨_, rfl⟩
      rw [hg_] at hnew_ ⊢
      have HNz7 := Lib.hid hnew_
      clear hbl_ hw_ hg_ hnew_
      refine hK.out _ _ trivial (fun hHeld => ?_)
      clear hK K
      try simp only [Act.put, List.setIfInBounds_toArray, List.set_cons_zero, List.set_cons_succ]
      refine wpAnyH_ready (rs := [4, 8]) (by kernel_rfl) (by simp) ?_
      refine AllReadyH.cons (o := { dst := some 48, op := Op.call { callee := Callee.value (Operand.func 21), args := #[Operand.tmp 44, Operand.const (Value.int IntKind.i64 3), Operand.tmp 47], argTypes := #[24, 3, 31] }, type := 62, pos := "law.go:20", after := #[{ on := 0, ground := Ground.data }, { on := 3, ground := Ground.data }], guard := none }) rfl (fun K hK => ?_) (AllReadyH.cons (o := { dst := some 8, op := Op.alloc 49, type := 0, pos := "law.go:20", after := #[], guard := none }) rfl (fun K hK => ?_) AllReadyH.nil)
      · rw [if_pos (by rfl)]
        go_simp
        have hc_ := exm_make (k := 3) (N := 4) (n := 2) (c := 2) (M0_.out.up HBz6.out) HNz7.out rfl (by omega) ex4 (by omega)
        rw [show ((3 : Nat) : Int) = 3 from rfl] at hc_
        with_reducible refine hc_.mono ?_
        rintro _ wz8 ⟨rfl, hE_⟩
        have HEz9 := Lib.hid hE_
        clear hc_ hE_
        refine hK.out _ _ trivial (fun hHeld => ?_)
        clear hK K
        try simp only [Act.put, List.setIfInBounds_toArray, List.set_cons_zero, List.set_cons_succ]
        refine' wpAnyH_take (i := 5) (oi := { dst := some 43, op := Op.move (Operand.tmp 48), type := 62, pos := "law.go:20", after := #[{ on := 4, ground := Ground.data }], guard := none }) (v := _) rfl (by kernel_rfl) (by kernel_rfl) (by kernel_rfl) (fun _ _ _ h => h) (Or.inl ⟨by rfl, fun _ _ => rfl⟩) (by assumption) ?qz10
        try simp only [Act.put, List.setIfInBounds_toArray, List.set_cons_zero, List.set_cons_succ]
        refine' wpAnyH_take (i := 6) (oi := { dst := some 49, op := Op.extract (Operand.tmp 43) 0, type := 49, pos := "law.go:20", after := #[{ on := 5, ground := Ground.data }], guard := none }) (v := .agg (u8s (nm 4)).toArray) rfl (by kernel_rfl) (by kernel_rfl) (by kernel_rfl) (fun _ _ _ h => h) (Or.inl ⟨by rfl, fun _ _ => rfl⟩) (by assumption) ?qz11
        try simp only [Act.put, List.setIfInBounds_toArray, List.set_cons_zero, List.set_cons_succ]
        refine' wpAnyH_take (i := 7) (oi := { dst := some 50, op := Op.extract (Operand.tmp 43) 1, type := 4, pos := "law.go:20", after := #[{ on := 5, ground := Ground.data }, { on := 9, ground := Ground.gcOnly Departure.lateStores }], guard := none }) (v := .bool true) rfl (by kernel_rfl) (by kernel_rfl) (by kernel_rfl) (fun _ _ _ h => h) (Or.inl ⟨by rfl, fun _ _ => rfl⟩) (by assumption) ?qz12
        try simp only [Act.put, List.setIfInBounds_toArray, List.set_cons_zero, List.set_cons_succ]
        refine wpAnyH_ready (rs := [8]) (by kernel_rfl) (by simp) ?_
        refine AllReadyH.cons (o := { dst := some 8, op := Op.alloc 49, type := 0, pos := "law.go:20", after := #[], guard := none }) rfl (fun K hK => ?_) AllReadyH.nil
        rw [if_pos (by rfl)]
        refine op_alloc49 rfl ?_
        intro wz13 hA1_ hA2_
        have HEz15 := Lib.hid (exa_alloc HEz9.out hA1_ hA2_)
        obtain ⟨gnz14, hg_⟩ : ∃ g, wz8.heap.size = g := ⟨_, rfl⟩
        rw [hg_] at HEz15 ⊢
        clear hA1_ hA2_ hg_
        refine hK.out _ _ trivial (fun hHeld => ?_)
        clear hK K
        try simp only [Act.put, List.setIfInBounds_toArray, List.set_cons_zero, List.set_cons_succ]
        refine wpAnyH_ready (rs := [9]) (by kernel_rfl) (by simp) ?_
        refine AllReadyH.cons (o := { dst := none, op := Op.store 49 (Operand.tmp 8) (Operand.tmp 49), type := 0, pos := "law.go:20", after := #[{ on := 8, ground := Ground.data }, { on := 6, ground := Ground.data }, { on := 4, ground := Ground.chain }, { on := 0, ground := Ground.phase }, { on := 1, ground := Ground.phase }, { on := 2, ground := Ground.phase }, { on := 3, ground := Ground.phase }, { on := 4, ground := Ground.phase }, { on := 5, ground := Ground.phase }, { on := 6, ground := Ground.phase }, { on := 7, ground := Ground.textOnly Departure.lateStores }, { on := 8, ground := Ground.phase }], guard := none }) rfl (fun K hK => ?_) AllReadyH.nil
        rw [if_pos (by rfl)]
        refine op_store49 _ _ rfl gnz14 z32 (nm 4) rfl rfl (HEz15.out.1.keys (gnz14, z32) (by simp)).1 z32_length (nm_length 4) ?_
        intro wz16 hs1_ hs2_ hs3_
        have HEz17 := Lib.hid (exa_store HEz15.out hs1_ hs2_ hs3_)
        clear hs1_ hs2_ hs3_
        refine hK.out _ _ trivial (fun hHeld => ?_)
        clear hK K
        dsimp only [Act.put]
        refine wpAnyH_ready (rs := [10]) (by kernel_rfl) (by simp) ?_
        refine AllReadyH.cons (o := { dst := some 9, op := Op.assign (Operand.tmp 50), type := 4, pos := "law.go:20", after := #[{ on := 7, ground := Ground.data }, { on := 9, ground := Ground.chain }, { on := 0, ground := Ground.phase }, { on := 1, ground := Ground.phase }, { on := 2, ground := Ground.phase }, { on := 3, ground := Ground.phase }, { on := 4, ground := Ground.phase }, { on := 5, ground := Ground.phase }, { on := 6, ground := Ground.phase }, { on := 7, ground := Ground.phase }, { on := 8, ground := Ground.phase }, { on := 9, ground := Ground.phase }], guard := none }) rfl (fun K hK => ?_) AllReadyH.nil
        rw [if_pos (by rfl)]
        go_simp
        refine hK.out _ _ trivial (fun hHeld => ?_)
        clear hK K
        try simp only [Act.put, List.setIfInBounds_toArray, List.set_cons_zero, List.set_cons_succ]
        refine wpAnyH_done (by kernel_rfl) ?_ _
        go_wp2_with (fail)
        go_meet
        case rel => exact ⟨rfl, gnz14, rfl, HEz17.out⟩
      · rw [if_pos (by rfl)]
        refine op_alloc49 rfl ?_
        intro wz18 hA1_ hA2_
        have HBz20 := Lib.hid (HBz6.out.trans ((hA2_).mono HBz6.out.size))
        have HLSz21 := Lib.hid (HNz7.out.up hA2_)
        have HARz22 := Lib.hid hA1_
        obtain ⟨gnz19, hg_⟩ : ∃ g, wz4.heap.size = g := ⟨_, rfl⟩
        have hG_ : v0.heap.size ≤ gnz19 := by rw [← hg_]; exact HBz6.out.size
        rw [hg_] at HARz22 ⊢
        have HGz24 := Lib.hid hG_
        clear hA1_ hA2_ hg_ hG_
        refine hK.out _ _ trivial (fun hHeld => ?_)
        clear hK K
        try simp only [Act.put, List.setIfInBounds_toArray, List.set_cons_zero, List.set_cons_succ]
        refine wpAnyH_ready (rs := [4]) (by kernel_rfl) (by simp) ?_
        refine AllReadyH.cons (o := { dst := some 48, op := Op.call { callee := Callee.value (Operand.func 21), args := #[Operand.tmp 44, Operand.const (Value.int IntKind.i64 3), Operand.tmp 47], argTypes := #[24, 3, 31] }, type := 62, pos := "law.go:20", after := #[{ on := 0, ground := Ground.data }, { on := 3, ground := Ground.data }], guard := none }) rfl (fun K hK => ?_) AllReadyH.nil
        rw [if_pos (by rfl)]
        go_simp
        have hc_ := exa_make (k := 3) (N := 4) (n := 2) (c := 2) (exa_of M0_.out HBz20.out HARz22.out HGz24.out) HLSz21.out rfl (by omega) ex4 (by omega)
        rw [show ((3 : Nat) : Int) = 3 from rfl] at hc_
        with_reducible refine hc_.mono ?_
        rintro _ wz25 ⟨rfl, hE_⟩
        have HEz26 := Lib.hid hE_
        clear hc_ hE_
        refine hK.out _ _ trivial (fun hHeld => ?_)
        clear hK K
        try simp only [Act.put, List.setIfInBounds_toArray, List.set_cons_zero, List.set_cons_succ]
        refine' wpAnyH_take (i := 5) (oi := { dst := some 43, op := Op.move (Operand.tmp 48), type := 62, pos := "law.go:20", after := #[{ on := 4, ground := Ground.data }], guard := none }) (v := _) rfl (by kernel_rfl) (by kernel_rfl) (by kernel_rfl) (fun _ _ _ h => h) (Or.inl ⟨by rfl, fun _ _ => rfl⟩) (by assumption) ?qz27
        try simp only [Act.put, List.setIfInBounds_toArray, List.set_cons_zero, List.set_cons_succ]
        refine' wpAnyH_take (i := 6) (oi := { dst := some 49, op := Op.extract (Operand.tmp 43) 0, type := 49, pos := "law.go:20", after := #[{ on := 5, ground := Ground.data }], guard := none }) (v := .agg (u8s (nm 4)).toArray) rfl (by kernel_rfl) (by kernel_rfl) (by kernel_rfl) (fun _ _ _ h => h) (Or.inl ⟨by rfl, fun _ _ => rfl⟩) (by assumption) ?qz28
        try simp only [Act.put, List.setIfInBounds_toArray, List.set_cons_zero, List.set_cons_succ]
        refine' wpAnyH_take (i := 7) (oi := { dst := some 50, op := Op.extract (Operand.tmp 43) 1, type := 4, pos := "law.go:20", after := #[{ on := 5, ground := Ground.data }, { on := 9, ground := Ground.gcOnly Departure.lateStores }], guard := none }) (v := .bool true) rfl (by kernel_rfl) (by kernel_rfl) (by kernel_rfl) (fun _ _ _ h => h) (Or.inl ⟨by rfl, fun _ _ => rfl⟩) (by assumption) ?qz29
        try simp only [Act.put, List.setIfInBounds_toArray, List.set_cons_zero, List.set_cons_succ]
        refine wpAnyH_ready (rs := [9]) (by kernel_rfl) (by simp) ?_
        refine AllReadyH.cons (o := { dst := none, op := Op.store 49 (Operand.tmp 8) (Operand.tmp 49), type := 0, pos := "law.go:20", after := #[{ on := 8, ground := Ground.data }, { on := 6, ground := Ground.data }, { on := 4, ground := Ground.chain }, { on := 0, ground := Ground.phase }, { on := 1, ground := Ground.phase }, { on := 2, ground := Ground.phase }, { on := 3, ground := Ground.phase }, { on := 4, ground := Ground.phase }, { on := 5, ground := Ground.phase }, { on := 6, ground := Ground.phase }, { on := 7, ground := Ground.textOnly Departure.lateStores }, { on := 8, ground := Ground.phase }], guard := none }) rfl (fun K hK => ?_) AllReadyH.nil
        rw [if_pos (by rfl)]
        refine op_store49 _ _ rfl gnz19 z32 (nm 4) rfl rfl (HEz26.out.1.keys (gnz19, z32) (by simp)).1 z32_length (nm_length 4) ?_
        intro wz30 hs1_ hs2_ hs3_
        have HEz31 := Lib.hid (exa_store HEz26.out hs1_ hs2_ hs3_)
        clear hs1_ hs2_ hs3_
        refine hK.out _ _ trivial (fun hHeld => ?_)
        clear hK K
        dsimp only [Act.put]
        refine wpAnyH_ready (rs := [10]) (by kernel_rfl) (by simp) ?_
        refine AllReadyH.cons (o := { dst := some 9, op := Op.assign (Operand.tmp 50), type := 4, pos := "law.go:20", after := #[{ on := 7, ground := Ground.data }, { on := 9, ground := Ground.chain }, { on := 0, ground := Ground.phase }, { on := 1, ground := Ground.phase }, { on := 2, ground := Ground.phase }, { on := 3, ground := Ground.phase }, { on := 4, ground := Ground.phase }, { on := 5, ground := Ground.phase }, { on := 6, ground := Ground.phase }, { on := 7, ground := Ground.phase }, { on := 8, ground := Ground.phase }, { on := 9, ground := Ground.phase }], guard := none }) rfl (fun K hK => ?_) AllReadyH.nil
        rw [if_pos (by rfl)]
        go_simp
        refine hK.out _ _ trivial (fun hHeld => ?_)
        clear hK K
        try simp only [Act.put, List.setIfInBounds_toArray, List.set_cons_zero, List.set_cons_succ]
        refine wpAnyH_done (by kernel_rfl) ?_ _
        go_wp2_with (fail)
        go_meet
        case rel => exact ⟨rfl, gnz19, rfl, HEz31.out⟩
    · rw [if_pos (by rfl)]
      refine op_alloc49 rfl ?_
      intro wz32 hA1_ hA2_
      have HBz34 := Lib.hid (HB0.out.trans ((hA2_).mono HB0.out.size))
      have HARz35 := Lib.hid hA1_
      obtain ⟨gnz33, hg_⟩ : ∃ g, v0.heap.size = g := ⟨_, rfl⟩
      have hG_ : v0.heap.size ≤ gnz33 := by rw [← hg_]; exact HB0.out.size
      rw [hg_] at HARz35 ⊢
      have HGz37 := Lib.hid hG_
      clear hA1_ hA2_ hg_ hG_
      refine hK.out _ _ trivial (fun hHeld => ?_)
      clear hK K
      try simp only [Act.put, List.setIfInBounds_toArray, List.set_cons_zero, List.set_cons_succ]
      refine wpAnyH_ready (rs := [3]) (by kernel_rfl) (by simp) ?_
      refine AllReadyH.cons (o := { dst := some 47, op := Op.buildSlice 31 2 #[(0, Operand.tmp 45), (1, Operand.tmp 46)], type := 31, pos := "law.go:20", after := #[{ on := 1, ground := Ground.data }, { on := 2, ground := Ground.data }], guard := none }) rfl (fun K hK => ?_) AllReadyH.nil
      rw [if_pos (by rfl)]
      go_simp
      have hbl_ := below_alc wz32 (.cells #[.slice (some ⟨g1, 0, none⟩) 32 32, .slice (some ⟨g2, 0, none⟩) 32 32] 41)
      have hnew_ := lst2 (M0_.out.up HBz34.out) (g := g1) (g2 := g2) (xs := nm 1) (ys := nm 2) (by simp) (nm_length 1) (by simp) (nm_length 2)
      have HBz40 := Lib.hid (HBz34.out.trans ((hbl_).mono HBz34.out.size))
      have HARz41 := Lib.hid (((hbl_).block _ (Arr.lt HARz35.out)).trans HARz35.out)
      obtain ⟨wz38, hw_⟩ : ∃ w', wz32.alloc (.cells #[.slice (some ⟨g1, 0, none⟩) 32 32, .slice (some ⟨g2, 0, none⟩) 32 32] 41) = w' := ⟨_, rfl⟩
      rw [hw_] at HBz40 HARz41 hnew_ ⊢
      obtain ⟨gbz39, hg_⟩ : ∃ g, wz32.heap.size = g := ⟨_, rfl⟩
      rw [hg_] at hnew_ ⊢
      have HNz42 := Lib.hid hnew_
      clear hbl_ hw_ hg_ hnew_
      refine hK.out _ _ trivial (fun hHeld => ?_)
      clear hK K
      try simp only [Act.put, List.setIfInBounds_toArray, List.set_cons_zero, List.set_cons_succ]
      refine wpAnyH_ready (rs := [4]) (by kernel_rfl) (by simp) ?_
      refine AllReadyH.cons (o := { dst := some 48, op := Op.call { callee := Callee.value (Operand.func 21), args := #[Operand.tmp 44, Operand.const (Value.int IntKind.i64 3), Operand.tmp 47], argTypes := #[24, 3, 31] }, type := 62, pos := "law.go:20", after := #[{ on := 0, ground := Ground.data }, { on := 3, ground := Ground.data }], guard := none }) rfl (fun K hK => ?_) AllReadyH.nil
      rw [if_pos (by rfl)]
      go_simp
      have hc_ := exa_make (k := 3) (N := 4) (n := 2) (c := 2) (exa_of M0_.out HBz40.out HARz41.out HGz37.out) HNz42.out rfl (by omega) ex4 (by omega)
      rw [show ((3 : Nat) : Int) = 3 from rfl] at hc_
      with_reducible refine hc_.mono ?_
      rintro _ wz43 ⟨rfl, hE_⟩
      have HEz44 := Lib.hid hE_
      clear hc_ hE_
      refine hK.out _ _ trivial (fun hHeld => ?_)
      clear hK K
      try simp only [Act.put, List.setIfInBounds_toArray, List.set_cons_zero, List.set_cons_succ]
      refine' wpAnyH_take (i := 5) (oi := { dst := some 43, op := Op.move (Operand.tmp 48), type := 62, pos := "law.go:20", after := #[{ on := 4, ground := Ground.data }], guard := none }) (v := _) rfl (by kernel_rfl) (by kernel_rfl) (by kernel_rfl) (fun _ _ _ h => h) (Or.inl ⟨by rfl, fun _ _ => rfl⟩) (by assumption) ?qz45
      try simp only [Act.put, List.setIfInBounds_toArray, List.set_cons_zero, List.set_cons_succ]
      refine' wpAnyH_take (i := 6) (oi := { dst := some 49, op := Op.extract (Operand.tmp 43) 0, type := 49, pos := "law.go:20", after := #[{ on := 5, ground := Ground.data }], guard := none }) (v := .agg (u8s (nm 4)).toArray) rfl (by kernel_rfl) (by kernel_rfl) (by kernel_rfl) (fun _ _ _ h => h) (Or.inl ⟨by rfl, fun _ _ => rfl⟩) (by assumption) ?qz46
      try simp only [Act.put, List.setIfInBounds_toArray, List.set_cons_zero, List.set_cons_succ]
      refine' wpAnyH_take (i := 7) (oi := { dst := some 50, op := Op.extract (Operand.tmp 43) 1, type := 4, pos := "law.go:20", after := #[{ on := 5, ground := Ground.data }, { on := 9, ground := Ground.gcOnly Departure.lateStores }], guard := none }) (v := .bool true) rfl (by kernel_rfl) (by kernel_rfl) (by kernel_rfl) (fun _ _ _ h => h) (Or.inl ⟨by rfl, fun _ _ => rfl⟩) (by assumption) ?qz47
      try simp only [Act.put, List.setIfInBounds_toArray, List.set_cons_zero, List.set_cons_succ]
      refine wpAnyH_ready (rs := [9]) (by kernel_rfl) (by simp) ?_
      refine AllReadyH.cons (o := { dst := none, op := Op.store 49 (Operand.tmp 8) (Operand.tmp 49), type := 0, pos := "law.go:20", after := #[{ on := 8, ground := Ground.data }, { on := 6, ground := Ground.data }, { on := 4, ground := Ground.chain }, { on := 0, ground := Ground.phase }, { on := 1, ground := Ground.phase }, { on := 2, ground := Ground.phase }, { on := 3, ground := Ground.phase }, { on := 4, ground := Ground.phase }, { on := 5, ground := Ground.phase }, { on := 6, ground := Ground.phase }, { on := 7, ground := Ground.textOnly Departure.lateStores }, { on := 8, ground := Ground.phase }], guard := none }) rfl (fun K hK => ?_) AllReadyH.nil
      rw [if_pos (by rfl)]
      refine op_store49 _ _ rfl gnz33 z32 (nm 4) rfl rfl (HEz44.out.1.keys (gnz33, z32) (by simp)).1 z32_length (nm_length 4) ?_
      intro wz48 hs1_ hs2_ hs3_
      have HEz49 := Lib.hid (exa_store HEz44.out hs1_ hs2_ hs3_)
      clear hs1_ hs2_ hs3_
      refine hK.out _ _ trivial (fun hHeld => ?_)
      clear hK K
      dsimp only [Act.put]
      refine wpAnyH_ready (rs := [10]) (by kernel_rfl) (by simp) ?_
      refine AllReadyH.cons (o := { dst := some 9, op := Op.assign (Operand.tmp 50), type := 4, pos := "law.go:20", after := #[{ on := 7, ground := Ground.data }, { on := 9, ground := Ground.chain }, { on := 0, ground := Ground.phase }, { on := 1, ground := Ground.phase }, { on := 2, ground := Ground.phase }, { on := 3, ground := Ground.phase }, { on := 4, ground := Ground.phase }, { on := 5, ground := Ground.phase }, { on := 6, ground := Ground.phase }, { on := 7, ground := Ground.phase }, { on := 8, ground := Ground.phase }, { on := 9, ground := Ground.phase }], guard := none }) rfl (fun K hK => ?_) AllReadyH.nil
      rw [if_pos (by rfl)]
      go_simp
      refine hK.out _ _ trivial (fun hHeld => ?_)
      clear hK K
      try simp only [Act.put, List.setIfInBounds_toArray, List.set_cons_zero, List.set_cons_succ]
      refine wpAnyH_done (by kernel_rfl) ?_ _
      go_wp2_with (fail)
      go_meet
      case rel => exact ⟨rfl, gnz33, rfl, HEz49.out⟩
  case rest =>
    obtain ⟨rfl, g4, rfl, m4⟩ := hcut
    have M4 := Lib.hid m4
    clear m4
    have H5 := make_one (k := 7) (N := 5) (g := g4) (xs := nm 4) M4.out (by simp) (nm_length 4) ex5 (by omega)
    rw [show ((7 : Nat) : Int) = 7 from rfl] at H5
    have H5 := Lib.hid H5
    go_wp2_with fail
    go_at_call 21
    refine H5.out.mono ?_
    rintro e w52 ⟨rfl, m52⟩
    have N5 := Lib.hid m52
    clear m52 H5
    go_wp2_with (first | (refine wpList_alloc32 i49 rfl rfl ?_) | fail)
    intro w53 ha5 hb5 hz5
    go_wp2_with (first | (refine wpList_store32 i49 rfl _ _ rfl w52.heap.size z32 (nm 5) rfl rfl ha5 z32_length (nm_length 5) w52.heap.size (Nat.le_refl _) ?_) | fail)
    intro w54 hk5 hc5 ho5 hy5
    have M5 := Lib.hid (N5.out.key (hb5.trans hc5) (Nat.le_refl _) hk5)
    obtain ⟨g5, hg5⟩ : ∃ g, w52.heap.size = g := ⟨_, rfl⟩
    rw [hg5] at M5 ⊢
    clear ha5 hb5 hk5 hc5 ho5 hy5 hz5 N5 hg5
    go_wp2_with fail
    go_cut [12, 13] from 58 to 68 (fun s t wx => Stp w tb 6 exT [(g5, nm 5), (g4, nm 4), (g3, nm 3), (g2, nm 2), (g1, nm 1)] s t wx)
    case first =>
      have m0_ := M5.out.drew
      refine wp_region_held_drew (S := fun _ => True) (by kernel_rfl) trivial (fun hHeld => ?_)
      obtain ⟨v0, hv0_⟩ : ∃ v, v = World.drew w54 := ⟨_, rfl⟩
      rw [← hv0_] at m0_ ⊢
      have M0_ := Lib.hid m0_
      have HB0 := Lib.hid (Below.refl v0.heap.size v0)
      clear m0_ hv0_
      refine' wpAnyH_take (i := 0) (oi := { dst := some 59, op := Op.move (Operand.tmp 1), type := 24, pos := "law.go:22", after := #[], guard := none }) (v := .pointer (some ⟨tb, 0, none⟩)) rfl (by kernel_rfl) (by kernel_rfl) (by kernel_rfl) (fun _ _ _ h => h) (Or.inl ⟨by rfl, fun _ _ => rfl⟩) (by assumption) ?qz50
      try simp only [Act.put, List.setIfInBounds_toArray, List.set_cons_zero, List.set_cons_succ]
      refine' wpAnyH_take (i := 1) (oi := { dst := some 60, op := Op.slice 49 (Operand.tmp 10) none none none, type := 41, pos := "law.go:22", after := #[], guard := none }) (v := .slice (some ⟨g5, 0, none⟩) 32 32) rfl (by kernel_rfl) (by kernel_rfl) (by kernel_rfl) (fun _ _ _ h => h) (Or.inl ⟨by rfl, fun w' hSw => by go_simp⟩) (by assumption) ?qz51
      try simp only [Act.put, List.setIfInBounds_toArray, List.set_cons_zero, List.set_cons_succ]
      refine' wpAnyH_take (i := 4) (oi := { dst := some 63, op := Op.slice 49 (Operand.tmp 4) none none none, type := 41, pos := "law.go:22", after := #[], guard := none }) (v := .slice (some ⟨g2, 0, none⟩) 32 32) rfl (by kernel_rfl) (by kernel_rfl) (by kernel_rfl) (fun _ _ _ h => h) (Or.inl ⟨by rfl, fun w' hSw => by go_simp⟩) (by assumption) ?qz52
      try simp only [Act.put, List.setIfInBounds_toArray, List.set_cons_zero, List.set_cons_succ]
      refine wpAnyH_ready (rs := [2, 11]) (by kernel_rfl) (by simp) ?_
      refine AllReadyH.cons (o := { dst := some 61, op := Op.buildSlice 41 1 #[(0, Operand.const (Value.int IntKind.u8 120))], type := 41, pos := "law.go:22", after := #[], guard := none }) rfl (fun K hK => ?_) (AllReadyH.cons (o := { dst := some 12, op := Op.alloc 49, type := 0, pos := "law.go:22", after := #[], guard := none }) rfl (fun K hK => ?_) AllReadyH.nil)
      · rw [if_pos (by rfl)]
        go_simp
        have hbl_ := below_alc v0 (.cells #[.int .u8 120] 5)
        have hnew_ := txt_new v0 120
        rw [show (((120 : UInt8).toNat : Nat) : Int) = 120 from rfl] at hnew_
        have HBz55 := Lib.hid (HB0.out.trans ((hbl_).mono HB0.out.size))
        obtain ⟨wz53, hw_⟩ : ∃ w', v0.alloc (.cells #[.int .u8 120] 5) = w' := ⟨_, rfl⟩
        rw [hw_] at HBz55 hnew_ ⊢
        obtain ⟨gbz54, hg_⟩ : ∃ g, v0.heap.size = g := ⟨_, rfl⟩
        have XGz57 := Lib.hid (show v0.heap.size ≤ gbz54 by rw [← hg_]; exact HB0.out.size)
        rw [hg_] at hnew_ ⊢
        have HNz56 := Lib.hid hnew_
        clear hbl_ hw_ hg_ hnew_
        refine hK.out _ _ trivial (fun hHeld => ?_)
        clear hK K
        try simp only [Act.put, List.setIfInBounds_toArray, List.set_cons_zero, List.set_cons_succ]
        refine wpAnyH_ready (rs := [3, 11]) (by kernel_rfl) (by simp) ?_
        refine AllReadyH.cons (o := { dst := some 62, op := Op.convert 41 41 (Operand.tmp 61), type := 41, pos := "law.go:22", after := #[{ on := 2, ground := Ground.data }], guard := none }) rfl (fun K hK => ?_) (AllReadyH.cons (o := { dst := some 12, op := Op.alloc 49, type := 0, pos := "law.go:22", after := #[], guard := none }) rfl (fun K hK => ?_) AllReadyH.nil)
        · rw [if_pos (by rfl)]
          refine op_mark _ rfl gbz54 1 1 120 rfl HNz56.out ?_
          intro wz58 hs1_ hs2_ hs3_
          have HBz59 := Lib.hid (HBz55.out.trans (hs3_ _ XGz57.out))
          have HBXz60 := Lib.hid hs2_
          clear hs1_ hs2_ hs3_
          refine hK.out _ _ trivial (fun hHeld => ?_)
          clear hK K
          try simp only [Act.put, List.setIfInBounds_toArray, List.set_cons_zero, List.set_cons_succ]
          refine wpAnyH_ready (rs := [5, 11]) (by kernel_rfl) (by simp) ?_
          refine AllReadyH.cons (o := { dst := some 64, op := Op.call { callee := Callee.builtin Builtin.append, args := #[Operand.tmp 62, Operand.tmp 63], argTypes := #[41, 41] }, type := 41, pos := "law.go:22", after := #[{ on := 3, ground := Ground.data }, { on := 4, ground := Ground.data }], guard := none }) rfl (fun K hK => ?_) (AllReadyH.cons (o := { dst := some 12, op := Op.alloc 49, type := 0, pos := "law.go:22", after := #[], guard := none }) rfl (fun K hK => ?_) AllReadyH.nil)
          · rw [if_pos (by rfl)]
            refine op_append _ _ rfl _ _ 1 32 32 [120] (nm 2) rfl rfl HBXz60.out (key_byt (M0_.out.up HBz59.out) (g := g2) (xs := nm 2) (by simp) (nm_length 2)).2.2 rfl (nm_length 2) (by omega) (by omega) (by omega) ?_
            intro Az62 cz63 wz61 hb_ hx_ hc1_ hc2_
            have HBz64 := Lib.hid (HBz59.out.trans ((hb_).mono HBz59.out.size))
            have HBAz65 := Lib.hid hx_
            have HCz66 := Lib.hid (And.intro hc1_ hc2_)
            clear hb_ hx_ hc1_ hc2_
            refine hK.out _ _ trivial (fun hHeld => ?_)
            clear hK K
            try simp only [Act.put, List.setIfInBounds_toArray, List.set_cons_zero, List.set_cons_succ]
            refine wpAnyH_ready (rs := [6, 11]) (by kernel_rfl) (by simp) ?_
            refine AllReadyH.cons (o := { dst := some 65, op := Op.buildSlice 31 2 #[(0, Operand.tmp 60), (1, Operand.tmp 64)], type := 31, pos := "law.go:22", after := #[{ on := 1, ground := Ground.data }, { on := 5, ground := Ground.data }], guard := none }) rfl (fun K hK => ?_) (AllReadyH.cons (o := { dst := some 12, op := Op.alloc 49, type := 0, pos := "law.go:22", after := #[], guard := none }) rfl (fun K hK => ?_) AllReadyH.nil)
            · rw [if_pos (by rfl)]
              go_simp
              have hbl_ := below_alc wz61 (.cells #[.slice (some ⟨g5, 0, none⟩) 32 32, .slice Az62 33 cz63] 41)
              have hnew_ := lst9 (M0_.out.up HBz64.out) (g := g5) (xs := nm 5) (by simp) (nm_length 5) HBAz65.out HCz66.out (by simp [nm_length])
              have HBz69 := Lib.hid (HBz64.out.trans ((hbl_).mono HBz64.out.size))
              have HBAz70 := Lib.hid (HBAz65.out.up hbl_)
              obtain ⟨wz67, hw_⟩ : ∃ w', wz61.alloc (.cells #[.slice (some ⟨g5, 0, none⟩) 32 32, .slice Az62 33 cz63] 41) = w' := ⟨_, rfl⟩
              rw [hw_] at HBz69 HBAz70 hnew_ ⊢
              obtain ⟨gbz68, hg_⟩ : ∃ g, wz61.heap.size = g := ⟨_, rfl⟩
              rw [hg_] at hnew_ ⊢
              have HNz71 := Lib.hid hnew_
              clear hbl_ hw_ hg_ hnew_
              refine hK.out _ _ trivial (fun hHeld => ?_)
              clear hK K
              try simp only [Act.put, List.setIfInBounds_toArray, List.set_cons_zero, List.set_cons_succ]
              refine wpAnyH_ready (rs := [7, 11]) (by kernel_rfl) (by simp) ?_
              refine AllReadyH.cons (o := { dst := some 66, op := Op.call { callee := Callee.value (Operand.func 21), args := #[Operand.tmp 59, Operand.const (Value.int IntKind.i64 8), Operand.tmp 65], argTypes := #[24, 3, 31] }, type := 62, pos := "law.go:22", after := #[{ on := 0, ground := Ground.data }, { on := 6, ground := Ground.data }, { on := 5, ground := Ground.chain }], guard := none }) rfl (fun K hK => ?_) (AllReadyH.cons (o := { dst := some 12, op := Op.alloc 49, type := 0, pos := "law.go:22", after := #[], guard := none }) rfl (fun K hK => ?_) AllReadyH.nil)
              · rw [if_pos (by rfl)]
                go_simp
                have hc_ := exm_make (k := 8) (N := 6) (n := 2) (c := 2) (M0_.out.up HBz69.out) HNz71.out rfl (by omega) ex6 (by omega)
                rw [show ((8 : Nat) : Int) = 8 from rfl] at hc_
                with_reducible refine hc_.mono ?_
                rintro _ wz72 ⟨rfl, hE_⟩
                have HEz73 := Lib.hid hE_
                clear hc_ hE_
                refine hK.out _ _ trivial (fun hHeld => ?_)
                clear hK K
                try simp only [Act.put, List.setIfInBounds_toArray, List.set_cons_zero, List.set_cons_succ]
                refine' wpAnyH_take (i := 8) (oi := { dst := some 58, op := Op.move (Operand.tmp 66), type := 62, pos := "law.go:22", after := #[{ on := 7, ground := Ground.data }], guard := none }) (v := _) rfl (by kernel_rfl) (by kernel_rfl) (by kernel_rfl) (fun _ _ _ h => h) (Or.inl ⟨by rfl, fun _ _ => rfl⟩) (by assumption) ?qz74
                try simp only [Act.put, List.setIfInBounds_toArray, List.set_cons_zero, List.set_cons_succ]
                refine' wpAnyH_take (i := 9) (oi := { dst := some 67, op := Op.extract (Operand.tmp 58) 0, type := 49, pos := "law.go:22", after := #[{ on := 8, ground := Ground.data }], guard := none }) (v := .agg (u8s (nm 6)).toArray) rfl (by kernel_rfl) (by kernel_rfl) (by kernel_rfl) (fun _ _ _ h => h) (Or.inl ⟨by rfl, fun _ _ => rfl⟩) (by assumption) ?qz75
                try simp only [Act.put, List.setIfInBounds_toArray, List.set_cons_zero, List.set_cons_succ]
                refine' wpAnyH_take (i := 10) (oi := { dst := some 68, op := Op.extract (Operand.tmp 58) 1, type := 4, pos := "law.go:22", after := #[{ on := 8, ground := Ground.data }, { on := 12, ground := Ground.gcOnly Departure.lateStores }], guard := none }) (v := .bool true) rfl (by kernel_rfl) (by kernel_rfl) (by kernel_rfl) (fun _ _ _ h => h) (Or.inl ⟨by rfl, fun _ _ => rfl⟩) (by assumption) ?qz76
                try simp only [Act.put, List.setIfInBounds_toArray, List.set_cons_zero, List.set_cons_succ]
                refine wpAnyH_ready (rs := [11]) (by kernel_rfl) (by simp) ?_
                refine AllReadyH.cons (o := { dst := some 12, op := Op.alloc 49, type := 0, pos := "law.go:22", after := #[], guard := none }) rfl (fun K hK => ?_) AllReadyH.nil
                rw [if_pos (by rfl)]
                refine op_alloc49 rfl ?_
                intro wz77 hA1_ hA2_
                have HEz79 := Lib.hid (exa_alloc HEz73.out hA1_ hA2_)
                obtain ⟨gnz78, hg_⟩ : ∃ g, wz72.heap.size = g := ⟨_, rfl⟩
                rw [hg_] at HEz79 ⊢
                clear hA1_ hA2_ hg_
                refine hK.out _ _ trivial (fun hHeld => ?_)
                clear hK K
                try simp only [Act.put, List.setIfInBounds_toArray, List.set_cons_zero, List.set_cons_succ]
                refine wpAnyH_ready (rs := [12]) (by kernel_rfl) (by simp) ?_
                refine AllReadyH.cons (o := { dst := none, op := Op.store 49 (Operand.tmp 12) (Operand.tmp 67), type := 0, pos := "law.go:22", after := #[{ on := 11, ground := Ground.data }, { on := 9, ground := Ground.data }, { on := 7, ground := Ground.chain }, { on := 0, ground := Ground.phase }, { on := 1, ground := Ground.phase }, { on := 2, ground := Ground.phase }, { on := 3, ground := Ground.phase }, { on := 4, ground := Ground.phase }, { on := 5, ground := Ground.phase }, { on := 6, ground := Ground.phase }, { on := 7, ground := Ground.phase }, { on := 8, ground := Ground.phase }, { on := 9, ground := Ground.phase }, { on := 10, ground := Ground.textOnly Departure.lateStores }, { on := 11, ground := Ground.phase }], guard := none }) rfl (fun K hK => ?_) AllReadyH.nil
                rw [if_pos (by rfl)]
                refine op_store49 _ _ rfl gnz78 z32 (nm 6) rfl rfl (HEz79.out.1.keys (gnz78, z32) (by simp)).1 z32_length (nm_length 6) ?_
                intro wz80 hs1_ hs2_ hs3_
                have HEz81 := Lib.hid (exa_store HEz79.out hs1_ hs2_ hs3_)
                clear hs1_ hs2_ hs3_
                refine hK.out _ _ trivial (fun hHeld => ?_)
                clear hK K
                dsimp only [Act.put]
                refine wpAnyH_ready (rs := [13]) (by kernel_rfl) (by simp) ?_
                refine AllReadyH.cons (o := { dst := some 13, op := Op.assign (Operand.tmp 68), type := 4, pos := "law.go:22", after := #[{ on := 10, ground := Ground.data }, { on := 12, ground := Ground.chain }, { on := 0, ground := Ground.phase }, { on := 1, ground := Ground.phase }, { on := 2, ground := Ground.phase }, { on := 3, ground := Ground.phase }, { on := 4, ground := Ground.phase }, { on := 5, ground := Ground.phase }, { on := 6, ground := Ground.phase }, { on := 7, ground := Ground.phase }, { on := 8, ground := Ground.phase }, { on := 9, ground := Ground.phase }, { on := 10, ground := Ground.phase }, { on := 11, ground := Ground.phase }, { on := 12, ground := Ground.phase }], guard := none }) rfl (fun K hK => ?_) AllReadyH.nil
                rw [if_pos (by rfl)]
                go_simp
                refine hK.out _ _ trivial (fun hHeld => ?_)
                clear hK K
                try simp only [Act.put, List.setIfInBounds_toArray, List.set_cons_zero, List.set_cons_succ]
                refine wpAnyH_done (by kernel_rfl) ?_ _
                go_wp2_with (fail)
                go_meet
                case rel => exact ⟨rfl, gnz78, rfl, HEz81.out⟩
              · rw [if_pos (by rfl)]
                refine op_alloc49 rfl ?_
                intro wz82 hA1_ hA2_
                have HBz84 := Lib.hid (HBz69.out.trans ((hA2_).mono HBz69.out.size))
                have HLSz85 := Lib.hid (HNz71.out.up hA2_)
                have HBAz86 := Lib.hid (HBAz70.out.up hA2_)
                have HARz87 := Lib.hid hA1_
                obtain ⟨gnz83, hg_⟩ : ∃ g, wz67.heap.size = g := ⟨_, rfl⟩
                have hG_ : v0.heap.size ≤ gnz83 := by rw [← hg_]; exact HBz69.out.size
                rw [hg_] at HARz87 ⊢
                have HGz89 := Lib.hid hG_
                clear hA1_ hA2_ hg_ hG_
                refine hK.out _ _ trivial (fun hHeld => ?_)
                clear hK K
                try simp only [Act.put, List.setIfInBounds_toArray, List.set_cons_zero, List.set_cons_succ]
                refine wpAnyH_ready (rs := [7]) (by kernel_rfl) (by simp) ?_
                refine AllReadyH.cons (o := { dst := some 66, op := Op.call { callee := Callee.value (Operand.func 21), args := #[Operand.tmp 59, Operand.const (Value.int IntKind.i64 8), Operand.tmp 65], argTypes := #[24, 3, 31] }, type := 62, pos := "law.go:22", after := #[{ on := 0, ground := Ground.data }, { on := 6, ground := Ground.data }, { on := 5, ground := Ground.chain }], guard := none }) rfl (fun K hK => ?_) AllReadyH.nil
                rw [if_pos (by rfl)]
                go_simp
                have hc_ := exa_make (k := 8) (N := 6) (n := 2) (c := 2) (exa_of M0_.out HBz84.out HARz87.out HGz89.out) HLSz85.out rfl (by omega) ex6 (by omega)
                rw [show ((8 : Nat) : Int) = 8 from rfl] at hc_
                with_reducible refine hc_.mono ?_
                rintro _ wz90 ⟨rfl, hE_⟩
                have HEz91 := Lib.hid hE_
                clear hc_ hE_
                refine hK.out _ _ trivial (fun hHeld => ?_)
                clear hK K
                try simp only [Act.put, List.setIfInBounds_toArray, List.set_cons_zero, List.set_cons_succ]
                refine' wpAnyH_take (i := 8) (oi := { dst := some 58, op := Op.move (Operand.tmp 66), type := 62, pos := "law.go:22", after := #[{ on := 7, ground := Ground.data }], guard := none }) (v := _) rfl (by kernel_rfl) (by kernel_rfl) (by kernel_rfl) (fun _ _ _ h => h) (Or.inl ⟨by rfl, fun _ _ => rfl⟩) (by assumption) ?qz92
                try simp only [Act.put, List.setIfInBounds_toArray, List.set_cons_zero, List.set_cons_succ]
                refine' wpAnyH_take (i := 9) (oi := { dst := some 67, op := Op.extract (Operand.tmp 58) 0, type := 49, pos := "law.go:22", after := #[{ on := 8, ground := Ground.data }], guard := none }) (v := .agg (u8s (nm 6)).toArray) rfl (by kernel_rfl) (by kernel_rfl) (by kernel_rfl) (fun _ _ _ h => h) (Or.inl ⟨by rfl, fun _ _ => rfl⟩) (by assumption) ?qz93
                try simp only [Act.put, List.setIfInBounds_toArray, List.set_cons_zero, List.set_cons_succ]
                refine' wpAnyH_take (i := 10) (oi := { dst := some 68, op := Op.extract (Operand.tmp 58) 1, type := 4, pos := "law.go:22", after := #[{ on := 8, ground := Ground.data }, { on := 12, ground := Ground.gcOnly Departure.lateStores }], guard := none }) (v := .bool true) rfl (by kernel_rfl) (by kernel_rfl) (by kernel_rfl) (fun _ _ _ h => h) (Or.inl ⟨by rfl, fun _ _ => rfl⟩) (by assumption) ?qz94
                try simp only [Act.put, List.setIfInBounds_toArray, List.set_cons_zero, List.set_cons_succ]
                refine wpAnyH_ready (rs := [12]) (by kernel_rfl) (by simp) ?_
                refine AllReadyH.cons (o := { dst := none, op := Op.store 49 (Operand.tmp 12) (Operand.tmp 67), type := 0, pos := "law.go:22", after := #[{ on := 11, ground := Ground.data }, { on := 9, ground := Ground.data }, { on := 7, ground := Ground.chain }, { on := 0, ground := Ground.phase }, { on := 1, ground := Ground.phase }, { on := 2, ground := Ground.phase }, { on := 3, ground := Ground.phase }, { on := 4, ground := Ground.phase }, { on := 5, ground := Ground.phase }, { on := 6, ground := Ground.phase }, { on := 7, ground := Ground.phase }, { on := 8, ground := Ground.phase }, { on := 9, ground := Ground.phase }, { on := 10, ground := Ground.textOnly Departure.lateStores }, { on := 11, ground := Ground.phase }], guard := none }) rfl (fun K hK => ?_) AllReadyH.nil
                rw [if_pos (by rfl)]
                refine op_store49 _ _ rfl gnz83 z32 (nm 6) rfl rfl (HEz91.out.1.keys (gnz83, z32) (by simp)).1 z32_length (nm_length 6) ?_
                intro wz95 hs1_ hs2_ hs3_
                have HEz96 := Lib.hid (exa_store HEz91.out hs1_ hs2_ hs3_)
                clear hs1_ hs2_ hs3_
                refine hK.out _ _ trivial (fun hHeld => ?_)
                clear hK K
                dsimp only [Act.put]
                refine wpAnyH_ready (rs := [13]) (by kernel_rfl) (by simp) ?_
                refine AllReadyH.cons (o := { dst := some 13, op := Op.assign (Operand.tmp 68), type := 4, pos := "law.go:22", after := #[{ on := 10, ground := Ground.data }, { on := 12, ground := Ground.chain }, { on := 0, ground := Ground.phase }, { on := 1, ground := Ground.phase }, { on := 2, ground := Ground.phase }, { on := 3, ground := Ground.phase }, { on := 4, ground := Ground.phase }, { on := 5, ground := Ground.phase }, { on := 6, ground := Ground.phase }, { on := 7, ground := Ground.phase }, { on := 8, ground := Ground.phase }, { on := 9, ground := Ground.phase }, { on := 10, ground := Ground.phase }, { on := 11, ground := Ground.phase }, { on := 12, ground := Ground.phase }], guard := none }) rfl (fun K hK => ?_) AllReadyH.nil
                rw [if_pos (by rfl)]
                go_simp
                refine hK.out _ _ trivial (fun hHeld => ?_)
                clear hK K
                try simp only [Act.put, List.setIfInBounds_toArray, List.set_cons_zero, List.set_cons_succ]
                refine wpAnyH_done (by kernel_rfl) ?_ _
                go_wp2_with (fail)
                go_meet
                case rel => exact ⟨rfl, gnz83, rfl, HEz96.out⟩
            · rw [if_pos (by rfl)]
              refine op_alloc49 rfl ?_
              intro wz97 hA1_ hA2_
              have HBz99 := Lib.hid (HBz64.out.trans ((hA2_).mono HBz64.out.size))
              have HBAz100 := Lib.hid (HBAz65.out.up hA2_)
              have HARz101 := Lib.hid hA1_
              obtain ⟨gnz98, hg_⟩ : ∃ g, wz61.heap.size = g := ⟨_, rfl⟩
              have hG_ : v0.heap.size ≤ gnz98 := by rw [← hg_]; exact HBz64.out.size
              rw [hg_] at HARz101 ⊢
              have HGz103 := Lib.hid hG_
              clear hA1_ hA2_ hg_ hG_
              refine hK.out _ _ trivial (fun hHeld => ?_)
              clear hK K
              try simp only [Act.put, List.setIfInBounds_toArray, List.set_cons_zero, List.set_cons_succ]
              refine wpAnyH_ready (rs := [6]) (by kernel_rfl) (by simp) ?_
              refine AllReadyH.cons (o := { dst := some 65, op := Op.buildSlice 31 2 #[(0, Operand.tmp 60), (1, Operand.tmp 64)], type := 31, pos := "law.go:22", after := #[{ on := 1, ground := Ground.data }, { on := 5, ground := Ground.data }], guard := none }) rfl (fun K hK => ?_) AllReadyH.nil
              rw [if_pos (by rfl)]
              go_simp
              have hbl_ := below_alc wz97 (.cells #[.slice (some ⟨g5, 0, none⟩) 32 32, .slice Az62 33 cz63] 41)
              have hnew_ := lst9 (M0_.out.up HBz99.out) (g := g5) (xs := nm 5) (by simp) (nm_length 5) HBAz100.out HCz66.out (by simp [nm_length])
              have HBz106 := Lib.hid (HBz99.out.trans ((hbl_).mono HBz99.out.size))
              have HARz107 := Lib.hid (((hbl_).block _ (Arr.lt HARz101.out)).trans HARz101.out)
              have HBAz108 := Lib.hid (HBAz100.out.up hbl_)
              obtain ⟨wz104, hw_⟩ : ∃ w', wz97.alloc (.cells #[.slice (some ⟨g5, 0, none⟩) 32 32, .slice Az62 33 cz63] 41) = w' := ⟨_, rfl⟩
              rw [hw_] at HBz106 HARz107 HBAz108 hnew_ ⊢
              obtain ⟨gbz105, hg_⟩ : ∃ g, wz97.heap.size = g := ⟨_, rfl⟩
              rw [hg_] at hnew_ ⊢
              have HNz109 := Lib.hid hnew_
              clear hbl_ hw_ hg_ hnew_
              refine hK.out _ _ trivial (fun hHeld => ?_)
              clear hK K
              try simp only [Act.put, List.setIfInBounds_toArray, List.set_cons_zero, List.set_cons_succ]
              refine wpAnyH_ready (rs := [7]) (by kernel_rfl) (by simp) ?_
              refine AllReadyH.cons (o := { dst := some 66, op := Op.call { callee := Callee.value (Operand.func 21), args := #[Operand.tmp 59, Operand.const (Value.int IntKind.i64 8), Operand.tmp 65], argTypes := #[24, 3, 31] }, type := 62, pos := "law.go:22", after := #[{ on := 0, ground := Ground.data }, { on := 6, ground := Ground.data }, { on := 5, ground := Ground.chain }], guard := none }) rfl (fun K hK => ?_) AllReadyH.nil
              rw [if_pos (by rfl)]
              go_simp
              have hc_ := exa_make (k := 8) (N := 6) (n := 2) (c := 2) (exa_of M0_.out HBz106.out HARz107.out HGz103.out) HNz109.out rfl (by omega) ex6 (by omega)
              rw [show ((8 : Nat) : Int) = 8 from rfl] at hc_
              with_reducible refine hc_.mono ?_
              rintro _ wz110 ⟨rfl, hE_⟩
              have HEz111 := Lib.hid hE_
              clear hc_ hE_
              refine hK.out _ _ trivial (fun hHeld => ?_)
              clear hK K
              try simp only [Act.put, List.setIfInBounds_toArray, List.set_cons_zero, List.set_cons_succ]
              refine' wpAnyH_take (i := 8) (oi := { dst := some 58, op := Op.move (Operand.tmp 66), type := 62, pos := "law.go:22", after := #[{ on := 7, ground := Ground.data }], guard := none }) (v := _) rfl (by kernel_rfl) (by kernel_rfl) (by kernel_rfl) (fun _ _ _ h => h) (Or.inl ⟨by rfl, fun _ _ => rfl⟩) (by assumption) ?qz112
              try simp only [Act.put, List.setIfInBounds_toArray, List.set_cons_zero, List.set_cons_succ]
              refine' wpAnyH_take (i := 9) (oi := { dst := some 67, op := Op.extract (Operand.tmp 58) 0, type := 49, pos := "law.go:22", after := #[{ on := 8, ground := Ground.data }], guard := none }) (v := .agg (u8s (nm 6)).toArray) rfl (by kernel_rfl) (by kernel_rfl) (by kernel_rfl) (fun _ _ _ h => h) (Or.inl ⟨by rfl, fun _ _ => rfl⟩) (by assumption) ?qz113
              try simp only [Act.put, List.setIfInBounds_toArray, List.set_cons_zero, List.set_cons_succ]
              refine' wpAnyH_take (i := 10) (oi := { dst := some 68, op := Op.extract (Operand.tmp 58) 1, type := 4, pos := "law.go:22", after := #[{ on := 8, ground := Ground.data }, { on := 12, ground := Ground.gcOnly Departure.lateStores }], guard := none }) (v := .bool true) rfl (by kernel_rfl) (by kernel_rfl) (by kernel_rfl) (fun _ _ _ h => h) (Or.inl ⟨by rfl, fun _ _ => rfl⟩) (by assumption) ?qz114
              try simp only [Act.put, List.setIfInBounds_toArray, List.set_cons_zero, List.set_cons_succ]
              refine wpAnyH_ready (rs := [12]) (by kernel_rfl) (by simp) ?_
              refine AllReadyH.cons (o := { dst := none, op := Op.store 49 (Operand.tmp 12) (Operand.tmp 67), type := 0, pos := "law.go:22", after := #[{ on := 11, ground := Ground.data }, { on := 9, ground := Ground.data }, { on := 7, ground := Ground.chain }, { on := 0, ground := Ground.phase }, { on := 1, ground := Ground.phase }, { on := 2, ground := Ground.phase }, { on := 3, ground := Ground.phase }, { on := 4, ground := Ground.phase }, { on := 5, ground := Ground.phase }, { on := 6, ground := Ground.phase }, { on := 7, ground := Ground.phase }, { on := 8, ground := Ground.phase }, { on := 9, ground := Ground.phase }, { on := 10, ground := Ground.textOnly Departure.lateStores }, { on := 11, ground := Ground.phase }], guard := none }) rfl (fun K hK => ?_) AllReadyH.nil
              rw [if_pos (by rfl)]
              refine op_store49 _ _ rfl gnz98 z32 (nm 6) rfl rfl (HEz111.out.1.keys (gnz98, z32) (by simp)).1 z32_length (nm_length 6) ?_
              intro wz115 hs1_ hs2_ hs3_
              have HEz116 := Lib.hid (exa_store HEz111.out hs1_ hs2_ hs3_)
              clear hs1_ hs2_ hs3_
              refine hK.out _ _ trivial (fun hHeld => ?_)
              clear hK K
              dsimp only [Act.put]
              refine wpAnyH_ready (rs := [13]) (by kernel_rfl) (by simp) ?_
              refine AllReadyH.cons (o := { dst := some 13, op := Op.assign (Operand.tmp 68), type := 4, pos := "law.go:22", after := #[{ on := 10, ground := Ground.data }, { on := 12, ground := Ground.chain }, { on := 0, ground := Ground.phase }, { on := 1, ground := Ground.phase }, { on := 2, ground := Ground.phase }, { on := 3, ground := Ground.phase }, { on := 4, ground := Ground.phase }, { on := 5, ground := Ground.phase }, { on := 6, ground := Ground.phase }, { on := 7, ground := Ground.phase }, { on := 8, ground := Ground.phase }, { on := 9, ground := Ground.phase }, { on := 10, ground := Ground.phase }, { on := 11, ground := Ground.phase }, { on := 12, ground := Ground.phase }], guard := none }) rfl (fun K hK => ?_) AllReadyH.nil
              rw [if_pos (by rfl)]
              go_simp
              refine hK.out _ _ trivial (fun hHeld => ?_)
              clear hK K
              try simp only [Act.put, List.setIfInBounds_toArray, List.set_cons_zero, List.set_cons_succ]
              refine wpAnyH_done (by kernel_rfl) ?_ _
              go_wp2_with (fail)
              go_meet
              case rel => exact ⟨rfl, gnz98, rfl, HEz116.out⟩
          · rw [if_pos (by rfl)]
            refine op_alloc49 rfl ?_
            intro wz117 hA1_ hA2_
            have HBz119 := Lib.hid (HBz59.out.trans ((hA2_).mono HBz59.out.size))
            have HBXz120 := Lib.hid (HBXz60.out.up hA2_)
            have HARz121 := Lib.hid hA1_
            obtain ⟨gnz118, hg_⟩ : ∃ g, wz58.heap.size = g := ⟨_, rfl⟩
            have hG_ : v0.heap.size ≤ gnz118 := by rw [← hg_]; exact HBz59.out.size
            rw [hg_] at HARz121 ⊢
            have HGz123 := Lib.hid hG_
            clear hA1_ hA2_ hg_ hG_
            refine hK.out _ _ trivial (fun hHeld => ?_)
            clear hK K
            try simp only [Act.put, List.setIfInBounds_toArray, List.set_cons_zero, List.set_cons_succ]
            refine wpAnyH_ready (rs := [5]) (by kernel_rfl) (by simp) ?_
            refine AllReadyH.cons (o := { dst := some 64, op := Op.call { callee := Callee.builtin Builtin.append, args := #[Operand.tmp 62, Operand.tmp 63], argTypes := #[41, 41] }, type := 41, pos := "law.go:22", after := #[{ on := 3, ground := Ground.data }, { on := 4, ground := Ground.data }], guard := none }) rfl (fun K hK => ?_) AllReadyH.nil
            rw [if_pos (by rfl)]
            refine op_append _ _ rfl _ _ 1 32 32 [120] (nm 2) rfl rfl HBXz120.out (key_byt (M0_.out.up HBz119.out) (g := g2) (xs := nm 2) (by simp) (nm_length 2)).2.2 rfl (nm_length 2) (by omega) (by omega) (by omega) ?_
            intro Az125 cz126 wz124 hb_ hx_ hc1_ hc2_
            have HBz127 := Lib.hid (HBz119.out.trans ((hb_).mono HBz119.out.size))
            have HARz128 := Lib.hid (((hb_).block _ (Arr.lt HARz121.out)).trans HARz121.out)
            have HBAz129 := Lib.hid hx_
            have HCz130 := Lib.hid (And.intro hc1_ hc2_)
            clear hb_ hx_ hc1_ hc2_
            refine hK.out _ _ trivial (fun hHeld => ?_)
            clear hK K
            try simp only [Act.put, List.setIfInBounds_toArray, List.set_cons_zero, List.set_cons_succ]
            refine wpAnyH_ready (rs := [6]) (by kernel_rfl) (by simp) ?_
            refine AllReadyH.cons (o := { dst := some 65, op := Op.buildSlice 31 2 #[(0, Operand.tmp 60), (1, Operand.tmp 64)], type := 31, pos := "law.go:22", after := #[{ on := 1, ground := Ground.data }, { on := 5, ground := Ground.data }], guard := none }) rfl (fun K hK => ?_) AllReadyH.nil
            rw [if_pos (by rfl)]
            go_simp
            have hbl_ := below_alc wz124 (.cells #[.slice (some ⟨g5, 0, none⟩) 32 32, .slice Az125 33 cz126] 41)
            have hnew_ := lst9 (M0_.out.up HBz127.out) (g := g5) (xs := nm 5) (by simp) (nm_length 5) HBAz129.out HCz130.out (by simp [nm_length])
            have HBz133 := Lib.hid (HBz127.out.trans ((hbl_).mono HBz127.out.size))
            have HARz134 := Lib.hid (((hbl_).block _ (Arr.lt HARz128.out)).trans HARz128.out)
            have HBAz135 := Lib.hid (HBAz129.out.up hbl_)
            obtain ⟨wz131, hw_⟩ : ∃ w', wz124.alloc (.cells #[.slice (some ⟨g5, 0, none⟩) 32 32, .slice Az125 33 cz126] 41) = w' := ⟨_, rfl⟩
            rw [hw_] at HBz133 HARz134 HBAz135 hnew_ ⊢
            obtain ⟨gbz132, hg_⟩ : ∃ g, wz124.heap.size = g := ⟨_, rfl⟩
            rw [hg_] at hnew_ ⊢
            have HNz136 := Lib.hid hnew_
            clear hbl_ hw_ hg_ hnew_
            refine hK.out _ _ trivial (fun hHeld => ?_)
            clear hK K
            try simp only [Act.put, List.setIfInBounds_toArray, List.set_cons_zero, List.set_cons_succ]
            refine wpAnyH_ready (rs := [7]) (by kernel_rfl) (by simp) ?_
            refine AllReadyH.cons (o := { dst := some 66, op := Op.call { callee := Callee.value (Operand.func 21), args := #[Operand.tmp 59, Operand.const (Value.int IntKind.i64 8), Operand.tmp 65], argTypes := #[24, 3, 31] }, type := 62, pos := "law.go:22", after := #[{ on := 0, ground := Ground.data }, { on := 6, ground := Ground.data }, { on := 5, ground := Ground.chain }], guard := none }) rfl (fun K hK => ?_) AllReadyH.nil
            rw [if_pos (by rfl)]
            go_simp
            have hc_ := exa_make (k := 8) (N := 6) (n := 2) (c := 2) (exa_of M0_.out HBz133.out HARz134.out HGz123.out) HNz136.out rfl (by omega) ex6 (by omega)
            rw [show ((8 : Nat) : Int) = 8 from rfl] at hc_
            with_reducible refine hc_.mono ?_
            rintro _ wz137 ⟨rfl, hE_⟩
            have HEz138 := Lib.hid hE_
            clear hc_ hE_
            refine hK.out _ _ trivial (fun hHeld => ?_)
            clear hK K
            try simp only [Act.put, List.setIfInBounds_toArray, List.set_cons_zero, List.set_cons_succ]
            refine' wpAnyH_take (i := 8) (oi := { dst := some 58, op := Op.move (Operand.tmp 66), type := 62, pos := "law.go:22", after := #[{ on := 7, ground := Ground.data }], guard := none }) (v := _) rfl (by kernel_rfl) (by kernel_rfl) (by kernel_rfl) (fun _ _ _ h => h) (Or.inl ⟨by rfl, fun _ _ => rfl⟩) (by assumption) ?qz139
            try simp only [Act.put, List.setIfInBounds_toArray, List.set_cons_zero, List.set_cons_succ]
            refine' wpAnyH_take (i := 9) (oi := { dst := some 67, op := Op.extract (Operand.tmp 58) 0, type := 49, pos := "law.go:22", after := #[{ on := 8, ground := Ground.data }], guard := none }) (v := .agg (u8s (nm 6)).toArray) rfl (by kernel_rfl) (by kernel_rfl) (by kernel_rfl) (fun _ _ _ h => h) (Or.inl ⟨by rfl, fun _ _ => rfl⟩) (by assumption) ?qz140
            try simp only [Act.put, List.setIfInBounds_toArray, List.set_cons_zero, List.set_cons_succ]
            refine' wpAnyH_take (i := 10) (oi := { dst := some 68, op := Op.extract (Operand.tmp 58) 1, type := 4, pos := "law.go:22", after := #[{ on := 8, ground := Ground.data }, { on := 12, ground := Ground.gcOnly Departure.lateStores }], guard := none }) (v := .bool true) rfl (by kernel_rfl) (by kernel_rfl) (by kernel_rfl) (fun _ _ _ h => h) (Or.inl ⟨by rfl, fun _ _ => rfl⟩) (by assumption) ?qz141
            try simp only [Act.put, List.setIfInBounds_toArray, List.set_cons_zero, List.set_cons_succ]
            refine wpAnyH_ready (rs := [12]) (by kernel_rfl) (by simp) ?_
            refine AllReadyH.cons (o := { dst := none, op := Op.store 49 (Operand.tmp 12) (Operand.tmp 67), type := 0, pos := "law.go:22", after := #[{ on := 11, ground := Ground.data }, { on := 9, ground := Ground.data }, { on := 7, ground := Ground.chain }, { on := 0, ground := Ground.phase }, { on := 1, ground := Ground.phase }, { on := 2, ground := Ground.phase }, { on := 3, ground := Ground.phase }, { on := 4, ground := Ground.phase }, { on := 5, ground := Ground.phase }, { on := 6, ground := Ground.phase }, { on := 7, ground := Ground.phase }, { on := 8, ground := Ground.phase }, { on := 9, ground := Ground.phase }, { on := 10, ground := Ground.textOnly Departure.lateStores }, { on := 11, ground := Ground.phase }], guard := none }) rfl (fun K hK => ?_) AllReadyH.nil
            rw [if_pos (by rfl)]
            refine op_store49 _ _ rfl gnz118 z32 (nm 6) rfl rfl (HEz138.out.1.keys (gnz118, z32) (by simp)).1 z32_length (nm_length 6) ?_
            intro wz142 hs1_ hs2_ hs3_
            have HEz143 := Lib.hid (exa_store HEz138.out hs1_ hs2_ hs3_)
            clear hs1_ hs2_ hs3_
            refine hK.out _ _ trivial (fun hHeld => ?_)
            clear hK K
            dsimp only [Act.put]
            refine wpAnyH_ready (rs := [13]) (by kernel_rfl) (by simp) ?_
            refine AllReadyH.cons (o := { dst := some 13, op := Op.assign (Operand.tmp 68), type := 4, pos := "law.go:22", after := #[{ on := 10, ground := Ground.data }, { on := 12, ground := Ground.chain }, { on := 0, ground := Ground.phase }, { on := 1, ground := Ground.phase }, { on := 2, ground := Ground.phase }, { on := 3, ground := Ground.phase }, { on := 4, ground := Ground.phase }, { on := 5, ground := Ground.phase }, { on := 6, ground := Ground.phase }, { on := 7, ground := Ground.phase }, { on := 8, ground := Ground.phase }, { on := 9, ground := Ground.phase }, { on := 10, ground := Ground.phase }, { on := 11, ground := Ground.phase }, { on := 12, ground := Ground.phase }], guard := none }) rfl (fun K hK => ?_) AllReadyH.nil
            rw [if_pos (by rfl)]
            go_simp
            refine hK.out _ _ trivial (fun hHeld => ?_)
            clear hK K
            try simp only [Act.put, List.setIfInBounds_toArray, List.set_cons_zero, List.set_cons_succ]
            refine wpAnyH_done (by kernel_rfl) ?_ _
            go_wp2_with (fail)
            go_meet
            case rel => exact ⟨rfl, gnz118, rfl, HEz143.out⟩
        · rw [if_pos (by rfl)]
          refine op_alloc49 rfl ?_
          intro wz144 hA1_ hA2_
          have HBz146 := Lib.hid (HBz55.out.trans ((hA2_).mono HBz55.out.size))
          have HTXz147 := Lib.hid (HNz56.out.up hA2_)
          have HARz148 := Lib.hid hA1_
          obtain ⟨gnz145, hg_⟩ : ∃ g, wz53.heap.size = g := ⟨_, rfl⟩
          have hG_ : v0.heap.size ≤ gnz145 := by rw [← hg_]; exact HBz55.out.size
          rw [hg_] at HARz148 ⊢
          have HGz150 := Lib.hid hG_
          have NE_ := Lib.hid (show gnz145 ≠ gbz54 by rw [← hg_]; exact (Nat.ne_of_lt (Txt.lt HNz56.out)).symm)
          clear hA1_ hA2_ hg_ hG_
          refine hK.out _ _ trivial (fun hHeld => ?_)
          clear hK K
          try simp only [Act.put, List.setIfInBounds_toArray, List.set_cons_zero, List.set_cons_succ]
          refine wpAnyH_ready (rs := [3]) (by kernel_rfl) (by simp) ?_
          refine AllReadyH.cons (o := { dst := some 62, op := Op.convert 41 41 (Operand.tmp 61), type := 41, pos := "law.go:22", after := #[{ on := 2, ground := Ground.data }], guard := none }) rfl (fun K hK => ?_) AllReadyH.nil
          rw [if_pos (by rfl)]
          refine op_mark _ rfl gbz54 1 1 120 rfl HTXz147.out ?_
          intro wz151 hs1_ hs2_ hs3_
          have HBz152 := Lib.hid (HBz146.out.trans (hs3_ _ XGz57.out))
          have HARz153 := Lib.hid ((hs1_ gnz145 NE_.out).trans HARz148.out)
          have HBXz154 := Lib.hid hs2_
          clear hs1_ hs2_ hs3_
          refine hK.out _ _ trivial (fun hHeld => ?_)
          clear hK K
          try simp only [Act.put, List.setIfInBounds_toArray, List.set_cons_zero, List.set_cons_succ]
          refine wpAnyH_ready (rs := [5]) (by kernel_rfl) (by simp) ?_
          refine AllReadyH.cons (o := { dst := some 64, op := Op.call { callee := Callee.builtin Builtin.append, args := #[Operand.tmp 62, Operand.tmp 63], argTypes := #[41, 41] }, type := 41, pos := "law.go:22", after := #[{ on := 3, ground := Ground.data }, { on := 4, ground := Ground.data }], guard := none }) rfl (fun K hK => ?_) AllReadyH.nil
          rw [if_pos (by rfl)]
          refine op_append _ _ rfl _ _ 1 32 32 [120] (nm 2) rfl rfl HBXz154.out (key_byt (M0_.out.up HBz152.out) (g := g2) (xs := nm 2) (by simp) (nm_length 2)).2.2 rfl (nm_length 2) (by omega) (by omega) (by omega) ?_
          intro Az156 cz157 wz155 hb_ hx_ hc1_ hc2_
          have HBz158 := Lib.hid (HBz152.out.trans ((hb_).mono HBz152.out.size))
          have HARz159 := Lib.hid (((hb_).block _ (Arr.lt HARz153.out)).trans HARz153.out)
          have HBAz160 := Lib.hid hx_
          have HCz161 := Lib.hid (And.intro hc1_ hc2_)
          clear hb_ hx_ hc1_ hc2_
          refine hK.out _ _ trivial (fun hHeld => ?_)
          clear hK K
          try simp only [Act.put, List.setIfInBounds_toArray, List.set_cons_zero, List.set_cons_succ]
          refine wpAnyH_ready (rs := [6]) (by kernel_rfl) (by simp) ?_
          refine AllReadyH.cons (o := { dst := some 65, op := Op.buildSlice 31 2 #[(0, Operand.tmp 60), (1, Operand.tmp 64)], type := 31, pos := "law.go:22", after := #[{ on := 1, ground := Ground.data }, { on := 5, ground := Ground.data }], guard := none }) rfl (fun K hK => ?_) AllReadyH.nil
          rw [if_pos (by rfl)]
          go_simp
          have hbl_ := below_alc wz155 (.cells #[.slice (some ⟨g5, 0, none⟩) 32 32, .slice Az156 33 cz157] 41)
          have hnew_ := lst9 (M0_.out.up HBz158.out) (g := g5) (xs := nm 5) (by simp) (nm_length 5) HBAz160.out HCz161.out (by simp [nm_length])
          have HBz164 := Lib.hid (HBz158.out.trans ((hbl_).mono HBz158.out.size))
          have HARz165 := Lib.hid (((hbl_).block _ (Arr.lt HARz159.out)).trans HARz159.out)
          have HBAz166 := Lib.hid (HBAz160.out.up hbl_)
          obtain ⟨wz162, hw_⟩ : ∃ w', wz155.alloc (.cells #[.slice (some ⟨g5, 0, none⟩) 32 32, .slice Az156 33 cz157] 41) = w' := ⟨_, rfl⟩
          rw [hw_] at HBz164 HARz165 HBAz166 hnew_ ⊢
          obtain ⟨gbz163, hg_⟩ : ∃ g, wz155.heap.size = g := ⟨_, rfl⟩
          rw [hg_] at hnew_ ⊢
          have HNz167 := Lib.hid hnew_
          clear hbl_ hw_ hg_ hnew_
          refine hK.out _ _ trivial (fun hHeld => ?_)
          clear hK K
          try simp only [Act.put, List.setIfInBounds_toArray, List.set_cons_zero, List.set_cons_succ]
          refine wpAnyH_ready (rs := [7]) (by kernel_rfl) (by simp) ?_
          refine AllReadyH.cons (o := { dst := some 66, op := Op.call { callee := Callee.value (Operand.func 21), args := #[Operand.tmp 59, Operand.const (Value.int IntKind.i64 8), Operand.tmp 65], argTypes := #[24, 3, 31] }, type := 62, pos := "law.go:22", after := #[{ on := 0, ground := Ground.data }, { on := 6, ground := Ground.data }, { on := 5, ground := Ground.chain }], guard := none }) rfl (fun K hK => ?_) AllReadyH.nil
          rw [if_pos (by rfl)]
          go_simp
          have hc_ := exa_make (k := 8) (N := 6) (n := 2) (c := 2) (exa_of M0_.out HBz164.out HARz165.out HGz150.out) HNz167.out rfl (by omega) ex6 (by omega)
          rw [show ((8 : Nat) : Int) = 8 from rfl] at hc_
          with_reducible refine hc_.mono ?_
          rintro _ wz168 ⟨rfl, hE_⟩
          have HEz169 := Lib.hid hE_
          clear hc_ hE_
          refine hK.out _ _ trivial (fun hHeld => ?_)
          clear hK K
          try simp only [Act.put, List.setIfInBounds_toArray, List.set_cons_zero, List.set_cons_succ]
          refine' wpAnyH_take (i := 8) (oi := { dst := some 58, op := Op.move (Operand.tmp 66), type := 62, pos := "law.go:22", after := #[{ on := 7, ground := Ground.data }], guard := none }) (v := _) rfl (by kernel_rfl) (by kernel_rfl) (by kernel_rfl) (fun _ _ _ h => h) (Or.inl ⟨by rfl, fun _ _ => rfl⟩) (by assumption) ?qz170
          try simp only [Act.put, List.setIfInBounds_toArray, List.set_cons_zero, List.set_cons_succ]
          refine' wpAnyH_take (i := 9) (oi := { dst := some 67, op := Op.extract (Operand.tmp 58) 0, type := 49, pos := "law.go:22", after := #[{ on := 8, ground := Ground.data }], guard := none }) (v := .agg (u8s (nm 6)).toArray) rfl (by kernel_rfl) (by kernel_rfl) (by kernel_rfl) (fun _ _ _ h => h) (Or.inl ⟨by rfl, fun _ _ => rfl⟩) (by assumption) ?qz171
          try simp only [Act.put, List.setIfInBounds_toArray, List.set_cons_zero, List.set_cons_succ]
          refine' wpAnyH_take (i := 10) (oi := { dst := some 68, op := Op.extract (Operand.tmp 58) 1, type := 4, pos := "law.go:22", after := #[{ on := 8, ground := Ground.data }, { on := 12, ground := Ground.gcOnly Departure.lateStores }], guard := none }) (v := .bool true) rfl (by kernel_rfl) (by kernel_rfl) (by kernel_rfl) (fun _ _ _ h => h) (Or.inl ⟨by rfl, fun _ _ => rfl⟩) (by assumption) ?qz172
          try simp only [Act.put, List.setIfInBounds_toArray, List.set_cons_zero, List.set_cons_succ]
          refine wpAnyH_ready (rs := [12]) (by kernel_rfl) (by simp) ?_
          refine AllReadyH.cons (o := { dst := none, op := Op.store 49 (Operand.tmp 12) (Operand.tmp 67), type := 0, pos := "law.go:22", after := #[{ on := 11, ground := Ground.data }, { on := 9, ground := Ground.data }, { on := 7, ground := Ground.chain }, { on := 0, ground := Ground.phase }, { on := 1, ground := Ground.phase }, { on := 2, ground := Ground.phase }, { on := 3, ground := Ground.phase }, { on := 4, ground := Ground.phase }, { on := 5, ground := Ground.phase }, { on := 6, ground := Ground.phase }, { on := 7, ground := Ground.phase }, { on := 8, ground := Ground.phase }, { on := 9, ground := Ground.phase }, { on := 10, ground := Ground.textOnly Departure.lateStores }, { on := 11, ground := Ground.phase }], guard := none }) rfl (fun K hK => ?_) AllReadyH.nil
          rw [if_pos (by rfl)]
          refine op_store49 _ _ rfl gnz145 z32 (nm 6) rfl rfl (HEz169.out.1.keys (gnz145, z32) (by simp)).1 z32_length (nm_length 6) ?_
          intro wz173 hs1_ hs2_ hs3_
          have HEz174 := Lib.hid (exa_store HEz169.out hs1_ hs2_ hs3_)
          clear hs1_ hs2_ hs3_
          refine hK.out _ _ trivial (fun hHeld => ?_)
          clear hK K
          dsimp only [Act.put]
          refine wpAnyH_ready (rs := [13]) (by kernel_rfl) (by simp) ?_
          refine AllReadyH.cons (o := { dst := some 13, op := Op.assign (Operand.tmp 68), type := 4, pos := "law.go:22", after := #[{ on := 10, ground := Ground.data }, { on := 12, ground := Ground.chain }, { on := 0, ground := Ground.phase }, { on := 1, ground := Ground.phase }, { on := 2, ground := Ground.phase }, { on := 3, ground := Ground.phase }, { on := 4, ground := Ground.phase }, { on := 5, ground := Ground.phase }, { on := 6, ground := Ground.phase }, { on := 7, ground := Ground.phase }, { on := 8, ground := Ground.phase }, { on := 9, ground := Ground.phase }, { on := 10, ground := Ground.phase }, { on := 11, ground := Ground.phase }, { on := 12, ground := Ground.phase }], guard := none }) rfl (fun K hK => ?_) AllReadyH.nil
          rw [if_pos (by rfl)]
          go_simp
          refine hK.out _ _ trivial (fun hHeld => ?_)
          clear hK K
          try simp only [Act.put, List.setIfInBounds_toArray, List.set_cons_zero, List.set_cons_succ]
          refine wpAnyH_done (by kernel_rfl) ?_ _
          go_wp2_with (fail)
          go_meet
          case rel => exact ⟨rfl, gnz145, rfl, HEz174.out⟩
      · rw [if_pos (by rfl)]
        refine op_alloc49 rfl ?_
        intro wz175 hA1_ hA2_
        have HBz177 := Lib.hid (HB0.out.trans ((hA2_).mono HB0.out.size))
        have HARz178 := Lib.hid hA1_
        obtain ⟨gnz176, hg_⟩ : ∃ g, v0.heap.size = g := ⟨_, rfl⟩
        have hG_ : v0.heap.size ≤ gnz176 := by rw [← hg_]; exact HB0.out.size
        rw [hg_] at HARz178 ⊢
        have HGz180 := Lib.hid hG_
        clear hA1_ hA2_ hg_ hG_
        refine hK.out _ _ trivial (fun hHeld => ?_)
        clear hK K
        try simp only [Act.put, List.setIfInBounds_toArray, List.set_cons_zero, List.set_cons_succ]
        refine wpAnyH_ready (rs := [2]) (by kernel_rfl) (by simp) ?_
        refine AllReadyH.cons (o := { dst := some 61, op := Op.buildSlice 41 1 #[(0, Operand.const (Value.int IntKind.u8 120))], type := 41, pos := "law.go:22", after := #[], guard := none }) rfl (fun K hK => ?_) AllReadyH.nil
        rw [if_pos (by rfl)]
        go_simp
        have hbl_ := below_alc wz175 (.cells #[.int .u8 120] 5)
        have hnew_ := txt_new wz175 120
        rw [show (((120 : UInt8).toNat : Nat) : Int) = 120 from rfl] at hnew_
        have HBz183 := Lib.hid (HBz177.out.trans ((hbl_).mono HBz177.out.size))
        have HARz184 := Lib.hid (((hbl_).block _ (Arr.lt HARz178.out)).trans HARz178.out)
        obtain ⟨wz181, hw_⟩ : ∃ w', wz175.alloc (.cells #[.int .u8 120] 5) = w' := ⟨_, rfl⟩
        rw [hw_] at HBz183 HARz184 hnew_ ⊢
        obtain ⟨gbz182, hg_⟩ : ∃ g, wz175.heap.size = g := ⟨_, rfl⟩
        have XGz186 := Lib.hid (show v0.heap.size ≤ gbz182 by rw [← hg_]; exact HBz177.out.size)
        have NE_ := Lib.hid (show gnz176 ≠ gbz182 by rw [← hg_]; exact Nat.ne_of_lt (Arr.lt HARz178.out))
        rw [hg_] at hnew_ ⊢
        have HNz185 := Lib.hid hnew_
        clear hbl_ hw_ hg_ hnew_
        refine hK.out _ _ trivial (fun hHeld => ?_)
        clear hK K
        try simp only [Act.put, List.setIfInBounds_toArray, List.set_cons_zero, List.set_cons_succ]
        refine wpAnyH_ready (rs := [3]) (by kernel_rfl) (by simp) ?_
        refine AllReadyH.cons (o := { dst := some 62, op := Op.convert 41 41 (Operand.tmp 61), type := 41, pos := "law.go:22", after := #[{ on := 2, ground := Ground.data }], guard := none }) rfl (fun K hK => ?_) AllReadyH.nil
        rw [if_pos (by rfl)]
        refine op_mark _ rfl gbz182 1 1 120 rfl HNz185.out ?_
        intro wz187 hs1_ hs2_ hs3_
        have HBz188 := Lib.hid (HBz183.out.trans (hs3_ _ XGz186.out))
        have HARz189 := Lib.hid ((hs1_ gnz176 NE_.out).trans HARz184.out)
        have HBXz190 := Lib.hid hs2_
        clear hs1_ hs2_ hs3_
        refine hK.out _ _ trivial (fun hHeld => ?_)
        clear hK K
        try simp only [Act.put, List.setIfInBounds_toArray, List.set_cons_zero, List.set_cons_succ]
        refine wpAnyH_ready (rs := [5]) (by kernel_rfl) (by simp) ?_
        refine AllReadyH.cons (o := { dst := some 64, op := Op.call { callee := Callee.builtin Builtin.append, args := #[Operand.tmp 62, Operand.tmp 63], argTypes := #[41, 41] }, type := 41, pos := "law.go:22", after := #[{ on := 3, ground := Ground.data }, { on := 4, ground := Ground.data }], guard := none }) rfl (fun K hK => ?_) AllReadyH.nil
        rw [if_pos (by rfl)]
        refine op_append _ _ rfl _ _ 1 32 32 [120] (nm 2) rfl rfl HBXz190.out (key_byt (M0_.out.up HBz188.out) (g := g2) (xs := nm 2) (by simp) (nm_length 2)).2.2 rfl (nm_length 2) (by omega) (by omega) (by omega) ?_
        intro Az192 cz193 wz191 hb_ hx_ hc1_ hc2_
        have HBz194 := Lib.hid (HBz188.out.trans ((hb_).mono HBz188.out.size))
        have HARz195 := Lib.hid (((hb_).block _ (Arr.lt HARz189.out)).trans HARz189.out)
        have HBAz196 := Lib.hid hx_
        have HCz197 := Lib.hid (And.intro hc1_ hc2_)
        clear hb_ hx_ hc1_ hc2_
        refine hK.out _ _ trivial (fun hHeld => ?_)
        clear hK K
        try simp only [Act.put, List.setIfInBounds_toArray, List.set_cons_zero, List.set_cons_succ]
        refine wpAnyH_ready (rs := [6]) (by kernel_rfl) (by simp) ?_
        refine AllReadyH.cons (o := { dst := some 65, op := Op.buildSlice 31 2 #[(0, Operand.tmp 60), (1, Operand.tmp 64)], type := 31, pos := "law.go:22", after := #[{ on := 1, ground := Ground.data }, { on := 5, ground := Ground.data }], guard := none }) rfl (fun K hK => ?_) AllReadyH.nil
        rw [if_pos (by rfl)]
        go_simp
        have hbl_ := below_alc wz191 (.cells #[.slice (some ⟨g5, 0, none⟩) 32 32, .slice Az192 33 cz193] 41)
        have hnew_ := lst9 (M0_.out.up HBz194.out) (g := g5) (xs := nm 5) (by simp) (nm_length 5) HBAz196.out HCz197.out (by simp [nm_length])
        have HBz200 := Lib.hid (HBz194.out.trans ((hbl_).mono HBz194.out.size))
        have HARz201 := Lib.hid (((hbl_).block _ (Arr.lt HARz195.out)).trans HARz195.out)
        have HBAz202 := Lib.hid (HBAz196.out.up hbl_)
        obtain ⟨wz198, hw_⟩ : ∃ w', wz191.alloc (.cells #[.slice (some ⟨g5, 0, none⟩) 32 32, .slice Az192 33 cz193] 41) = w' := ⟨_, rfl⟩
        rw [hw_] at HBz200 HARz201 HBAz202 hnew_ ⊢
        obtain ⟨gbz199, hg_⟩ : ∃ g, wz191.heap.size = g := ⟨_, rfl⟩
        rw [hg_] at hnew_ ⊢
        have HNz203 := Lib.hid hnew_
        clear hbl_ hw_ hg_ hnew_
        refine hK.out _ _ trivial (fun hHeld => ?_)
        clear hK K
        try simp only [Act.put, List.setIfInBounds_toArray, List.set_cons_zero, List.set_cons_succ]
        refine wpAnyH_ready (rs := [7]) (by kernel_rfl) (by simp) ?_
        refine AllReadyH.cons (o := { dst := some 66, op := Op.call { callee := Callee.value (Operand.func 21), args := #[Operand.tmp 59, Operand.const (Value.int IntKind.i64 8), Operand.tmp 65], argTypes := #[24, 3, 31] }, type := 62, pos := "law.go:22", after := #[{ on := 0, ground := Ground.data }, { on := 6, ground := Ground.data }, { on := 5, ground := Ground.chain }], guard := none }) rfl (fun K hK => ?_) AllReadyH.nil
        rw [if_pos (by rfl)]
        go_simp
        have hc_ := exa_make (k := 8) (N := 6) (n := 2) (c := 2) (exa_of M0_.out HBz200.out HARz201.out HGz180.out) HNz203.out rfl (by omega) ex6 (by omega)
        rw [show ((8 : Nat) : Int) = 8 from rfl] at hc_
        with_reducible refine hc_.mono ?_
        rintro _ wz204 ⟨rfl, hE_⟩
        have HEz205 := Lib.hid hE_
        clear hc_ hE_
        refine hK.out _ _ trivial (fun hHeld => ?_)
        clear hK K
        try simp only [Act.put, List.setIfInBounds_toArray, List.set_cons_zero, List.set_cons_succ]
        refine' wpAnyH_take (i := 8) (oi := { dst := some 58, op := Op.move (Operand.tmp 66), type := 62, pos := "law.go:22", after := #[{ on := 7, ground := Ground.data }], guard := none }) (v := _) rfl (by kernel_rfl) (by kernel_rfl) (by kernel_rfl) (fun _ _ _ h => h) (Or.inl ⟨by rfl, fun _ _ => rfl⟩) (by assumption) ?qz206
        try simp only [Act.put, List.setIfInBounds_toArray, List.set_cons_zero, List.set_cons_succ]
        refine' wpAnyH_take (i := 9) (oi := { dst := some 67, op := Op.extract (Operand.tmp 58) 0, type := 49, pos := "law.go:22", after := #[{ on := 8, ground := Ground.data }], guard := none }) (v := .agg (u8s (nm 6)).toArray) rfl (by kernel_rfl) (by kernel_rfl) (by kernel_rfl) (fun _ _ _ h => h) (Or.inl ⟨by rfl, fun _ _ => rfl⟩) (by assumption) ?qz207
        try simp only [Act.put, List.setIfInBounds_toArray, List.set_cons_zero, List.set_cons_succ]
        refine' wpAnyH_take (i := 10) (oi := { dst := some 68, op := Op.extract (Operand.tmp 58) 1, type := 4, pos := "law.go:22", after := #[{ on := 8, ground := Ground.data }, { on := 12, ground := Ground.gcOnly Departure.lateStores }], guard := none }) (v := .bool true) rfl (by kernel_rfl) (by kernel_rfl) (by kernel_rfl) (fun _ _ _ h => h) (Or.inl ⟨by rfl, fun _ _ => rfl⟩) (by assumption) ?qz208
        try simp only [Act.put, List.setIfInBounds_toArray, List.set_cons_zero, List.set_cons_succ]
        refine wpAnyH_ready (rs := [12]) (by kernel_rfl) (by simp) ?_
        refine AllReadyH.cons (o := { dst := none, op := Op.store 49 (Operand.tmp 12) (Operand.tmp 67), type := 0, pos := "law.go:22", after := #[{ on := 11, ground := Ground.data }, { on := 9, ground := Ground.data }, { on := 7, ground := Ground.chain }, { on := 0, ground := Ground.phase }, { on := 1, ground := Ground.phase }, { on := 2, ground := Ground.phase }, { on := 3, ground := Ground.phase }, { on := 4, ground := Ground.phase }, { on := 5, ground := Ground.phase }, { on := 6, ground := Ground.phase }, { on := 7, ground := Ground.phase }, { on := 8, ground := Ground.phase }, { on := 9, ground := Ground.phase }, { on := 10, ground := Ground.textOnly Departure.lateStores }, { on := 11, ground := Ground.phase }], guard := none }) rfl (fun K hK => ?_) AllReadyH.nil
        rw [if_pos (by rfl)]
        refine op_store49 _ _ rfl gnz176 z32 (nm 6) rfl rfl (HEz205.out.1.keys (gnz176, z32) (by simp)).1 z32_length (nm_length 6) ?_
        intro wz209 hs1_ hs2_ hs3_
        have HEz210 := Lib.hid (exa_store HEz205.out hs1_ hs2_ hs3_)
        clear hs1_ hs2_ hs3_
        refine hK.out _ _ trivial (fun hHeld => ?_)
        clear hK K
        dsimp only [Act.put]
        refine wpAnyH_ready (rs := [13]) (by kernel_rfl) (by simp) ?_
        refine AllReadyH.cons (o := { dst := some 13, op := Op.assign (Operand.tmp 68), type := 4, pos := "law.go:22", after := #[{ on := 10, ground := Ground.data }, { on := 12, ground := Ground.chain }, { on := 0, ground := Ground.phase }, { on := 1, ground := Ground.phase }, { on := 2, ground := Ground.phase }, { on := 3, ground := Ground.phase }, { on := 4, ground := Ground.phase }, { on := 5, ground := Ground.phase }, { on := 6, ground := Ground.phase }, { on := 7, ground := Ground.phase }, { on := 8, ground := Ground.phase }, { on := 9, ground := Ground.phase }, { on := 10, ground := Ground.phase }, { on := 11, ground := Ground.phase }, { on := 12, ground := Ground.phase }], guard := none }) rfl (fun K hK => ?_) AllReadyH.nil
        rw [if_pos (by rfl)]
        go_simp
        refine hK.out _ _ trivial (fun hHeld => ?_)
        clear hK K
        try simp only [Act.put, List.setIfInBounds_toArray, List.set_cons_zero, List.set_cons_succ]
        refine wpAnyH_done (by kernel_rfl) ?_ _
        go_wp2_with (fail)
        go_meet
        case rel => exact ⟨rfl, gnz176, rfl, HEz210.out⟩
    case rest =>
      obtain ⟨rfl, g6, rfl, m6⟩ := hcut
      have M6 := Lib.hid m6
      clear m6
      go_wp2_with fail
      have HW10 := Lib.hid (exm_known (n := 2) (c := 2) ((M6.out.drew).up (below_alc _ _)) (lst2 M6.out.drew (g := g3) (g2 := g6) (xs := nm 3) (ys := nm 6) (by simp) (nm_length 3) (by simp) (nm_length 6)) rfl (by omega) (by intro s hs; simp only [List.mem_cons, List.not_mem_nil, or_false] at hs; rcases hs with rfl | rfl <;> rw [nm_length] <;> omega) HMX.out)
      go_region_held3 (fun _ => True) (exact trivial) (first
        | (go_at_call 18; refine (HW10.out).mono ?_; rintro _ wk10 ⟨kb10, nb10, K10, rfl, hk10, hi10, hb10⟩)
        | fail)
      have N10 := Lib.hid (((M6.out.drew).up (below_alc _ _)).up hb10)
      have KN10 : Hid (Knm wk10 kb10 nb10 7 K10) := hk10
      have KI10 := Lib.hid hi10
      clear hb10 hk10 hi10 HW10
      go_wp2_with fail
      have HW11 := Lib.hid (exm_known (n := 3) (c := 3) ((N10.out.drew).up (below_alc _ _)) (lst3 N10.out.drew (g := g3) (g2 := g6) (g3 := g2) (xs := nm 3) (ys := nm 6) (zs := nm 2) (by simp) (nm_length 3) (by simp) (nm_length 6) (by simp) (nm_length 2)) rfl (by omega) (by intro s hs; simp only [List.mem_cons, List.not_mem_nil, or_false] at hs; rcases hs with rfl | rfl | rfl <;> rw [nm_length] <;> omega) HMX.out)
      go_region_held3 (fun _ => True) (exact trivial) (first
        | (go_at_call 18; refine (HW11.out).mono ?_; rintro _ wk11 ⟨kb11, nb11, K11, rfl, hk11, hi11, hb11⟩)
        | fail)
      have KN10 := Lib.hid ((Knm.below (Knm.below KN10.out (below_dalc _ _)) hb11))
      have N11 := Lib.hid (((N10.out.drew).up (below_alc _ _)).up hb11)
      have KN11 : Hid (Knm wk11 kb11 nb11 7 K11) := hk11
      have KI11 := Lib.hid hi11
      clear hb11 hk11 hi11 HW11
      go_wp2_with fail
      have HW12 := Lib.hid (exm_known (n := 2) (c := 2) ((N11.out.drew).up (below_alc _ _)) (lst2 N11.out.drew (g := g6) (g2 := g5) (xs := nm 6) (ys := nm 5) (by simp) (nm_length 6) (by simp) (nm_length 5)) rfl (by omega) (by intro s hs; simp only [List.mem_cons, List.not_mem_nil, or_false] at hs; rcases hs with rfl | rfl <;> rw [nm_length] <;> omega) HMX.out)
      go_region_held3 (fun _ => True) (exact trivial) (first
        | (go_at_call 18; refine (HW12.out).mono ?_; rintro _ wk12 ⟨kb12, nb12, K12, rfl, hk12, hi12, hb12⟩)
        | fail)
      have KN10 := Lib.hid ((Knm.below (Knm.below KN10.out (below_dalc _ _)) hb12))
      have KN11 := Lib.hid ((Knm.below (Knm.below KN11.out (below_dalc _ _)) hb12))
      have N12 := Lib.hid (((N11.out.drew).up (below_alc _ _)).up hb12)
      have KN12 : Hid (Knm wk12 kb12 nb12 7 K12) := hk12
      have KI12 := Lib.hid hi12
      clear hb12 hk12 hi12 HW12
      have Y1 := Lib.hid ((KI10.out 3).2 ex_one.1)
      have Y2 : Hid (K10 1 = false) := Bool.eq_false_iff.2 fun h => ex_one.2.1 ((KI10.out 1).1 h)
      have Y3 : Hid (K10 5 = false) := Bool.eq_false_iff.2 fun h => ex_one.2.2 ((KI10.out 5).1 h)
      have Y4 := Lib.hid ((KI11.out 5).2 ex_two.1)
      have Y5 : Hid (K11 1 = false) := Bool.eq_false_iff.2 fun h => ex_two.2 ((KI11.out 1).1 h)
      have Y6 := Lib.hid ((KI12.out 2).2 ex_three.1)
      have Y7 := Lib.hid ((KI12.out 4).2 ex_three.2.1)
      have Y8 : Hid (K12 1 = false) := Bool.eq_false_iff.2 fun h => ex_three.2.2 ((KI12.out 1).1 h)
      have LN := Lib.hid (exm_len N12.out)
      clear KI10 KI11 KI12
      go_wp2_with fail
      go_at_call 22
      refine LN.out.mono ?_
      rintro _ _ ⟨rfl, rfl⟩
      have hx_ := exm_has (b := true) N12.out KN10.out (g := g3) (n := 3) (by simp) (by omega) (by omega) Y1.out HMX.out
      go_wp2_with fail
      go_at_call 20
      refine hx_.mono ?_
      rintro _ wh0 ⟨rfl, hb_⟩
      have E0 := Lib.hid (N12.out.up hb_)
      have KN100 := Lib.hid (Knm.below KN10.out hb_)
      have KN110 := Lib.hid (Knm.below KN11.out hb_)
      have KN120 := Lib.hid (Knm.below KN12.out hb_)
      clear hb_ hx_
      have hx_ := exm_has (b := false) E0.out KN100.out (g := g1) (n := 1) (by simp) (by omega) (by omega) Y2.out HMX.out
      go_wp2_with fail
      go_at_call 20
      refine hx_.mono ?_
      rintro _ wh1 ⟨rfl, hb_⟩
      have E1 := Lib.hid (E0.out.up hb_)
      have KN101 := Lib.hid (Knm.below KN100.out hb_)
      have KN111 := Lib.hid (Knm.below KN110.out hb_)
      have KN121 := Lib.hid (Knm.below KN120.out hb_)
      clear hb_ hx_
      have hx_ := exm_has (b := false) E1.out KN101.out (g := g5) (n := 5) (by simp) (by omega) (by omega) Y3.out HMX.out
      go_wp2_with fail
      go_at_call 20
      refine hx_.mono ?_
      rintro _ wh2 ⟨rfl, hb_⟩
      have E2 := Lib.hid (E1.out.up hb_)
      have KN102 := Lib.hid (Knm.below KN101.out hb_)
      have KN112 := Lib.hid (Knm.below KN111.out hb_)
      have KN122 := Lib.hid (Knm.below KN121.out hb_)
      clear hb_ hx_
      have hx_ := exm_has (b := true) E2.out KN112.out (g := g5) (n := 5) (by simp) (by omega) (by omega) Y4.out HMX.out
      go_wp2_with fail
      go_at_call 20
      refine hx_.mono ?_
      rintro _ wh3 ⟨rfl, hb_⟩
      have E3 := Lib.hid (E2.out.up hb_)
      have KN103 := Lib.hid (Knm.below KN102.out hb_)
      have KN113 := Lib.hid (Knm.below KN112.out hb_)
      have KN123 := Lib.hid (Knm.below KN122.out hb_)
      clear hb_ hx_
      have hx_ := exm_has (b := false) E3.out KN113.out (g := g1) (n := 1) (by simp) (by omega) (by omega) Y5.out HMX.out
      go_wp2_with fail
      go_at_call 20
      refine hx_.mono ?_
      rintro _ wh4 ⟨rfl, hb_⟩
      have E4 := Lib.hid (E3.out.up hb_)
      have KN104 := Lib.hid (Knm.below KN103.out hb_)
      have KN114 := Lib.hid (Knm.below KN113.out hb_)
      have KN124 := Lib.hid (Knm.below KN123.out hb_)
      clear hb_ hx_
      have hx_ := exm_has (b := true) E4.out KN124.out (g := g2) (n := 2) (by simp) (by omega) (by omega) Y6.out HMX.out
      go_wp2_with fail
      go_at_call 20
      refine hx_.mono ?_
      rintro _ wh5 ⟨rfl, hb_⟩
      have E5 := Lib.hid (E4.out.up hb_)
      have KN105 := Lib.hid (Knm.below KN104.out hb_)
      have KN115 := Lib.hid (Knm.below KN114.out hb_)
      have KN125 := Lib.hid (Knm.below KN124.out hb_)
      clear hb_ hx_
      have hx_ := exm_has (b := true) E5.out KN125.out (g := g4) (n := 4) (by simp) (by omega) (by omega) Y7.out HMX.out
      go_wp2_with fail
      go_at_call 20
      refine hx_.mono ?_
      rintro _ wh6 ⟨rfl, hb_⟩
      have E6 := Lib.hid (E5.out.up hb_)
      have KN106 := Lib.hid (Knm.below KN105.out hb_)
      have KN116 := Lib.hid (Knm.below KN115.out hb_)
      have KN126 := Lib.hid (Knm.below KN125.out hb_)
      clear hb_ hx_
      have hx_ := exm_has (b := false) E6.out KN126.out (g := g1) (n := 1) (by simp) (by omega) (by omega) Y8.out HMX.out
      go_wp2_with fail
      go_at_call 20
      refine hx_.mono ?_
      rintro _ wh7 ⟨rfl, hb_⟩
      have E7 := Lib.hid (E6.out.up hb_)
      have KN107 := Lib.hid (Knm.below KN106.out hb_)
      have KN117 := Lib.hid (Knm.below KN116.out hb_)
      have KN127 := Lib.hid (Knm.below KN126.out hb_)
      clear hb_ hx_
      go_wp2_with fail
      go_ret
      exact ⟨rfl, E7.out.below⟩
end
end Go.Proofs.Ytbhfjjlfpgineaa
