/- The reference's Seal of the free suite. Conditions: none. -/
import Derived.Test.YtkbffponemihoaaGreatDoorW1
namespace Go.Proofs.YtkbffponemihoaaGreatDoor
open Go.RowKit T
/-- What lies there behind the reference's Make. -/
def RCovM (w : World) (ok : Nat → Prop) (x y : Value) (w' : World) : Prop :=
  ∃ ga, x = .pointer (some ⟨ga, 0, none⟩) ∧ y = .bool true ∧ Arr w' 22 ga (nm 1) ∧ Md ok w w' ∧ w.heap.size ≤ ga
theorem lst_up' {v w : World} {A : Option Addr} {ps : List (List UInt8)} (h : Lst v (fun b => b < v.heap.size) A ps) (hg : v.grownBy w none) : Lst w (fun b => b < w.heap.size) A ps := (h.below (grown_below hg) fun _ h => h).imp fun _ hb => Nat.lt_of_lt_of_le hb hg.size
theorem mk_one {ks plain : List UInt8} (hk : ks.length = 32) (hp : plain.length ≤ 1024) : mk [] 8 [ks, plain] = (1, [(8, [ks, plain])]) := mk_new (T := []) (good_two hk hp) (by simp) (by simp)
theorem rtbl_at {w W : World} {ok : Nat → Prop} {rb : Nat} {T : List Trm} (h : RTbl w ok rb T) (hb : Below w.heap.size w W) : RTbl W (fun b => ok b ∧ b < w.heap.size) rb T := (h.imp fun _ hlt ho => ⟨ho, hlt⟩).below hb
set_option maxRecDepth 100000 in
set_option maxHeartbeats 4000000 in
theorem rseal_free {w : World} {ok0 ok : Nat → Prop} {rb : Nat} {A : Option Addr} {ks plain : List UInt8} {n c : Nat} (h : RTbl w ok0 rb []) (hl : ks.length = 32) (hx : Byt w ok A plain) (hok : ∀ b, ok b → b < w.heap.size) (hn : plain.length = n) (hc : n ≤ c) (hm : c ≤ maxLen) :
    Calls Tryz.prog 8 #[.agg #[.pointer (some ⟨rb, 0, none⟩)], .agg (u8s ks).toArray, .slice A n c] w fun e w' => RAns (rsealR true ks plain) e w' ∧ Md ok0 w w' := by
  have HL := Lib.hid hl
  have HX := Lib.hid hx
  have HO := Lib.hid hok
  have HN := Lib.hid hn
  clear hl hx hok hn
  have HT := Lib.hid h
  clear h
  have HG0 := Lib.hid (grown_below (World.grownBy_alloc w (.cells #[.pointer (some ⟨rb, 0, none⟩)] 33) none))
  have hb0 : C.Blk (w.alloc (.cells #[.pointer (some ⟨rb, 0, none⟩)] 33)) w.heap.size 33 [.pointer (some ⟨rb, 0, none⟩)] := C.Blk.of_alloc w _ 33
  have HB0 := Lib.hid hb0
  clear hb0
  go_enter Tryz.func8, Tryz.ntmps8
  go_wp2_with (refine wpList_box32 i34 rfl _ rfl ks rfl HL.out ?_)
  intro w1 k1 b1 z1
  have HB1 := Lib.hid (HB0.out.keep (b1.block _ (Nat.lt_succ_self _)))
  have B1 := Lib.hid (HG0.out.trans (b1.mono (Nat.le_succ _)))
  have K1 : Hid (Arr w1 22 (w.heap.size + 1) ks) := k1
  have X1 := Lib.hid (byt_up HX.out HO.out B1.out)
  clear b1 z1 HG0 HB0 k1 HX HO
  obtain ⟨gk, hgk⟩ : ∃ g, g = w.heap.size + 1 := ⟨_, rfl⟩
  rw [← hgk] at K1 ⊢
  obtain ⟨gs, hgs⟩ : ∃ g, g = w.heap.size := ⟨_, rfl⟩
  rw [← hgs] at HB1 ⊢
  have HGS : Hid (w.heap.size ≤ gs ∧ w.heap.size ≤ gk) := by show w.heap.size ≤ gs ∧ w.heap.size ≤ gk; omega
  clear hgs hgk
  have hcs : w1.cell? ⟨gs, 0, none⟩ = some (.pointer (some ⟨rb, 0, none⟩)) := HB1.out.get 0 _ rfl
  by_cases hbig : 1024 < n
  · have d0 : ((1024 : Int) < (n : Int)) = True := by simp; omega
    have d1 : decide ((1024 : Int) < (n : Int)) = true := by simp; omega
    have HF : Hid (rsealR true ks plain = none) := by show rsealR true ks plain = none; unfold rsealR; rw [if_neg (by rw [HN.out]; omega)]
    go_wp2
    go_ret2
    exact ⟨.inl ⟨HF.out, rfl⟩, Md.of_below B1.out⟩
  · have d0 : ((1024 : Int) < (n : Int)) = False := by simp; omega
    have d1 : decide ((1024 : Int) < (n : Int)) = false := by simp; omega
    have hn10 : n ≤ 1024 := by omega
    have LT1 : Hid (gs < w1.heap.size) := HB1.out.lt
    clear HB1
    go_wp2_with fail
    go_cut [8, 9] from 23 to 31 (fun x y wx => RCovM w ok0 x y wx)
    case first =>
      obtain ⟨v, hv⟩ : ∃ v, v = w1.drew := ⟨_, rfl⟩
      have hgsv : gs < v.heap.size := by rw [hv]; exact LT1.out
      have hBW : Below w.heap.size w v := by rw [hv]; exact B1.out.drew
      have hS : v.cell? ⟨gs, 0, none⟩ = some (.pointer (some ⟨rb, 0, none⟩)) := by rw [hv]; exact hcs
      have XK : Byt v (fun b => b < v.heap.size) (some ⟨gk, 0, none⟩) ks := by rw [hv]; exact Arr.byt (ok := fun b => b < w1.drew.heap.size) (show Arr w1.drew 22 gk ks from K1.out) (Arr.lt (show Arr w1.drew 22 gk ks from K1.out))
      have XP : Byt v (fun b => b < v.heap.size) A plain := by rw [hv]; exact X1.out
      have hKL := HL.out
      have hPN := HN.out
      have HBW := Lib.hid hBW
      have HB0 := Lib.hid (Below.refl v.heap.size v)
      refine wp_region_held_drew (S := fun W => W.cell? ⟨gs, 0, none⟩ = some (.pointer (some ⟨rb, 0, none⟩))) (by kernel_rfl) (by rw [← hv]; exact hS) (fun hHeld => ?_)
      rw [← hv] at hHeld ⊢
      clear hv hBW hS B1 hcs K1 X1
      refine' wpAnyH_take (i := 0) (oi := { dst := some 24, op := Op.fieldAddr 33 (Operand.tmp 3) 0, type := 0, pos := "ref.go:132", after := #[], guard := none }) (v := .pointer (some ⟨gs, 0, none⟩)) rfl (by kernel_rfl) (by kernel_rfl) (by kernel_rfl) (fun _ _ _ h => h) (Or.inl ⟨by rfl, fun w' hSw => by go_simp⟩) (by assumption) ?qz1
      try simp only [Act.put, List.setIfInBounds_toArray, List.set_cons_zero, List.set_cons_succ]
      refine' wpAnyH_take (i := 1) (oi := { dst := some 25, op := Op.load 31 (Operand.tmp 24), type := 31, pos := "ref.go:132", after := #[{ on := 0, ground := Ground.data }], guard := none }) (v := .pointer (some ⟨rb, 0, none⟩)) rfl (by kernel_rfl) (by kernel_rfl) (by kernel_rfl) (fun _ _ _ h => h) (Or.inl ⟨by rfl, fun w' hSw => by go_simp⟩) (by assumption) ?qz2
      try simp only [Act.put, List.setIfInBounds_toArray, List.set_cons_zero, List.set_cons_succ]
      refine' wpAnyH_take (i := 2) (oi := { dst := some 26, op := Op.slice 22 (Operand.tmp 4) none none none, type := 23, pos := "ref.go:132", after := #[], guard := none }) (v := .slice (some ⟨gk, 0, none⟩) 32 32) rfl (by kernel_rfl) (by kernel_rfl) (by kernel_rfl) (fun _ _ _ h => h) (Or.inl ⟨by rfl, fun w' hSw => by go_simp⟩) (by assumption) ?qz3
      try simp only [Act.put, List.setIfInBounds_toArray, List.set_cons_zero, List.set_cons_succ]
      refine' wpAnyH_take (i := 3) (oi := { dst := some 27, op := Op.move (Operand.tmp 2), type := 23, pos := "ref.go:132", after := #[], guard := none }) (v := .slice A n c) rfl (by kernel_rfl) (by kernel_rfl) (by kernel_rfl) (fun _ _ _ h => h) (Or.inl ⟨by rfl, fun _ _ => rfl⟩) (by assumption) ?qz4
      try simp only [Act.put, List.setIfInBounds_toArray, List.set_cons_zero, List.set_cons_succ]
      refine wpAnyH_ready (rs := [4, 9]) (by kernel_rfl) (by simp) ?_
      refine AllReadyH.cons (o := { dst := some 28, op := Op.buildSlice 46 2 #[(0, Operand.tmp 26), (1, Operand.tmp 27)], type := 46, pos := "ref.go:132", after := #[{ on := 2, ground := Ground.data }, { on := 3, ground := Ground.data }], guard := none }) rfl (fun K hK => ?_) (AllReadyH.cons (o := { dst := some 8, op := Op.alloc 22, type := 0, pos := "ref.go:132", after := #[], guard := none }) rfl (fun K hK => ?_) AllReadyH.nil)
      · rw [if_pos (by rfl)]
        go_simp
        have hls_ := lst_two (byt_up XK (fun _ h => h) HB0.out) (byt_up XP (fun _ h => h) HB0.out) (fun _ h => h) hKL hPN (Nat.le_refl _) (by unfold maxLen; omega) hc hm
        have hga_ := World.grownBy_alloc v (.cells #[.slice (some ⟨gk, 0, none⟩) 32 32, .slice A n c] 23) none
        have hsz_ : (v.alloc (.cells #[.slice (some ⟨gk, 0, none⟩) 32 32, .slice A n c] 23)).heap.size = v.heap.size + 1 := World.size_alloc _ _
        obtain ⟨wz5, hw_⟩ : ∃ w', v.alloc (.cells #[.slice (some ⟨gk, 0, none⟩) 32 32, .slice A n c] 23) = w' := ⟨_, rfl⟩
        rw [hw_] at hls_ hga_ hsz_ ⊢
        obtain ⟨glz8, hg_⟩ : ∃ g, g = v.heap.size := ⟨_, rfl⟩
        rw [← hg_] at hls_ hsz_ ⊢
        have LSz7 : Hid (Lst wz5 (fun b => b < wz5.heap.size) (some ⟨glz8, 0, none⟩) [ks, plain]) := hls_.imp fun b hb => by rw [hsz_]; exact hb
        have Bz6 := Lib.hid (HB0.out.trans ((grown_below hga_).mono HB0.out.size))
        clear hls_ hsz_ hw_ hg_
        refine hK.out _ _ (hga_.cell hHeld (by simp)) (fun hHeld => ?_)
        clear hK K
        try simp only [Act.put, List.setIfInBounds_toArray, List.set_cons_zero, List.set_cons_succ]
        refine wpAnyH_ready (rs := [5, 9]) (by kernel_rfl) (by simp) ?_
        refine AllReadyH.cons (o := { dst := some 29, op := Op.call { callee := Callee.value (Operand.func 19), args := #[Operand.tmp 25, Operand.const (Value.int IntKind.i64 8), Operand.tmp 28], argTypes := #[31, 3, 46] }, type := 44, pos := "ref.go:132", after := #[{ on := 1, ground := Ground.data }, { on := 4, ground := Ground.data }], guard := none }) rfl (fun K hK => ?_) (AllReadyH.cons (o := { dst := some 8, op := Op.alloc 22, type := 0, pos := "ref.go:132", after := #[], guard := none }) rfl (fun K hK => ?_) AllReadyH.nil)
        · rw [if_pos (by rfl)]
          go_simp
          have hB_ := HBW.out.trans (Bz6.out.mono HBW.out.size)
          have hc_ : Calls Tryz.prog 19 #[.pointer (some ⟨rb, 0, none⟩), .int .i64 8, .slice (some ⟨glz8, 0, none⟩) 2 2] wz5 (RMakE wz5 (fun b => ok0 b ∧ b < w.heap.size) rb (1, [(8, [ks, plain])])) := by
            have h := rmake_any (kind := 8) (c := 2) (rtbl_at HT.out hB_) (fun _ h => by cases h) LSz7.out (fun _ h => h) (by unfold maxLen; simp)
            rw [mk_one HL.out (by rw [HN.out]; exact hn10)] at h
            exact h
          with_reducible refine hc_.mono ?_
          rintro _ wz9 ⟨rfl, -, hm_⟩
          have hs_ : gs < wz5.heap.size := Nat.lt_of_lt_of_le hgsv Bz6.out.size
          have Mz10 : Hid (Md ok0 w wz9) := (Md.of_below hB_).trans (hm_.imp fun _ _ h => .inl h.1)
          have SZz11 : Hid (v.heap.size ≤ wz9.heap.size) := Nat.le_trans Bz6.out.size hm_.size
          refine hK.out _ _ ((World.cell?_of_block (hm_.block gs hs_ (fun h => Nat.lt_irrefl _ (Nat.lt_of_lt_of_le h.2 HGS.out.1)))).trans hHeld) (fun hHeld => ?_)
          clear hK K
          refine' wpAnyH_take (i := 6) (oi := { dst := some 23, op := Op.move (Operand.tmp 29), type := 44, pos := "ref.go:132", after := #[{ on := 5, ground := Ground.data }], guard := none }) (v := _) rfl (by kernel_rfl) (by kernel_rfl) (by kernel_rfl) (fun _ _ _ h => h) (Or.inl ⟨by rfl, fun _ _ => rfl⟩) (by assumption) ?qz12
          try simp only [Act.put, List.setIfInBounds_toArray, List.set_cons_zero, List.set_cons_succ]
          refine' wpAnyH_take (i := 7) (oi := { dst := some 30, op := Op.extract (Operand.tmp 23) 0, type := 22, pos := "ref.go:132", after := #[{ on := 6, ground := Ground.data }], guard := none }) (v := .agg (u8s (nm 1)).toArray) rfl (by kernel_rfl) (by kernel_rfl) (by kernel_rfl) (fun _ _ _ h => h) (Or.inl ⟨by rfl, fun _ _ => rfl⟩) (by assumption) ?qz13
          try simp only [Act.put, List.setIfInBounds_toArray, List.set_cons_zero, List.set_cons_succ]
          refine' wpAnyH_take (i := 8) (oi := { dst := some 31, op := Op.extract (Operand.tmp 23) 1, type := 4, pos := "ref.go:132", after := #[{ on := 6, ground := Ground.data }, { on := 10, ground := Ground.gcOnly Departure.lateStores }], guard := none }) (v := .bool true) rfl (by kernel_rfl) (by kernel_rfl) (by kernel_rfl) (fun _ _ _ h => h) (Or.inl ⟨by rfl, fun _ _ => rfl⟩) (by assumption) ?qz14
          try simp only [Act.put, List.setIfInBounds_toArray, List.set_cons_zero, List.set_cons_succ]
          refine wpAnyH_ready (rs := [9]) (by kernel_rfl) (by simp) ?_
          refine AllReadyH.cons (o := { dst := some 8, op := Op.alloc 22, type := 0, pos := "ref.go:132", after := #[], guard := none }) rfl (fun K hK => ?_) AllReadyH.nil
          rw [if_pos (by rfl)]
          refine wp_alloc_ar ar25 rfl ?_
          intro wz15 hk_ hga_ hz_
          have ARz17 := Lib.hid hk_
          obtain ⟨gaz16, hg_⟩ : ∃ g, g = wz9.heap.size := ⟨_, rfl⟩
          have Mz19 := Lib.hid (Mz10.out.trans (Md.of_below (grown_below hga_)))
          have GEz18 : Hid (v.heap.size ≤ gaz16 ∧ gaz16 < wz15.heap.size) := ⟨by rw [hg_]; exact SZz11.out, by rw [hz_, hg_]; exact Nat.lt_succ_self _⟩
          have HNEgaz16 : Hid (gaz16 ≠ gs) := fun e => by have := hgsv; have := GEz18.out.1; omega
          rw [← hg_] at ARz17 ⊢
          clear hg_ hz_ hk_
          refine hK.out _ _ (hga_.cell hHeld (by simp)) (fun hHeld => ?_)
          clear hK K
          dsimp only [Act.put]
          refine wpAnyH_ready (rs := [10]) (by kernel_rfl) (by simp) ?_
          refine AllReadyH.cons (o := { dst := none, op := Op.store 22 (Operand.tmp 8) (Operand.tmp 30), type := 0, pos := "ref.go:132", after := #[{ on := 9, ground := Ground.data }, { on := 7, ground := Ground.data }, { on := 5, ground := Ground.chain }, { on := 0, ground := Ground.phase }, { on := 1, ground := Ground.phase }, { on := 2, ground := Ground.phase }, { on := 3, ground := Ground.phase }, { on := 4, ground := Ground.phase }, { on := 5, ground := Ground.phase }, { on := 6, ground := Ground.phase }, { on := 7, ground := Ground.phase }, { on := 8, ground := Ground.textOnly Departure.lateStores }, { on := 9, ground := Ground.phase }], guard := none }) rfl (fun K hK => ?_) AllReadyH.nil
          rw [if_pos (by rfl)]
          refine wp_store_ar ar25 _ _ rfl gaz16 (zz 32) (nm 1) rfl rfl ARz17.out (zz_length _) (nm_length 1) ?_
          intro wz20 hk_ hgb_ hz_
          have Mz21 : Hid (Md ok0 w wz20) := Mz19.out.trans ⟨hgb_.os, hgb_.tape, hgb_.output, hgb_.size, fun k hk hn => hgb_.block k hk (fun e => hn (by rw [Option.some.inj e]; exact .inr ⟨Nat.le_trans HBW.out.size GEz18.out.1, GEz18.out.2⟩))⟩
          have ARz22 := Lib.hid hk_
          have hne_ : gaz16 ≠ gs := HNEgaz16.out
          refine hK.out _ _ (hgb_.cell hHeld (by simpa using Ne.symm (hne_))) (fun hHeld => ?_)
          clear hK K
          dsimp only [Act.put]
          refine wpAnyH_ready (rs := [11]) (by kernel_rfl) (by simp) ?_
          refine AllReadyH.cons (o := { dst := some 9, op := Op.assign (Operand.tmp 31), type := 4, pos := "ref.go:132", after := #[{ on := 8, ground := Ground.data }, { on := 10, ground := Ground.chain }, { on := 0, ground := Ground.phase }, { on := 1, ground := Ground.phase }, { on := 2, ground := Ground.phase }, { on := 3, ground := Ground.phase }, { on := 4, ground := Ground.phase }, { on := 5, ground := Ground.phase }, { on := 6, ground := Ground.phase }, { on := 7, ground := Ground.phase }, { on := 8, ground := Ground.phase }, { on := 9, ground := Ground.phase }, { on := 10, ground := Ground.phase }], guard := none }) rfl (fun K hK => ?_) AllReadyH.nil
          rw [if_pos (by rfl)]
          go_simp
          refine hK.out _ _ hHeld (fun hHeld => ?_)
          clear hK K
          try simp only [Act.put, List.setIfInBounds_toArray, List.set_cons_zero, List.set_cons_succ]
          refine wpAnyH_done (by kernel_rfl) ?_ _
          go_wp2_with (fail)
          go_meet
          case rel => exact ⟨gaz16, rfl, rfl, ARz22.out, Mz21.out, Nat.le_trans HBW.out.size GEz18.out.1⟩
        · rw [if_pos (by rfl)]
          refine wp_alloc_ar ar25 rfl ?_
          intro wz23 hk_ hga_ hz_
          have ARz25 := Lib.hid hk_
          obtain ⟨gaz24, hg_⟩ : ∃ g, g = wz5.heap.size := ⟨_, rfl⟩
          have Bz27 := Lib.hid (Bz6.out.trans ((grown_below hga_).mono Bz6.out.size))
          have GEz26 : Hid (v.heap.size ≤ gaz24 ∧ gaz24 < wz23.heap.size) := ⟨by rw [hg_]; exact Bz6.out.size, by rw [hz_, hg_]; exact Nat.lt_succ_self _⟩
          have HNEgaz24 : Hid (gaz24 ≠ gs) := fun e => by have := hgsv; have := GEz26.out.1; omega
          have LSz28 := Lib.hid (lst_up' LSz7.out hga_)
          rw [← hg_] at ARz25 ⊢
          clear hg_ hz_ hk_
          refine hK.out _ _ (hga_.cell hHeld (by simp)) (fun hHeld => ?_)
          clear hK K
          dsimp only [Act.put]
          refine wpAnyH_ready (rs := [5]) (by kernel_rfl) (by simp) ?_
          refine AllReadyH.cons (o := { dst := some 29, op := Op.call { callee := Callee.value (Operand.func 19), args := #[Operand.tmp 25, Operand.const (Value.int IntKind.i64 8), Operand.tmp 28], argTypes := #[31, 3, 46] }, type := 44, pos := "ref.go:132", after := #[{ on := 1, ground := Ground.data }, { on := 4, ground := Ground.data }], guard := none }) rfl (fun K hK => ?_) AllReadyH.nil
          rw [if_pos (by rfl)]
          go_simp
          have hB_ := HBW.out.trans (Bz27.out.mono HBW.out.size)
          have hc_ : Calls Tryz.prog 19 #[.pointer (some ⟨rb, 0, none⟩), .int .i64 8, .slice (some ⟨glz8, 0, none⟩) 2 2] wz23 (RMakE wz23 (fun b => ok0 b ∧ b < w.heap.size) rb (1, [(8, [ks, plain])])) := by
            have h := rmake_any (kind := 8) (c := 2) (rtbl_at HT.out hB_) (fun _ h => by cases h) LSz28.out (fun _ h => h) (by unfold maxLen; simp)
            rw [mk_one HL.out (by rw [HN.out]; exact hn10)] at h
            exact h
          with_reducible refine hc_.mono ?_
          rintro _ wz29 ⟨rfl, -, hm_⟩
          have hs_ : gs < wz23.heap.size := Nat.lt_of_lt_of_le hgsv Bz27.out.size
          have Mz30 : Hid (Md ok0 w wz29) := (Md.of_below hB_).trans (hm_.imp fun _ _ h => .inl h.1)
          have SZz31 : Hid (v.heap.size ≤ wz29.heap.size) := Nat.le_trans Bz27.out.size hm_.size
          have ARz32 := Lib.hid (Arr.keep ARz25.out (hm_.block _ GEz26.out.2 (fun h => Nat.lt_irrefl _ (Nat.lt_of_lt_of_le h.2 (Nat.le_trans HBW.out.size GEz26.out.1)))))
          have GEz33 : Hid (v.heap.size ≤ gaz24 ∧ gaz24 < wz29.heap.size) := ⟨GEz26.out.1, Nat.lt_of_lt_of_le GEz26.out.2 hm_.size⟩
          refine hK.out _ _ ((World.cell?_of_block (hm_.block gs hs_ (fun h => Nat.lt_irrefl _ (Nat.lt_of_lt_of_le h.2 HGS.out.1)))).trans hHeld) (fun hHeld => ?_)
          clear hK K
          refine' wpAnyH_take (i := 6) (oi := { dst := some 23, op := Op.move (Operand.tmp 29), type := 44, pos := "ref.go:132", after := #[{ on := 5, ground := Ground.data }], guard := none }) (v := _) rfl (by kernel_rfl) (by kernel_rfl) (by kernel_rfl) (fun _ _ _ h => h) (Or.inl ⟨by rfl, fun _ _ => rfl⟩) (by assumption) ?qz34
          try simp only [Act.put, List.setIfInBounds_toArray, List.set_cons_zero, List.set_cons_succ]
          refine' wpAnyH_take (i := 7) (oi := { dst := some 30, op := Op.extract (Operand.tmp 23) 0, type := 22, pos := "ref.go:132", after := #[{ on := 6, ground := Ground.data }], guard := none }) (v := .agg (u8s (nm 1)).toArray) rfl (by kernel_rfl) (by kernel_rfl) (by kernel_rfl) (fun _ _ _ h => h) (Or.inl ⟨by rfl, fun _ _ => rfl⟩) (by assumption) ?qz35
          try simp only [Act.put, List.setIfInBounds_toArray, List.set_cons_zero, List.set_cons_succ]
          refine' wpAnyH_take (i := 8) (oi := { dst := some 31, op := Op.extract (Operand.tmp 23) 1, type := 4, pos := "ref.go:132", after := #[{ on := 6, ground := Ground.data }, { on := 10, ground := Ground.gcOnly Departure.lateStores }], guard := none }) (v := .bool true) rfl (by kernel_rfl) (by kernel_rfl) (by kernel_rfl) (fun _ _ _ h => h) (Or.inl ⟨by rfl, fun _ _ => rfl⟩) (by assumption) ?qz36
          try simp only [Act.put, List.setIfInBounds_toArray, List.set_cons_zero, List.set_cons_succ]
          refine wpAnyH_ready (rs := [10]) (by kernel_rfl) (by simp) ?_
          refine AllReadyH.cons (o := { dst := none, op := Op.store 22 (Operand.tmp 8) (Operand.tmp 30), type := 0, pos := "ref.go:132", after := #[{ on := 9, ground := Ground.data }, { on := 7, ground := Ground.data }, { on := 5, ground := Ground.chain }, { on := 0, ground := Ground.phase }, { on := 1, ground := Ground.phase }, { on := 2, ground := Ground.phase }, { on := 3, ground := Ground.phase }, { on := 4, ground := Ground.phase }, { on := 5, ground := Ground.phase }, { on := 6, ground := Ground.phase }, { on := 7, ground := Ground.phase }, { on := 8, ground := Ground.textOnly Departure.lateStores }, { on := 9, ground := Ground.phase }], guard := none }) rfl (fun K hK => ?_) AllReadyH.nil
          rw [if_pos (by rfl)]
          refine wp_store_ar ar25 _ _ rfl gaz24 (zz 32) (nm 1) rfl rfl ARz32.out (zz_length _) (nm_length 1) ?_
          intro wz37 hk_ hgb_ hz_
          have Mz38 : Hid (Md ok0 w wz37) := Mz30.out.trans ⟨hgb_.os, hgb_.tape, hgb_.output, hgb_.size, fun k hk hn => hgb_.block k hk (fun e => hn (by rw [Option.some.inj e]; exact .inr ⟨Nat.le_trans HBW.out.size GEz33.out.1, GEz33.out.2⟩))⟩
          have ARz39 := Lib.hid hk_
          have hne_ : gaz24 ≠ gs := HNEgaz24.out
          refine hK.out _ _ (hgb_.cell hHeld (by simpa using Ne.symm (hne_))) (fun hHeld => ?_)
          clear hK K
          dsimp only [Act.put]
          refine wpAnyH_ready (rs := [11]) (by kernel_rfl) (by simp) ?_
          refine AllReadyH.cons (o := { dst := some 9, op := Op.assign (Operand.tmp 31), type := 4, pos := "ref.go:132", after := #[{ on := 8, ground := Ground.data }, { on := 10, ground := Ground.chain }, { on := 0, ground := Ground.phase }, { on := 1, ground := Ground.phase }, { on := 2, ground := Ground.phase }, { on := 3, ground := Ground.phase }, { on := 4, ground := Ground.phase }, { on := 5, ground := Ground.phase }, { on := 6, ground := Ground.phase }, { on := 7, ground := Ground.phase }, { on := 8, ground := Ground.phase }, { on := 9, ground := Ground.phase }, { on := 10, ground := Ground.phase }], guard := none }) rfl (fun K hK => ?_) AllReadyH.nil
          rw [if_pos (by rfl)]
          go_simp
          refine hK.out _ _ hHeld (fun hHeld => ?_)
          clear hK K
          try simp only [Act.put, List.setIfInBounds_toArray, List.set_cons_zero, List.set_cons_succ]
          refine wpAnyH_done (by kernel_rfl) ?_ _
          go_wp2_with (fail)
          go_meet
          case rel => exact ⟨gaz24, rfl, rfl, ARz39.out, Mz38.out, Nat.le_trans HBW.out.size GEz33.out.1⟩
      · rw [if_pos (by rfl)]
        refine wp_alloc_ar ar25 rfl ?_
        intro wz40 hk_ hga_ hz_
        have ARz42 := Lib.hid hk_
        obtain ⟨gaz41, hg_⟩ : ∃ g, g = v.heap.size := ⟨_, rfl⟩
        have Bz44 := Lib.hid (HB0.out.trans ((grown_below hga_).mono HB0.out.size))
        have GEz43 : Hid (v.heap.size ≤ gaz41 ∧ gaz41 < wz40.heap.size) := ⟨by rw [hg_]; exact HB0.out.size, by rw [hz_, hg_]; exact Nat.lt_succ_self _⟩
        have HNEgaz41 : Hid (gaz41 ≠ gs) := fun e => by have := hgsv; have := GEz43.out.1; omega
        rw [← hg_] at ARz42 ⊢
        clear hg_ hz_ hk_
        refine hK.out _ _ (hga_.cell hHeld (by simp)) (fun hHeld => ?_)
        clear hK K
        dsimp only [Act.put]
        refine wpAnyH_ready (rs := [4]) (by kernel_rfl) (by simp) ?_
        refine AllReadyH.cons (o := { dst := some 28, op := Op.buildSlice 46 2 #[(0, Operand.tmp 26), (1, Operand.tmp 27)], type := 46, pos := "ref.go:132", after := #[{ on := 2, ground := Ground.data }, { on := 3, ground := Ground.data }], guard := none }) rfl (fun K hK => ?_) AllReadyH.nil
        rw [if_pos (by rfl)]
        go_simp
        have hls_ := lst_two (byt_up XK (fun _ h => h) Bz44.out) (byt_up XP (fun _ h => h) Bz44.out) (fun _ h => h) hKL hPN (Nat.le_refl _) (by unfold maxLen; omega) hc hm
        have hga_ := World.grownBy_alloc wz40 (.cells #[.slice (some ⟨gk, 0, none⟩) 32 32, .slice A n c] 23) none
        have hsz_ : (wz40.alloc (.cells #[.slice (some ⟨gk, 0, none⟩) 32 32, .slice A n c] 23)).heap.size = wz40.heap.size + 1 := World.size_alloc _ _
        obtain ⟨wz45, hw_⟩ : ∃ w', wz40.alloc (.cells #[.slice (some ⟨gk, 0, none⟩) 32 32, .slice A n c] 23) = w' := ⟨_, rfl⟩
        rw [hw_] at hls_ hga_ hsz_ ⊢
        obtain ⟨glz48, hg_⟩ : ∃ g, g = wz40.heap.size := ⟨_, rfl⟩
        rw [← hg_] at hls_ hsz_ ⊢
        have LSz47 : Hid (Lst wz45 (fun b => b < wz45.heap.size) (some ⟨glz48, 0, none⟩) [ks, plain]) := hls_.imp fun b hb => by rw [hsz_]; exact hb
        have Bz46 := Lib.hid (Bz44.out.trans ((grown_below hga_).mono Bz44.out.size))
        clear hls_ hsz_ hw_ hg_
        have ARz49 := Lib.hid (Arr.grown ARz42.out hga_ (by simp))
        have GEz50 : Hid (v.heap.size ≤ gaz41 ∧ gaz41 < wz45.heap.size) := ⟨GEz43.out.1, Nat.lt_of_lt_of_le GEz43.out.2 hga_.size⟩
        refine hK.out _ _ (hga_.cell hHeld (by simp)) (fun hHeld => ?_)
        clear hK K
        try simp only [Act.put, List.setIfInBounds_toArray, List.set_cons_zero, List.set_cons_succ]
        refine wpAnyH_ready (rs := [5]) (by kernel_rfl) (by simp) ?_
        refine AllReadyH.cons (o := { dst := some 29, op := Op.call { callee := Callee.value (Operand.func 19), args := #[Operand.tmp 25, Operand.const (Value.int IntKind.i64 8), Operand.tmp 28], argTypes := #[31, 3, 46] }, type := 44, pos := "ref.go:132", after := #[{ on := 1, ground := Ground.data }, { on := 4, ground := Ground.data }], guard := none }) rfl (fun K hK => ?_) AllReadyH.nil
        rw [if_pos (by rfl)]
        go_simp
        have hB_ := HBW.out.trans (Bz46.out.mono HBW.out.size)
        have hc_ : Calls Tryz.prog 19 #[.pointer (some ⟨rb, 0, none⟩), .int .i64 8, .slice (some ⟨glz48, 0, none⟩) 2 2] wz45 (RMakE wz45 (fun b => ok0 b ∧ b < w.heap.size) rb (1, [(8, [ks, plain])])) := by
          have h := rmake_any (kind := 8) (c := 2) (rtbl_at HT.out hB_) (fun _ h => by cases h) LSz47.out (fun _ h => h) (by unfold maxLen; simp)
          rw [mk_one HL.out (by rw [HN.out]; exact hn10)] at h
          exact h
        with_reducible refine hc_.mono ?_
        rintro _ wz51 ⟨rfl, -, hm_⟩
        have hs_ : gs < wz45.heap.size := Nat.lt_of_lt_of_le hgsv Bz46.out.size
        have Mz52 : Hid (Md ok0 w wz51) := (Md.of_below hB_).trans (hm_.imp fun _ _ h => .inl h.1)
        have SZz53 : Hid (v.heap.size ≤ wz51.heap.size) := Nat.le_trans Bz46.out.size hm_.size
        have ARz54 := Lib.hid (Arr.keep ARz49.out (hm_.block _ GEz50.out.2 (fun h => Nat.lt_irrefl _ (Nat.lt_of_lt_of_le h.2 (Nat.le_trans HBW.out.size GEz50.out.1)))))
        have GEz55 : Hid (v.heap.size ≤ gaz41 ∧ gaz41 < wz51.heap.size) := ⟨GEz50.out.1, Nat.lt_of_lt_of_le GEz50.out.2 hm_.size⟩
        refine hK.out _ _ ((World.cell?_of_block (hm_.block gs hs_ (fun h => Nat.lt_irrefl _ (Nat.lt_of_lt_of_le h.2 HGS.out.1)))).trans hHeld) (fun hHeld => ?_)
        clear hK K
        refine' wpAnyH_take (i := 6) (oi := { dst := some 23, op := Op.move (Operand.tmp 29), type := 44, pos := "ref.go:132", after := #[{ on := 5, ground := Ground.data }], guard := none }) (v := _) rfl (by kernel_rfl) (by kernel_rfl) (by kernel_rfl) (fun _ _ _ h => h) (Or.inl ⟨by rfl, fun _ _ => rfl⟩) (by assumption) ?qz56
        try simp only [Act.put, List.setIfInBounds_toArray, List.set_cons_zero, List.set_cons_succ]
        refine' wpAnyH_take (i := 7) (oi := { dst := some 30, op := Op.extract (Operand.tmp 23) 0, type := 22, pos := "ref.go:132", after := #[{ on := 6, ground := Ground.data }], guard := none }) (v := .agg (u8s (nm 1)).toArray) rfl (by kernel_rfl) (by kernel_rfl) (by kernel_rfl) (fun _ _ _ h => h) (Or.inl ⟨by rfl, fun _ _ => rfl⟩) (by assumption) ?qz57
        try simp only [Act.put, List.setIfInBounds_toArray, List.set_cons_zero, List.set_cons_succ]
        refine' wpAnyH_take (i := 8) (oi := { dst := some 31, op := Op.extract (Operand.tmp 23) 1, type := 4, pos := "ref.go:132", after := #[{ on := 6, ground := Ground.data }, { on := 10, ground := Ground.gcOnly Departure.lateStores }], guard := none }) (v := .bool true) rfl (by kernel_rfl) (by kernel_rfl) (by kernel_rfl) (fun _ _ _ h => h) (Or.inl ⟨by rfl, fun _ _ => rfl⟩) (by assumption) ?qz58
        try simp only [Act.put, List.setIfInBounds_toArray, List.set_cons_zero, List.set_cons_succ]
        refine wpAnyH_ready (rs := [10]) (by kernel_rfl) (by simp) ?_
        refine AllReadyH.cons (o := { dst := none, op := Op.store 22 (Operand.tmp 8) (Operand.tmp 30), type := 0, pos := "ref.go:132", after := #[{ on := 9, ground := Ground.data }, { on := 7, ground := Ground.data }, { on := 5, ground := Ground.chain }, { on := 0, ground := Ground.phase }, { on := 1, ground := Ground.phase }, { on := 2, ground := Ground.phase }, { on := 3, ground := Ground.phase }, { on := 4, ground := Ground.phase }, { on := 5, ground := Ground.phase }, { on := 6, ground := Ground.phase }, { on := 7, ground := Ground.phase }, { on := 8, ground := Ground.textOnly Departure.lateStores }, { on := 9, ground := Ground.phase }], guard := none }) rfl (fun K hK => ?_) AllReadyH.nil
        rw [if_pos (by rfl)]
        refine wp_store_ar ar25 _ _ rfl gaz41 (zz 32) (nm 1) rfl rfl ARz54.out (zz_length _) (nm_length 1) ?_
        intro wz59 hk_ hgb_ hz_
        have Mz60 : Hid (Md ok0 w wz59) := Mz52.out.trans ⟨hgb_.os, hgb_.tape, hgb_.output, hgb_.size, fun k hk hn => hgb_.block k hk (fun e => hn (by rw [Option.some.inj e]; exact .inr ⟨Nat.le_trans HBW.out.size GEz55.out.1, GEz55.out.2⟩))⟩
        have ARz61 := Lib.hid hk_
        have hne_ : gaz41 ≠ gs := HNEgaz41.out
        refine hK.out _ _ (hgb_.cell hHeld (by simpa using Ne.symm (hne_))) (fun hHeld => ?_)
        clear hK K
        dsimp only [Act.put]
        refine wpAnyH_ready (rs := [11]) (by kernel_rfl) (by simp) ?_
        refine AllReadyH.cons (o := { dst := some 9, op := Op.assign (Operand.tmp 31), type := 4, pos := "ref.go:132", after := #[{ on := 8, ground := Ground.data }, { on := 10, ground := Ground.chain }, { on := 0, ground := Ground.phase }, { on := 1, ground := Ground.phase }, { on := 2, ground := Ground.phase }, { on := 3, ground := Ground.phase }, { on := 4, ground := Ground.phase }, { on := 5, ground := Ground.phase }, { on := 6, ground := Ground.phase }, { on := 7, ground := Ground.phase }, { on := 8, ground := Ground.phase }, { on := 9, ground := Ground.phase }, { on := 10, ground := Ground.phase }], guard := none }) rfl (fun K hK => ?_) AllReadyH.nil
        rw [if_pos (by rfl)]
        go_simp
        refine hK.out _ _ hHeld (fun hHeld => ?_)
        clear hK K
        try simp only [Act.put, List.setIfInBounds_toArray, List.set_cons_zero, List.set_cons_succ]
        refine wpAnyH_done (by kernel_rfl) ?_ _
        go_wp2_with (fail)
        go_meet
        case rel => exact ⟨gaz41, rfl, rfl, ARz61.out, Mz60.out, Nat.le_trans HBW.out.size GEz55.out.1⟩
    case rest =>
      obtain ⟨ga, rfl, rfl, ha, hmd, hge⟩ := hcut
      have HM := Lib.hid hmd
      have HA := Lib.hid ha
      clear hmd ha B1 hcs K1 X1 HT
      obtain ⟨i0, hi, hz0, hz1, hz2⟩ := info_parts Tryz.info5
      obtain ⟨N, hNs⟩ : ∃ N, N = sizeL n := ⟨_, rfl⟩
      have hN1 : 32 ≤ N := by rw [hNs]; unfold sizeL; omega
      have hN2 : N ≤ 2000 := by rw [hNs]; unfold sizeL; omega
      have hsz := rsiz_any wc n hn10
      rw [← hNs] at hsz
      have HNS := Lib.hid hNs
      clear hNs
      go_wp2_with fail
      go_at_call 20
      refine hsz.mono ?_
      rintro _ w3 ⟨rfl, rfl⟩
      clear hsz
      go_wp2_with (with_reducible refine wpList_make_full _ rfl _ _ 23 rfl w3.heap.size 5 i0 (.int .u8 0) 1 Tryz.underlying23 hi hz0 hz1 .i64 .i64 _ _ N rfl rfl rfl rfl ?c1 ?c2 ?c3 ?_)
      case c1 => rw [hz2]; omega
      case c2 => unfold maxLen; omega
      case c3 => exact Nat.le_refl _
      intro w4 hown g4
      rw [C.made_u8] at hown
      have hb4 : C.Blk w4 w3.heap.size 5 ([] ++ C.u8s (zz N) ++ []) := by
        rw [List.nil_append, List.append_nil]
        exact C.Blk.of_owns_e hown
      have hk4 := Arr.grown HA.out g4 (by simp)
      have hkk : C.Byt w4 (fun b => b < w4.heap.size) (some ⟨ga, 0, none⟩) (nm 1) := Arr.byt (ok := fun b => b < w4.heap.size) hk4 (Arr.lt hk4)
      have HBB := Lib.hid hb4
      have HKK := Lib.hid hkk
      have HMM : Hid (Nat.min (nm 1).length (zz N).length = 32) := by
        rw [nm_length, zz_length]
        exact Nat.min_eq_left hN1
      have G4 := Lib.hid g4
      clear hown hb4 hk4 hkk g4 HA
      go_wp2_with (refine C.wpList_copy_blk rfl _ _ rfl w3.heap.size 0 N N 32 32 (some ⟨ga, 0, none⟩) (nm 1) (zz N) rfl rfl (nm_length _) (zz_length N) 5 [] [] HBB.out rfl (fun b => b < w4.heap.size) HKK.out 32 HMM.out ?_)
      intro w5 k5 g5 z5
      have hk5 : C.Blk w5 w3.heap.size 5 (u8s (pad (nm 1) N)) := by
        have h : C.Blk w5 w3.heap.size 5 (C.u8s (C.lay (nm 1) (zz N))) := C.Blk.to k5 (by simp)
        rw [lay_pad _ (nm_length _) N hN1] at h
        exact h
      have hy5 : Byt w5 (fun b => b = w3.heap.size) (some ⟨w3.heap.size, 0, none⟩) (pad (nm 1) N) := C.byt_blk hk5
      have Y5 : Hid (Byt w5 (fun b => b < w5.heap.size) (some ⟨w3.heap.size, 0, none⟩) (pad (nm 1) N)) := hy5.imp fun b e => by rw [e]; exact hk5.lt
      have G5 : Hid (Md ok0 w w5) := HM.out.trans (Md.of_below (grown_below (World.grownBy.andThen G4.out g5 (by rintro _ ⟨⟩; exact .inl (Nat.le_refl _)))))
      have HF : Hid (rsealR true ks plain = some (pad (nm 1) N)) := by show rsealR true ks plain = _; unfold rsealR; rw [if_pos (by rw [HN.out]; exact hn10), HN.out, HNS.out]; rfl
      have HPL : Hid ((pad (nm 1) N).length = N) := pad_length (nm_length 1) hN1
      clear k5 g5 z5 hk5 hy5 HBB HKK HMM G4
      go_wp2
      go_ret2
      exact ⟨rans_some HF.out HPL.out Y5.out, G5.out⟩
end Go.Proofs.YtkbffponemihoaaGreatDoor
