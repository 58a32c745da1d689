/- AesBack: what was locked is unlocked as it was, and the other way round. Conditions: none. -/
import Derived.Test.YtgmogphojmcgdaaSame
namespace Go.Proofs.Ytgmogphojmcgdaa
open Go.RowKit
set_option maxRecDepth 100000 in
set_option maxHeartbeats 1600000 in
theorem back_walk (w : World) (k : Fin 32 → UInt8) (s : State) :
    Calls Try.prog 4 #[.agg (u8s (k32 k)).toArray, .agg (bytesOf s).toArray] w fun e w' => e = .returned (.bool true) ∧ w.grownBy w' none := by
  go_enter Try.func4, Try.ntmps4
  go_wp2_with (first | (refine wpList_box22 rfl _ k rfl rfl ?_
                        intro w1 hb1 hg1 hz1
                        obtain ⟨gk, hgk⟩ : ∃ g, g = w.heap.size := ⟨_, rfl⟩
                        rw [← hgk] at hb1 ⊢
                        have HB1 := Lib.hid hb1
                        have HG1 := Lib.hid hg1
                        clear hb1 hg1 hz1 hgk)
                     | (refine wpList_box23 rfl _ s rfl rfl ?_
                        intro w2 hb2 hg2 hz2
                        obtain ⟨gb, hgb⟩ : ∃ g, g = w1.heap.size := ⟨_, rfl⟩
                        rw [← hgb] at hb2 ⊢
                        have HB2 := Lib.hid hb2
                        have HK2 := Lib.hid (HB1.out.grown hg2 (by simp))
                        have HG2 := Lib.hid (World.grownBy.trans HG1.out hg2)
                        clear hb2 hg2 hz2 hgb)
                     | (go_at_call 7
                        refine (alive_any w2).mono ?_
                        rintro _ w3 ⟨rfl, hg3⟩
                        have HB3 := Lib.hid (HB2.out.grown hg3 (by simp))
                        have HK3 := Lib.hid (HK2.out.grown hg3 (by simp))
                        have HG3 := Lib.hid (World.grownBy.trans HG2.out hg3)
                        clear hg3)
                     | (refine wpList_load_mid rfl 22 _ rfl gk 0 rfl (u8s (k32 k)) _ (range_blk HK3.out) Try.underlying22 rfl (by rw [size22, u8s_length, k32_length]) ?_)
                     | (go_at_call 8
                        refine (cnew_any w3 k).mono ?_
                        rintro _ w4 ⟨g, rfl, hc4, hg4⟩
                        have HC4 := Lib.hid hc4
                        have HB4 := Lib.hid (HB3.out.grown hg4 (by simp))
                        have HG4 := Lib.hid (World.grownBy.trans HG3.out hg4)
                        clear hc4 hg4))
  refine wp_region_held_drew (S := fun w' => Cip w' g (k32 k) ∧ Blk w' gb 23 (bytesOf s)) (by kernel_rfl) ⟨Blk.keep HC4.out rfl, HB4.out.keep rfl⟩ (fun hHeld => ?_)
  refine' wpAnyH_take (i := 0) (oi := { dst := some 10, op := Op.move (Operand.tmp 5), type := 25, pos := "law.go:39", after := #[], guard := none }) (v := .pointer (some ⟨g, 0, none⟩)) rfl (by kernel_rfl) (by kernel_rfl) (by kernel_rfl) (fun _ _ _ h => h) (.inl ⟨by rfl, fun _ _ => rfl⟩) (by assumption) ?rest0
  try simp only [Act.put, List.setIfInBounds_toArray, List.set_cons_zero, List.set_cons_succ]
  refine' wpAnyH_take (i := 1) (oi := { dst := some 11, op := Op.move (Operand.tmp 5), type := 25, pos := "law.go:39", after := #[], guard := none }) (v := .pointer (some ⟨g, 0, none⟩)) rfl (by kernel_rfl) (by kernel_rfl) (by kernel_rfl) (fun _ _ _ h => h) (.inl ⟨by rfl, fun _ _ => rfl⟩) (by assumption) ?rest1
  try simp only [Act.put, List.setIfInBounds_toArray, List.set_cons_zero, List.set_cons_succ]
  refine' wpAnyH_take (i := 2) (oi := { dst := some 12, op := Op.load 23 (Operand.tmp 3), type := 23, pos := "law.go:39", after := #[], guard := none }) (v := _) rfl (by kernel_rfl) (by kernel_rfl) (by kernel_rfl) (fun _ _ _ h => h) (yieldsIf_load_mid (by rfl) _ _ rfl _ _ rfl (bytesOf s) _ ?s2 ?u2 ?d2 ?i2) (by assumption) ?rest2
  case s2 => exact fun w' hs => range_blk hs.2
  case u2 => exact Try.underlying23
  case d2 => rfl
  case i2 => exact (bytes_size' s)
  try simp only [Act.put, List.setIfInBounds_toArray, List.set_cons_zero, List.set_cons_succ]
  refine' wpAnyH_take (i := 5) (oi := { dst := some 15, op := Op.load 23 (Operand.tmp 3), type := 23, pos := "law.go:39", after := #[], guard := none }) (v := _) rfl (by kernel_rfl) (by kernel_rfl) (by kernel_rfl) (fun _ _ _ h => h) (yieldsIf_load_mid (by rfl) _ _ rfl _ _ rfl (bytesOf s) _ ?s5 ?u5 ?d5 ?i5) (by assumption) ?rest5
  case s5 => exact fun w' hs => range_blk hs.2
  case u5 => exact Try.underlying23
  case d5 => rfl
  case i5 => exact (bytes_size' s)
  try simp only [Act.put, List.setIfInBounds_toArray, List.set_cons_zero, List.set_cons_succ]
  refine wpAnyH_ready (rs := [3]) (by kernel_rfl) (by simp) ?_
  refine AllReadyH.cons (o := { dst := some 13, op := Op.call { callee := Callee.value (Operand.func 9), args := #[Operand.tmp 11, Operand.tmp 12], argTypes := #[25, 23] }, type := 23, pos := "law.go:39", after := #[{ on := 1, ground := Ground.data }, { on := 2, ground := Ground.data }], guard := none }) rfl (fun K hK => ?_) AllReadyH.nil
  rw [if_pos (by rfl)]
  go_simp
  refine (clock_any hHeld.1 s).mono ?_
  rintro _ w5 ⟨rfl, hg5⟩
  refine hK.out _ _ ⟨hHeld.1.grown hg5, hHeld.2.grown hg5 (by simp)⟩ (fun hHeld => ?_)
  clear hK K
  try simp only [Act.put, List.setIfInBounds_toArray, List.set_cons_zero, List.set_cons_succ]
  refine wpAnyH_ready (rs := [4]) (by kernel_rfl) (by simp) ?_
  refine AllReadyH.cons (o := { dst := some 14, op := Op.call { callee := Callee.value (Operand.func 12), args := #[Operand.tmp 10, Operand.tmp 13], argTypes := #[25, 23] }, type := 23, pos := "law.go:39", after := #[{ on := 0, ground := Ground.data }, { on := 3, ground := Ground.data }, { on := 3, ground := Ground.chain }], guard := none }) rfl (fun K hK => ?_) AllReadyH.nil
  rw [if_pos (by rfl)]
  go_simp
  refine (cunlock_any hHeld.1 (aesLock (kn (k32 k)) s)).mono ?_
  rintro _ w6 ⟨rfl, hg6⟩
  refine hK.out _ _ ⟨hHeld.1.grown hg6, hHeld.2.grown hg6 (by simp)⟩ (fun hHeld => ?_)
  clear hK K
  try simp only [Act.put, List.setIfInBounds_toArray, List.set_cons_zero, List.set_cons_succ]
  rw [aes_back]
  refine wpAnyH_ready (rs := [6]) (by kernel_rfl) (by simp) ?_
  refine AllReadyH.cons (o := { dst := some 16, op := Op.binOp BinOp.eql 23 (Operand.tmp 14) (Operand.tmp 15) 23, type := 4, pos := "law.go:39", after := #[{ on := 4, ground := Ground.data }, { on := 5, ground := Ground.data }], guard := none }) rfl (fun K hK => ?_) AllReadyH.nil
  rw [if_pos (by rfl)]
  refine wp_same23 _ _ rfl (s) rfl rfl ?_
  refine hK.out _ _ hHeld (fun hHeld => ?_)
  clear hK K
  try simp only [Act.put, List.setIfInBounds_toArray, List.set_cons_zero, List.set_cons_succ]
  refine wpAnyH_ready (rs := [7]) (by kernel_rfl) (by simp) ?_
  refine AllReadyH.cons (o := { dst := some 17, op := Op.move (Operand.tmp 16), type := 4, pos := "law.go:39", after := #[{ on := 6, ground := Ground.data }, { on := 4, ground := Ground.chain }], guard := none }) rfl (fun K hK => ?_) AllReadyH.nil
  rw [if_pos (by rfl)]
  go_simp
  refine hK.out _ _ hHeld (fun hHeld => ?_)
  clear hK K
  try simp only [Act.put, List.setIfInBounds_toArray, List.set_cons_zero, List.set_cons_succ]
  refine' wpAnyH_take (i := 8) (oi := { dst := some 18, op := Op.move (Operand.tmp 5), type := 25, pos := "law.go:39", after := #[{ on := 7, ground := Ground.guard }], guard := some (7, true) }) (v := .pointer (some ⟨g, 0, none⟩)) rfl (by kernel_rfl) (by kernel_rfl) (by kernel_rfl) (fun _ _ _ h => h) (.inl ⟨by rfl, fun _ _ => rfl⟩) (by assumption) ?rest8
  try simp only [Act.put, List.setIfInBounds_toArray, List.set_cons_zero, List.set_cons_succ]
  refine' wpAnyH_take (i := 9) (oi := { dst := some 19, op := Op.move (Operand.tmp 5), type := 25, pos := "law.go:39", after := #[{ on := 7, ground := Ground.guard }], guard := some (7, true) }) (v := .pointer (some ⟨g, 0, none⟩)) rfl (by kernel_rfl) (by kernel_rfl) (by kernel_rfl) (fun _ _ _ h => h) (.inl ⟨by rfl, fun _ _ => rfl⟩) (by assumption) ?rest9
  try simp only [Act.put, List.setIfInBounds_toArray, List.set_cons_zero, List.set_cons_succ]
  refine' wpAnyH_take (i := 10) (oi := { dst := some 20, op := Op.load 23 (Operand.tmp 3), type := 23, pos := "law.go:39", after := #[{ on := 7, ground := Ground.guard }], guard := some (7, true) }) (v := _) rfl (by kernel_rfl) (by kernel_rfl) (by kernel_rfl) (fun _ _ _ h => h) (yieldsIf_load_mid (by rfl) _ _ rfl _ _ rfl (bytesOf s) _ ?s10 ?u10 ?d10 ?i10) (by assumption) ?rest10
  case s10 => exact fun w' hs => range_blk hs.2
  case u10 => exact Try.underlying23
  case d10 => rfl
  case i10 => exact (bytes_size' s)
  try simp only [Act.put, List.setIfInBounds_toArray, List.set_cons_zero, List.set_cons_succ]
  refine' wpAnyH_take (i := 13) (oi := { dst := some 23, op := Op.load 23 (Operand.tmp 3), type := 23, pos := "law.go:39", after := #[{ on := 7, ground := Ground.guard }], guard := some (7, true) }) (v := _) rfl (by kernel_rfl) (by kernel_rfl) (by kernel_rfl) (fun _ _ _ h => h) (yieldsIf_load_mid (by rfl) _ _ rfl _ _ rfl (bytesOf s) _ ?s13 ?u13 ?d13 ?i13) (by assumption) ?rest13
  case s13 => exact fun w' hs => range_blk hs.2
  case u13 => exact Try.underlying23
  case d13 => rfl
  case i13 => exact (bytes_size' s)
  try simp only [Act.put, List.setIfInBounds_toArray, List.set_cons_zero, List.set_cons_succ]
  refine wpAnyH_ready (rs := [11]) (by kernel_rfl) (by simp) ?_
  refine AllReadyH.cons (o := { dst := some 21, op := Op.call { callee := Callee.value (Operand.func 12), args := #[Operand.tmp 19, Operand.tmp 20], argTypes := #[25, 23] }, type := 23, pos := "law.go:39", after := #[{ on := 9, ground := Ground.data }, { on := 10, ground := Ground.data }, { on := 7, ground := Ground.chain }, { on := 7, ground := Ground.guard }], guard := some (7, true) }) rfl (fun K hK => ?_) AllReadyH.nil
  rw [if_pos (by rfl)]
  go_simp
  refine (cunlock_any hHeld.1 s).mono ?_
  rintro _ w7 ⟨rfl, hg7⟩
  refine hK.out _ _ ⟨hHeld.1.grown hg7, hHeld.2.grown hg7 (by simp)⟩ (fun hHeld => ?_)
  clear hK K
  try simp only [Act.put, List.setIfInBounds_toArray, List.set_cons_zero, List.set_cons_succ]
  refine wpAnyH_ready (rs := [12]) (by kernel_rfl) (by simp) ?_
  refine AllReadyH.cons (o := { dst := some 22, op := Op.call { callee := Callee.value (Operand.func 9), args := #[Operand.tmp 18, Operand.tmp 21], argTypes := #[25, 23] }, type := 23, pos := "law.go:39", after := #[{ on := 8, ground := Ground.data }, { on := 11, ground := Ground.data }, { on := 11, ground := Ground.chain }, { on := 7, ground := Ground.guard }], guard := some (7, true) }) rfl (fun K hK => ?_) AllReadyH.nil
  rw [if_pos (by rfl)]
  go_simp
  refine (clock_any hHeld.1 (aesUnlock (kn (k32 k)) s)).mono ?_
  rintro _ w8 ⟨rfl, hg8⟩
  refine hK.out _ _ ⟨hHeld.1.grown hg8, hHeld.2.grown hg8 (by simp)⟩ (fun hHeld => ?_)
  clear hK K
  try simp only [Act.put, List.setIfInBounds_toArray, List.set_cons_zero, List.set_cons_succ]
  rw [aes_forth]
  refine wpAnyH_ready (rs := [14]) (by kernel_rfl) (by simp) ?_
  refine AllReadyH.cons (o := { dst := some 24, op := Op.binOp BinOp.eql 23 (Operand.tmp 22) (Operand.tmp 23) 23, type := 4, pos := "law.go:39", after := #[{ on := 12, ground := Ground.data }, { on := 13, ground := Ground.data }, { on := 7, ground := Ground.guard }], guard := some (7, true) }) rfl (fun K hK => ?_) AllReadyH.nil
  rw [if_pos (by rfl)]
  refine wp_same23 _ _ rfl (s) rfl rfl ?_
  refine hK.out _ _ hHeld (fun hHeld => ?_)
  clear hK K
  try simp only [Act.put, List.setIfInBounds_toArray, List.set_cons_zero, List.set_cons_succ]
  refine wpAnyH_ready (rs := [15]) (by kernel_rfl) (by simp) ?_
  refine AllReadyH.cons (o := { dst := some 25, op := Op.pick (Operand.tmp 17) (Operand.tmp 24) (Operand.const (Value.bool false)), type := 4, pos := "law.go:39", after := #[{ on := 7, ground := Ground.data }, { on := 14, ground := Ground.data }], guard := none }) rfl (fun K hK => ?_) AllReadyH.nil
  rw [if_pos (by rfl)]
  go_simp
  refine hK.out _ _ hHeld (fun hHeld => ?_)
  clear hK K
  try simp only [Act.put, List.setIfInBounds_toArray, List.set_cons_zero, List.set_cons_succ]
  refine wpAnyH_ready (rs := [16]) (by kernel_rfl) (by simp) ?_
  refine AllReadyH.cons (o := { dst := some 4, op := Op.assign (Operand.tmp 25), type := 4, pos := "law.go:39", after := #[{ on := 15, ground := Ground.data }, { on := 12, ground := Ground.chain }, { on := 0, ground := Ground.phase }, { on := 1, ground := Ground.phase }, { on := 2, ground := Ground.phase }, { on := 3, ground := Ground.phase }, { on := 4, ground := Ground.phase }, { on := 5, ground := Ground.phase }, { on := 6, ground := Ground.phase }, { on := 7, ground := Ground.phase }, { on := 8, ground := Ground.phase }, { on := 9, ground := Ground.phase }, { on := 10, ground := Ground.phase }, { on := 11, ground := Ground.phase }, { on := 12, ground := Ground.phase }, { on := 13, ground := Ground.phase }, { on := 14, ground := Ground.phase }, { on := 15, ground := Ground.phase }], guard := none }) rfl (fun K hK => ?_) AllReadyH.nil
  rw [if_pos (by rfl)]
  go_simp
  refine hK.out _ _ hHeld (fun hHeld => ?_)
  clear hK K
  try simp only [Act.put, List.setIfInBounds_toArray, List.set_cons_zero, List.set_cons_succ]
  refine wpAnyH_done (by kernel_rfl) ?_ _
  have HG8 := Lib.hid (World.grownBy.trans (World.grownBy.trans (World.grownBy.trans (World.grownBy.trans (grown_drew HG4.out) hg5) hg6) hg7) hg8)
  go_wp2
  go_ret
  exact ⟨rfl, HG8.out⟩
end Go.Proofs.Ytgmogphojmcgdaa
