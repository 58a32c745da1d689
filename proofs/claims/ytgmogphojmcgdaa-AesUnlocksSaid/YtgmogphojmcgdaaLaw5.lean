/- AesUnlocks: what is unlocked is that of which the document's Lock gives the block. Conditions: none. -/
import Derived.Test.YtgmogphojmcgdaaSame
namespace Go.Proofs.Ytgmogphojmcgdaa
open Go.RowKit
set_option maxRecDepth 100000 in
set_option maxHeartbeats 1600000 in
theorem unlocks_walk (w : World) (k : Fin 32 → UInt8) (s : State) :
    Calls Try.prog 5 #[.agg (u8s (k32 k)).toArray, .agg (bytesOf s).toArray] w fun e w' => e = .returned (.bool true) ∧ w.grownBy w' none := by
  go_enter Try.func5, Try.ntmps5
  go_wp2_with (first | (refine wpList_box22 rfl _ k rfl rfl ?_
                        intro w1 hb1 hg1 hz1
                        obtain ⟨gk, hgk⟩ : ∃ g, g = w.heap.size := ⟨_, rfl⟩
                        rw [← hgk] at hb1 ⊢
                        have HB1 := Lib.hid hb1
                        have HG1 := Lib.hid hg1
                        clear hb1 hg1 hz1 hgk)
                     | (refine wpList_box23 rfl _ s rfl rfl ?_
                        intro w2 hb2 hg2 hz2
                        obtain ⟨gb, hgb⟩ : ∃ g, g = w1.heap.size := ⟨_, rfl⟩
                        rw [← hgb] at hb2 ⊢
                        have HB2 := Lib.hid hb2
                        have HK2 := Lib.hid (HB1.out.grown hg2 (by simp))
                        have HG2 := Lib.hid (World.grownBy.trans HG1.out hg2)
                        clear hb2 hg2 hz2 hgb)
                     | (go_at_call 7
                        refine (alive_any w2).mono ?_
                        rintro _ w3 ⟨rfl, hg3⟩
                        have HB3 := Lib.hid (HB2.out.grown hg3 (by simp))
                        have HK3 := Lib.hid (HK2.out.grown hg3 (by simp))
                        have HG3 := Lib.hid (World.grownBy.trans HG2.out hg3)
                        clear hg3))
  refine wp_region_held_drew (S := fun w' => Blk w' gk 22 (u8s (k32 k)) ∧ Blk w' gb 23 (bytesOf s)) (by kernel_rfl) ⟨HK3.out.keep rfl, HB3.out.keep rfl⟩ (fun hHeld => ?_)
  refine' wpAnyH_take (i := 0) (oi := { dst := some 7, op := Op.load 22 (Operand.tmp 2), type := 22, pos := "law.go:47", after := #[], guard := none }) (v := _) rfl (by kernel_rfl) (by kernel_rfl) (by kernel_rfl) (fun _ _ _ h => h) (yieldsIf_load_mid (by rfl) _ _ rfl _ _ rfl (u8s (k32 k)) _ ?s0 ?u0 ?d0 ?i0) (by assumption) ?rest0
  case s0 => exact fun w' hs => range_blk hs.1
  case u0 => exact Try.underlying22
  case d0 => rfl
  case i0 => exact (by rw [size22, u8s_length, k32_length])
  try simp only [Act.put, List.setIfInBounds_toArray, List.set_cons_zero, List.set_cons_succ]
  refine' wpAnyH_take (i := 2) (oi := { dst := some 9, op := Op.load 22 (Operand.tmp 2), type := 22, pos := "law.go:47", after := #[], guard := none }) (v := _) rfl (by kernel_rfl) (by kernel_rfl) (by kernel_rfl) (fun _ _ _ h => h) (yieldsIf_load_mid (by rfl) _ _ rfl _ _ rfl (u8s (k32 k)) _ ?s2 ?u2 ?d2 ?i2) (by assumption) ?rest2
  case s2 => exact fun w' hs => range_blk hs.1
  case u2 => exact Try.underlying22
  case d2 => rfl
  case i2 => exact (by rw [size22, u8s_length, k32_length])
  try simp only [Act.put, List.setIfInBounds_toArray, List.set_cons_zero, List.set_cons_succ]
  refine' wpAnyH_take (i := 4) (oi := { dst := some 11, op := Op.load 23 (Operand.tmp 3), type := 23, pos := "law.go:47", after := #[], guard := none }) (v := _) rfl (by kernel_rfl) (by kernel_rfl) (by kernel_rfl) (fun _ _ _ h => h) (yieldsIf_load_mid (by rfl) _ _ rfl _ _ rfl (bytesOf s) _ ?s4 ?u4 ?d4 ?i4) (by assumption) ?rest4
  case s4 => exact fun w' hs => range_blk hs.2
  case u4 => exact Try.underlying23
  case d4 => rfl
  case i4 => exact (bytes_size' s)
  try simp only [Act.put, List.setIfInBounds_toArray, List.set_cons_zero, List.set_cons_succ]
  refine' wpAnyH_take (i := 7) (oi := { dst := some 14, op := Op.load 23 (Operand.tmp 3), type := 23, pos := "law.go:47", after := #[], guard := none }) (v := _) rfl (by kernel_rfl) (by kernel_rfl) (by kernel_rfl) (fun _ _ _ h => h) (yieldsIf_load_mid (by rfl) _ _ rfl _ _ rfl (bytesOf s) _ ?s7 ?u7 ?d7 ?i7) (by assumption) ?rest7
  case s7 => exact fun w' hs => range_blk hs.2
  case u7 => exact Try.underlying23
  case d7 => rfl
  case i7 => exact (bytes_size' s)
  try simp only [Act.put, List.setIfInBounds_toArray, List.set_cons_zero, List.set_cons_succ]
  refine wpAnyH_ready (rs := [1]) (by kernel_rfl) (by simp) ?_
  refine AllReadyH.cons (o := { dst := some 8, op := Op.call { callee := Callee.value (Operand.func 10), args := #[Operand.tmp 7], argTypes := #[22] }, type := 31, pos := "law.go:47", after := #[{ on := 0, ground := Ground.data }], guard := none }) rfl (fun K hK => ?_) AllReadyH.nil
  rw [if_pos (by rfl)]
  go_simp
  refine (refnew_any _ k).mono ?_
  rintro _ w4 ⟨gs, gw, cw, rfl, hs4, hw4, hg4⟩
  refine hK.out _ _ ⟨hHeld.1.grown hg4 (by simp), hHeld.2.grown hg4 (by simp)⟩ (fun hHeld => ?_)
  clear hK K
  try simp only [Act.put, List.setIfInBounds_toArray, List.set_cons_zero, List.set_cons_succ]
  refine wpAnyH_ready (rs := [3]) (by kernel_rfl) (by simp) ?_
  refine AllReadyH.cons (o := { dst := some 10, op := Op.call { callee := Callee.value (Operand.func 8), args := #[Operand.tmp 9], argTypes := #[22] }, type := 25, pos := "law.go:47", after := #[{ on := 2, ground := Ground.data }, { on := 1, ground := Ground.chain }], guard := none }) rfl (fun K hK => ?_) AllReadyH.nil
  rw [if_pos (by rfl)]
  go_simp
  refine (cnew_any _ k).mono ?_
  rintro _ w5 ⟨g, rfl, hc5, hg5⟩
  refine hK.out _ _ ⟨hHeld.1.grown hg5 (by simp), hHeld.2.grown hg5 (by simp)⟩ (fun hHeld => ?_)
  clear hK K
  try simp only [Act.put, List.setIfInBounds_toArray, List.set_cons_zero, List.set_cons_succ]
  refine wpAnyH_ready (rs := [5]) (by kernel_rfl) (by simp) ?_
  refine AllReadyH.cons (o := { dst := some 12, op := Op.call { callee := Callee.value (Operand.func 12), args := #[Operand.tmp 10, Operand.tmp 11], argTypes := #[25, 23] }, type := 23, pos := "law.go:47", after := #[{ on := 3, ground := Ground.data }, { on := 4, ground := Ground.data }, { on := 3, ground := Ground.chain }], guard := none }) rfl (fun K hK => ?_) AllReadyH.nil
  rw [if_pos (by rfl)]
  go_simp
  refine (cunlock_any hc5 s).mono ?_
  rintro _ w6 ⟨rfl, hg6⟩
  refine hK.out _ _ ⟨hHeld.1.grown hg6 (by simp), hHeld.2.grown hg6 (by simp)⟩ (fun hHeld => ?_)
  clear hK K
  try simp only [Act.put, List.setIfInBounds_toArray, List.set_cons_zero, List.set_cons_succ]
  refine wpAnyH_ready (rs := [6]) (by kernel_rfl) (by simp) ?_
  refine AllReadyH.cons (o := { dst := some 13, op := Op.call { callee := Callee.value (Operand.func 11), args := #[Operand.tmp 8, Operand.tmp 12], argTypes := #[31, 23] }, type := 23, pos := "law.go:47", after := #[{ on := 1, ground := Ground.data }, { on := 5, ground := Ground.data }, { on := 5, ground := Ground.chain }], guard := none }) rfl (fun K hK => ?_) AllReadyH.nil
  rw [if_pos (by rfl)]
  go_simp
  refine (rlock_any (hs4.grown (World.grownBy.trans hg5 hg6) (by simp)) (hw4.grown (World.grownBy.trans hg5 hg6)) (aesUnlock (kn (k32 k)) s)).mono ?_
  rintro _ w7 ⟨rfl, hg7⟩
  refine hK.out _ _ ⟨hHeld.1.grown hg7 (by simp), hHeld.2.grown hg7 (by simp)⟩ (fun hHeld => ?_)
  clear hK K
  try simp only [Act.put, List.setIfInBounds_toArray, List.set_cons_zero, List.set_cons_succ]
  rw [aes_forth]
  refine wpAnyH_ready (rs := [8]) (by kernel_rfl) (by simp) ?_
  refine AllReadyH.cons (o := { dst := some 15, op := Op.binOp BinOp.eql 23 (Operand.tmp 13) (Operand.tmp 14) 23, type := 4, pos := "law.go:47", after := #[{ on := 6, ground := Ground.data }, { on := 7, ground := Ground.data }], guard := none }) rfl (fun K hK => ?_) AllReadyH.nil
  rw [if_pos (by rfl)]
  refine wp_same23 _ _ rfl (s) rfl rfl ?_
  refine hK.out _ _ hHeld (fun hHeld => ?_)
  clear hK K
  try simp only [Act.put, List.setIfInBounds_toArray, List.set_cons_zero, List.set_cons_succ]
  refine wpAnyH_ready (rs := [9]) (by kernel_rfl) (by simp) ?_
  refine AllReadyH.cons (o := { dst := some 4, op := Op.assign (Operand.tmp 15), type := 4, pos := "law.go:47", after := #[{ on := 8, ground := Ground.data }, { on := 6, ground := Ground.chain }, { on := 0, ground := Ground.phase }, { on := 1, ground := Ground.phase }, { on := 2, ground := Ground.phase }, { on := 3, ground := Ground.phase }, { on := 4, ground := Ground.phase }, { on := 5, ground := Ground.phase }, { on := 6, ground := Ground.phase }, { on := 7, ground := Ground.phase }, { on := 8, ground := Ground.phase }], guard := none }) rfl (fun K hK => ?_) AllReadyH.nil
  rw [if_pos (by rfl)]
  go_simp
  refine hK.out _ _ hHeld (fun hHeld => ?_)
  clear hK K
  try simp only [Act.put, List.setIfInBounds_toArray, List.set_cons_zero, List.set_cons_succ]
  refine wpAnyH_done (by kernel_rfl) ?_ _
  have HG7 := Lib.hid (World.grownBy.trans (World.grownBy.trans (World.grownBy.trans (World.grownBy.trans (grown_drew HG3.out) hg4) hg5) hg6) hg7)
  go_wp2
  go_ret
  exact ⟨rfl, HG7.out⟩
end Go.Proofs.Ytgmogphojmcgdaa
