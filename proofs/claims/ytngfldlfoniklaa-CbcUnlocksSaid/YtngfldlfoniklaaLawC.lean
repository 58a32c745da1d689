/- CbcLocks: its walk. Conditions: what is asked of the code's three functions. -/
import Derived.Test.YtngfldlfoniklaaLawB
import Derived.Deep.RegionHeld3
namespace Go.Proofs.Ytngfldlfoniklaa
open Go.RowKit
set_option maxRecDepth 100000 in
set_option maxHeartbeats 1600000 in
theorem locks6_walk (hA : AliveSays) (hL : LockSays) {w : World} {ok : Nat → Prop} {A : Option Addr} {b : List UInt8} {n c : Nat} (hx : Byt w ok A b) (hok : ∀ g, ok g → g < w.heap.size) (hn : b.length = n) (hc : n ≤ c) (hm : c ≤ maxLen) (k : Fin 32 → UInt8) (v : State) :
    Calls Try.prog 3 #[.agg (u8s (k32 k)).toArray, .agg (bytesOf v).toArray, .slice A n c] w fun e w' => e = .returned (.bool true) ∧ w.grownBy w' none := by
  have hcm : n ≤ 9223372036854775807 := by unfold maxLen at hm; omega
  have HA := Lib.hid hA
  have HL := Lib.hid hL
  have HX := Lib.hid hx
  have HOK := Lib.hid hok
  have HN := Lib.hid hn
  have HC := Lib.hid hc
  have HM := Lib.hid hm
  clear hA hL hx hok hn hc hm
  by_cases hlt : 1500 < n
  · have e1 : (1500 : Int) < (n : Int) := by omega
    go_enter Try.func3, Try.ntmps3
    go_wp2_with (first
      | (refine wpList_box22 rfl _ k rfl rfl ?_; intro w1 hb1 hg1 hz1; have HG1 := Lib.hid hg1; clear hb1 hg1 hz1)
      | (refine wpList_box23 rfl _ v rfl rfl ?_; intro w2 hb2 hg2 hz2; have HG2 := Lib.hid (World.grownBy.trans HG1.out hg2); clear hb2 hg2 hz2)
      | (go_at_call 9; refine (HA.out w2).mono ?_; rintro _ w3 ⟨rfl, hg3⟩; have HG3 := Lib.hid (World.grownBy.trans HG2.out hg3); clear hg3))
    go_ret
    exact ⟨rfl, HG3.out⟩
  · have e1 : ¬ ((1500 : Int) < (n : Int)) := by omega
    have HN3 := Lib.hid (show n ≤ 1500 by omega)
    go_enter Try.func3, Try.ntmps3
    go_wp2_with (first
      | (refine wpList_box22 rfl _ k rfl rfl ?_
         intro w1 hb1 hg1 hz1
         obtain ⟨gk, hgk⟩ : ∃ g, g = w.heap.size := ⟨_, rfl⟩
         rw [← hgk] at hb1 ⊢
         have HB1 := Lib.hid hb1
         have HG1 := Lib.hid hg1
         clear hb1 hg1 hz1 hgk)
      | (refine wpList_box23 rfl _ v rfl rfl ?_
         intro w2 hb2 hg2 hz2
         obtain ⟨gv, hgv⟩ : ∃ g, g = w1.heap.size := ⟨_, rfl⟩
         rw [← hgv] at hb2 ⊢
         have HB2 := Lib.hid hb2
         have HK2 := Lib.hid (HB1.out.grown hg2 (by simp))
         have HG2 := Lib.hid (World.grownBy.trans HG1.out hg2)
         clear hb2 hg2 hz2 hgv)
      | (go_at_call 9
         refine (HA.out w2).mono ?_
         rintro _ w3 ⟨rfl, hg3⟩
         have HB3 := Lib.hid (HB2.out.grown hg3 (by simp))
         have HK3 := Lib.hid (HK2.out.grown hg3 (by simp))
         have HG3 := Lib.hid (World.grownBy.trans HG2.out hg3)
         have HX3 := Lib.hid (HX.out.grown HG3.out (fun b hb => ⟨HOK.out b hb, by simp⟩))
         clear hg3))
    refine wp_region_held_drew (S := fun w' => Blk w' gk 22 (u8s (k32 k)) ∧ Blk w' gv 23 (bytesOf v)) (by kernel_rfl) ⟨HK3.out.keep rfl, HB3.out.keep rfl⟩ (fun hHeld => ?_)
    refine' wpAnyH_take (i := 0) (oi := { dst := some 12, op := Op.load 22 (Operand.tmp 3), type := 22, pos := "law.go:25", after := #[], guard := none }) (v := _) rfl (by kernel_rfl) (by kernel_rfl) (by kernel_rfl) (fun _ _ _ h => h) (yieldsIf_load_mid (by rfl) _ _ rfl _ _ rfl (u8s (k32 k)) _ ?s0 ?u0 ?d0 ?i0) (by assumption) ?rest0
    case s0 => exact fun w' hs => range_blk hs.1
    case u0 => exact Try.underlying22
    case d0 => rfl
    case i0 => exact (by rw [size22, u8s_length, k32_length])
    try simp only [Act.put, List.setIfInBounds_toArray, List.set_cons_zero, List.set_cons_succ]
    refine' wpAnyH_take (i := 1) (oi := { dst := some 13, op := Op.load 23 (Operand.tmp 4), type := 23, pos := "law.go:25", after := #[], guard := none }) (v := _) rfl (by kernel_rfl) (by kernel_rfl) (by kernel_rfl) (fun _ _ _ h => h) (yieldsIf_load_mid (by rfl) _ _ rfl _ _ rfl (bytesOf v) _ ?s1 ?u1 ?d1 ?i1) (by assumption) ?rest1
    case s1 => exact fun w' hs => range_blk hs.2
    case u1 => exact Try.underlying23
    case d1 => rfl
    case i1 => exact (bytes_size' v)
    try simp only [Act.put, List.setIfInBounds_toArray, List.set_cons_zero, List.set_cons_succ]
    refine' wpAnyH_take (i := 2) (oi := { dst := some 14, op := Op.move (Operand.tmp 2), type := 24, pos := "law.go:25", after := #[], guard := none }) (v := .slice A n c) rfl (by kernel_rfl) (by kernel_rfl) (by kernel_rfl) (fun _ _ _ h => h) (.inl ⟨by rfl, fun _ _ => rfl⟩) (by assumption) ?rest2
    try simp only [Act.put, List.setIfInBounds_toArray, List.set_cons_zero, List.set_cons_succ]
    refine' wpAnyH_take (i := 4) (oi := { dst := some 16, op := Op.load 22 (Operand.tmp 3), type := 22, pos := "law.go:25", after := #[], guard := none }) (v := _) rfl (by kernel_rfl) (by kernel_rfl) (by kernel_rfl) (fun _ _ _ h => h) (yieldsIf_load_mid (by rfl) _ _ rfl _ _ rfl (u8s (k32 k)) _ ?s4 ?u4 ?d4 ?i4) (by assumption) ?rest4
    case s4 => exact fun w' hs => range_blk hs.1
    case u4 => exact Try.underlying22
    case d4 => rfl
    case i4 => exact (by rw [size22, u8s_length, k32_length])
    try simp only [Act.put, List.setIfInBounds_toArray, List.set_cons_zero, List.set_cons_succ]
    refine' wpAnyH_take (i := 5) (oi := { dst := some 17, op := Op.load 23 (Operand.tmp 4), type := 23, pos := "law.go:25", after := #[], guard := none }) (v := _) rfl (by kernel_rfl) (by kernel_rfl) (by kernel_rfl) (fun _ _ _ h => h) (yieldsIf_load_mid (by rfl) _ _ rfl _ _ rfl (bytesOf v) _ ?s5 ?u5 ?d5 ?i5) (by assumption) ?rest5
    case s5 => exact fun w' hs => range_blk hs.2
    case u5 => exact Try.underlying23
    case d5 => rfl
    case i5 => exact (bytes_size' v)
    try simp only [Act.put, List.setIfInBounds_toArray, List.set_cons_zero, List.set_cons_succ]
    refine' wpAnyH_take (i := 6) (oi := { dst := some 18, op := Op.move (Operand.tmp 2), type := 24, pos := "law.go:25", after := #[], guard := none }) (v := .slice A n c) rfl (by kernel_rfl) (by kernel_rfl) (by kernel_rfl) (fun _ _ _ h => h) (.inl ⟨by rfl, fun _ _ => rfl⟩) (by assumption) ?rest6
    try simp only [Act.put, List.setIfInBounds_toArray, List.set_cons_zero, List.set_cons_succ]
    refine wpAnyH_ready (rs := [3]) (by kernel_rfl) (by simp) ?_
    refine AllReadyH.cons (o := { dst := some 15, op := Op.call { callee := Callee.value (Operand.func 11), args := #[Operand.tmp 12, Operand.tmp 13, Operand.tmp 14], argTypes := #[22, 23, 24] }, type := 24, pos := "law.go:25", after := #[{ on := 0, ground := Ground.data }, { on := 1, ground := Ground.data }, { on := 2, ground := Ground.data }], guard := none }) rfl (fun K hK => ?_) AllReadyH.nil
    rw [if_pos (by rfl)]
    go_simp
    refine (HL.out w3.drew ok A b n c (HX3.out.keep fun _ _ => rfl) (fun g hg => Nat.lt_of_lt_of_le (HOK.out g hg) HG3.out.size) HN.out HC.out HM.out (by have h3 := HN3.out; omega) k v).mono ?_
    rintro _ w4 ⟨A4, c4, rfl, hc4, hm4, hx4, hg4⟩
    refine hK.out _ _ ⟨hHeld.1.grown hg4 (by simp), hHeld.2.grown hg4 (by simp)⟩ (fun hHeld => ?_)
    clear hK K
    try simp only [Act.put, List.setIfInBounds_toArray, List.set_cons_zero, List.set_cons_succ]
    have HT4 := Lib.hid ((HX3.out.keep (w' := w3.drew) fun _ _ => rfl).grown hg4 (fun g hg => ⟨Nat.lt_of_lt_of_le (HOK.out g hg) HG3.out.size, by simp⟩))
    refine wpAnyH_ready (rs := [7]) (by kernel_rfl) (by simp) ?_
    refine AllReadyH.cons (o := { dst := some 19, op := Op.call { callee := Callee.value (Operand.func 12), args := #[Operand.tmp 16, Operand.tmp 17, Operand.tmp 18], argTypes := #[22, 23, 24] }, type := 24, pos := "law.go:25", after := #[{ on := 4, ground := Ground.data }, { on := 5, ground := Ground.data }, { on := 6, ground := Ground.data }, { on := 3, ground := Ground.chain }], guard := none }) rfl (fun K hK => ?_) AllReadyH.nil
    rw [if_pos (by rfl)]
    go_simp
    refine (ref6_any (c := c) HT4.out (fun g hg => Nat.lt_of_lt_of_le (HOK.out g hg) (Nat.le_trans HG3.out.size hg4.size)) HN.out (by have h3 := HN3.out; omega) k v).mono ?_
    rintro _ w5 ⟨A5, c5, rfl, hx5, hg5⟩
    refine hK.out _ _ ⟨hHeld.1.grown hg5 (by simp), hHeld.2.grown hg5 (by simp)⟩ (fun hHeld => ?_)
    clear hK K
    try simp only [Act.put, List.setIfInBounds_toArray, List.set_cons_zero, List.set_cons_succ]
    refine wpAnyH_ready (rs := [8]) (by kernel_rfl) (by simp) ?_
    refine AllReadyH.cons (o := { dst := some 20, op := Op.call { callee := Callee.value (Operand.func 10), args := #[Operand.tmp 15, Operand.tmp 19], argTypes := #[24, 24] }, type := 4, pos := "law.go:25", after := #[{ on := 3, ground := Ground.data }, { on := 7, ground := Ground.data }, { on := 7, ground := Ground.chain }], guard := none }) rfl (fun K hK => ?_) AllReadyH.nil
    rw [if_pos (by rfl)]
    go_simp
    refine (byts_eq (hx4.grown hg5 (fun g hg => ⟨hg.2, by simp⟩)) hx5 rfl rfl rfl).mono ?_
    rintro _ w6 ⟨rfl, hw6⟩
    rw [← hw6]
    refine hK.out _ _ hHeld (fun hHeld => ?_)
    clear hK K hw6
    try simp only [Act.put, List.setIfInBounds_toArray, List.set_cons_zero, List.set_cons_succ]
    refine wpAnyH_ready (rs := [9]) (by kernel_rfl) (by simp) ?_
    refine AllReadyH.cons (o := { dst := some 6, op := Op.assign (Operand.tmp 20), type := 4, pos := "law.go:25", after := #[{ on := 8, ground := Ground.data }, { on := 8, ground := Ground.chain }, { on := 0, ground := Ground.phase }, { on := 1, ground := Ground.phase }, { on := 2, ground := Ground.phase }, { on := 3, ground := Ground.phase }, { on := 4, ground := Ground.phase }, { on := 5, ground := Ground.phase }, { on := 6, ground := Ground.phase }, { on := 7, ground := Ground.phase }, { on := 8, ground := Ground.phase }], guard := none }) rfl (fun K hK => ?_) AllReadyH.nil
    rw [if_pos (by rfl)]
    go_simp
    refine hK.out _ _ hHeld (fun hHeld => ?_)
    clear hK K
    try simp only [Act.put, List.setIfInBounds_toArray, List.set_cons_zero, List.set_cons_succ]
    refine wpAnyH_done (by kernel_rfl) ?_ _
    have HG5 := Lib.hid (World.grownBy.trans (World.grownBy.trans (grown_drew HG3.out) hg4) hg5)
    go_wp2
    go_ret
    exact ⟨rfl, HG5.out⟩
end Go.Proofs.Ytngfldlfoniklaa
