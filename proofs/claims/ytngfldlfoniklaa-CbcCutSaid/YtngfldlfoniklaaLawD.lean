/- CbcBegins: its walk. Conditions: what is asked of the code's Lock and Unlock. -/
import Derived.Test.YtngfldlfoniklaaLawC
import Derived.Deep.QuietTactic
import Derived.BigQuiet
namespace Go.Proofs.Ytngfldlfoniklaa
open Go.RowKit
set_option maxRecDepth 100000 in
set_option maxHeartbeats 1600000 in
theorem begins_walk (hA : AliveSays) (hL : LockSays) (hU : UnlockSays) {w : World} {ok : Nat → Prop} {A : Option Addr} {b : List UInt8} {n c : Nat} (hx : Byt w ok A b) (hok : ∀ g, ok g → g < w.heap.size) (hn : b.length = n) (hc : n ≤ c) (hm : c ≤ maxLen) (k : Fin 32 → UInt8) (v u : State) :
    Calls Try.prog 8 #[.agg (u8s (k32 k)).toArray, .agg (bytesOf v).toArray, .agg (bytesOf u).toArray, .slice A n c] w fun e w' => e = .returned (.bool true) ∧ w.grownBy w' none := by
  have hcm : n ≤ 9223372036854775807 := by unfold maxLen at hm; omega
  have HA := Lib.hid hA
  have HL := Lib.hid hL
  have HU := Lib.hid hU
  have HX := Lib.hid hx
  have HOK := Lib.hid hok
  have HN := Lib.hid hn
  have HC := Lib.hid hc
  have HM := Lib.hid hm
  clear hA hL hU hx hok hn hc hm
  by_cases h16 : n < 16
  · have e1 : (n : Int) < 16 := by omega
    go_enter Try.func8, Try.ntmps8
    go_wp2_with (first
      | (refine wpList_box22 rfl _ k rfl rfl ?_
         intro w1 hb1 hg1 hz1
         obtain ⟨gk, hgk⟩ : ∃ g, g = w.heap.size := ⟨_, rfl⟩
         rw [← hgk] at hb1 ⊢
         have HB1 := Lib.hid hb1
         have HG1 := Lib.hid hg1
         clear hb1 hg1 hz1 hgk)
      | (refine wpList_box23 rfl _ v rfl rfl ?_
         intro w2 hb2 hg2 hz2
         obtain ⟨gv, hgv⟩ : ∃ g, g = w1.heap.size := ⟨_, rfl⟩
         rw [← hgv] at hb2 ⊢
         have HB2 := Lib.hid hb2
         have HK2 := Lib.hid (HB1.out.grown hg2 (by simp))
         have HG2 := Lib.hid (World.grownBy.trans HG1.out hg2)
         clear hb2 hg2 hz2 hgv)
      | (refine wpList_box23 rfl _ u rfl rfl ?_
         intro wu hbu hgu hzu
         obtain ⟨gu, hgu'⟩ : ∃ g, g = w2.heap.size := ⟨_, rfl⟩
         rw [← hgu'] at hbu ⊢
         have HBU := Lib.hid hbu
         have HKU := Lib.hid (HK2.out.grown hgu (by simp))
         have HVU := Lib.hid (HB2.out.grown hgu (by simp))
         have HGU := Lib.hid (World.grownBy.trans HG2.out hgu)
         clear hbu hgu hzu hgu')
      | (go_at_call 9
         refine (HA.out wu).mono ?_
         rintro _ w3 ⟨rfl, hg3⟩
         have HU3 := Lib.hid (HBU.out.grown hg3 (by simp))
         have HB3 := Lib.hid (HVU.out.grown hg3 (by simp))
         have HK3 := Lib.hid (HKU.out.grown hg3 (by simp))
         have HG3 := Lib.hid (World.grownBy.trans HGU.out hg3)
         have HX3 := Lib.hid (HX.out.grown HG3.out (fun b hb => ⟨HOK.out b hb, by simp⟩))
         clear hg3))
    go_ret
    exact ⟨rfl, HG3.out⟩
  by_cases hlt : 1500 < n
  · have e1 : ¬ ((n : Int) < 16) := by omega
    have e2 : (1500 : Int) < (n : Int) := by omega
    go_enter Try.func8, Try.ntmps8
    go_wp2_with (first
      | (refine wpList_box22 rfl _ k rfl rfl ?_
         intro w1 hb1 hg1 hz1
         obtain ⟨gk, hgk⟩ : ∃ g, g = w.heap.size := ⟨_, rfl⟩
         rw [← hgk] at hb1 ⊢
         have HB1 := Lib.hid hb1
         have HG1 := Lib.hid hg1
         clear hb1 hg1 hz1 hgk)
      | (refine wpList_box23 rfl _ v rfl rfl ?_
         intro w2 hb2 hg2 hz2
         obtain ⟨gv, hgv⟩ : ∃ g, g = w1.heap.size := ⟨_, rfl⟩
         rw [← hgv] at hb2 ⊢
         have HB2 := Lib.hid hb2
         have HK2 := Lib.hid (HB1.out.grown hg2 (by simp))
         have HG2 := Lib.hid (World.grownBy.trans HG1.out hg2)
         clear hb2 hg2 hz2 hgv)
      | (refine wpList_box23 rfl _ u rfl rfl ?_
         intro wu hbu hgu hzu
         obtain ⟨gu, hgu'⟩ : ∃ g, g = w2.heap.size := ⟨_, rfl⟩
         rw [← hgu'] at hbu ⊢
         have HBU := Lib.hid hbu
         have HKU := Lib.hid (HK2.out.grown hgu (by simp))
         have HVU := Lib.hid (HB2.out.grown hgu (by simp))
         have HGU := Lib.hid (World.grownBy.trans HG2.out hgu)
         clear hbu hgu hzu hgu')
      | (go_at_call 9
         refine (HA.out wu).mono ?_
         rintro _ w3 ⟨rfl, hg3⟩
         have HU3 := Lib.hid (HBU.out.grown hg3 (by simp))
         have HB3 := Lib.hid (HVU.out.grown hg3 (by simp))
         have HK3 := Lib.hid (HKU.out.grown hg3 (by simp))
         have HG3 := Lib.hid (World.grownBy.trans HGU.out hg3)
         have HX3 := Lib.hid (HX.out.grown HG3.out (fun b hb => ⟨HOK.out b hb, by simp⟩))
         clear hg3))
    go_ret
    exact ⟨rfl, HG3.out⟩
  · have e1 : ¬ ((n : Int) < 16) := by omega
    have e2 : ¬ ((1500 : Int) < (n : Int)) := by omega
    have HN3 := Lib.hid (show n ≤ 1500 by omega)
    have HN16 := Lib.hid (show 16 ≤ n by omega)
    obtain ⟨s, hs1, hs2, hs3⟩ := begins (kn (k32 k)) v u b (by rw [HN.out]; omega)
    have HS1 := Lib.hid hs1
    have HS2 := Lib.hid hs2
    have HS3 := Lib.hid hs3
    clear hs1 hs2 hs3
    go_enter Try.func8, Try.ntmps8
    go_wp2_with (first
      | (refine wpList_box22 rfl _ k rfl rfl ?_
         intro w1 hb1 hg1 hz1
         obtain ⟨gk, hgk⟩ : ∃ g, g = w.heap.size := ⟨_, rfl⟩
         rw [← hgk] at hb1 ⊢
         have HB1 := Lib.hid hb1
         have HG1 := Lib.hid hg1
         clear hb1 hg1 hz1 hgk)
      | (refine wpList_box23 rfl _ v rfl rfl ?_
         intro w2 hb2 hg2 hz2
         obtain ⟨gv, hgv⟩ : ∃ g, g = w1.heap.size := ⟨_, rfl⟩
         rw [← hgv] at hb2 ⊢
         have HB2 := Lib.hid hb2
         have HK2 := Lib.hid (HB1.out.grown hg2 (by simp))
         have HG2 := Lib.hid (World.grownBy.trans HG1.out hg2)
         clear hb2 hg2 hz2 hgv)
      | (refine wpList_box23 rfl _ u rfl rfl ?_
         intro wu hbu hgu hzu
         obtain ⟨gu, hgu'⟩ : ∃ g, g = w2.heap.size := ⟨_, rfl⟩
         rw [← hgu'] at hbu ⊢
         have HBU := Lib.hid hbu
         have HKU := Lib.hid (HK2.out.grown hgu (by simp))
         have HVU := Lib.hid (HB2.out.grown hgu (by simp))
         have HGU := Lib.hid (World.grownBy.trans HG2.out hgu)
         clear hbu hgu hzu hgu')
      | (go_at_call 9
         refine (HA.out wu).mono ?_
         rintro _ w3 ⟨rfl, hg3⟩
         have HU3 := Lib.hid (HBU.out.grown hg3 (by simp))
         have HB3 := Lib.hid (HVU.out.grown hg3 (by simp))
         have HK3 := Lib.hid (HKU.out.grown hg3 (by simp))
         have HG3 := Lib.hid (World.grownBy.trans HGU.out hg3)
         have HX3 := Lib.hid (HX.out.grown HG3.out (fun b hb => ⟨HOK.out b hb, by simp⟩))
         clear hg3))
    refine wp_region_held_drew (S := fun w' => Blk w' gk 22 (u8s (k32 k)) ∧ Blk w' gv 23 (bytesOf v) ∧ Blk w' gu 23 (bytesOf u)) (by kernel_rfl) ⟨HK3.out.keep rfl, HB3.out.keep rfl, HU3.out.keep rfl⟩ (fun hHeld => ?_)
    refine' wpAnyH_take (i := 0) (oi := { dst := some 22, op := Op.load 22 (Operand.tmp 4), type := 22, pos := "law.go:89", after := #[], guard := none }) (v := _) rfl (by kernel_rfl) (by kernel_rfl) (by kernel_rfl) (fun _ _ _ h => h) (yieldsIf_load_mid (by rfl) _ _ rfl _ _ rfl (u8s (k32 k)) _ ?s0 ?u0 ?d0 ?i0) (by assumption) ?rest0
    case s0 => exact fun w' hs => range_blk hs.1
    case u0 => exact Try.underlying22
    case d0 => rfl
    case i0 => exact (by rw [size22, u8s_length, k32_length])
    try simp only [Act.put, List.setIfInBounds_toArray, List.set_cons_zero, List.set_cons_succ]
    refine' wpAnyH_take (i := 1) (oi := { dst := some 23, op := Op.load 23 (Operand.tmp 6), type := 23, pos := "law.go:89", after := #[], guard := none }) (v := _) rfl (by kernel_rfl) (by kernel_rfl) (by kernel_rfl) (fun _ _ _ h => h) (yieldsIf_load_mid (by rfl) _ _ rfl _ _ rfl (bytesOf u) _ ?s1 ?u1 ?d1 ?i1) (by assumption) ?rest1
    case s1 => exact fun w' hs => range_blk hs.2.2
    case u1 => exact Try.underlying23
    case d1 => rfl
    case i1 => exact (bytes_size' u)
    try simp only [Act.put, List.setIfInBounds_toArray, List.set_cons_zero, List.set_cons_succ]
    refine' wpAnyH_take (i := 2) (oi := { dst := some 24, op := Op.load 22 (Operand.tmp 4), type := 22, pos := "law.go:89", after := #[], guard := none }) (v := _) rfl (by kernel_rfl) (by kernel_rfl) (by kernel_rfl) (fun _ _ _ h => h) (yieldsIf_load_mid (by rfl) _ _ rfl _ _ rfl (u8s (k32 k)) _ ?s2 ?u2 ?d2 ?i2) (by assumption) ?rest2
    case s2 => exact fun w' hs => range_blk hs.1
    case u2 => exact Try.underlying22
    case d2 => rfl
    case i2 => exact (by rw [size22, u8s_length, k32_length])
    try simp only [Act.put, List.setIfInBounds_toArray, List.set_cons_zero, List.set_cons_succ]
    refine' wpAnyH_take (i := 3) (oi := { dst := some 25, op := Op.load 23 (Operand.tmp 5), type := 23, pos := "law.go:89", after := #[], guard := none }) (v := _) rfl (by kernel_rfl) (by kernel_rfl) (by kernel_rfl) (fun _ _ _ h => h) (yieldsIf_load_mid (by rfl) _ _ rfl _ _ rfl (bytesOf v) _ ?s3 ?u3 ?d3 ?i3) (by assumption) ?rest3
    case s3 => exact fun w' hs => range_blk hs.2.1
    case u3 => exact Try.underlying23
    case d3 => rfl
    case i3 => exact (bytes_size' v)
    try simp only [Act.put, List.setIfInBounds_toArray, List.set_cons_zero, List.set_cons_succ]
    refine' wpAnyH_take (i := 4) (oi := { dst := some 26, op := Op.move (Operand.tmp 3), type := 24, pos := "law.go:89", after := #[], guard := none }) (v := .slice A n c) rfl (by kernel_rfl) (by kernel_rfl) (by kernel_rfl) (fun _ _ _ h => h) (.inl ⟨by rfl, fun _ _ => rfl⟩) (by assumption) ?rest4
    try simp only [Act.put, List.setIfInBounds_toArray, List.set_cons_zero, List.set_cons_succ]
    refine wpAnyH_ready (rs := [5]) (by kernel_rfl) (by simp) ?_
    refine AllReadyH.cons (o := { dst := some 27, op := Op.call { callee := Callee.value (Operand.func 11), args := #[Operand.tmp 24, Operand.tmp 25, Operand.tmp 26], argTypes := #[22, 23, 24] }, type := 24, pos := "law.go:89", after := #[{ on := 2, ground := Ground.data }, { on := 3, ground := Ground.data }, { on := 4, ground := Ground.data }], guard := none }) rfl (fun K hK => ?_) AllReadyH.nil
    rw [if_pos (by rfl)]
    go_simp
    refine (HL.out w3.drew ok A b n c (HX3.out.keep fun _ _ => rfl) (fun g hg => Nat.lt_of_lt_of_le (HOK.out g hg) HG3.out.size) HN.out HC.out HM.out (by have h3 := HN3.out; omega) k v).mono ?_
    rintro _ w4 ⟨A4, c4, rfl, hc4, hm4, hx4, hg4⟩
    refine hK.out _ _ ⟨hHeld.1.grown hg4 (by simp), hHeld.2.1.grown hg4 (by simp), hHeld.2.2.grown hg4 (by simp)⟩ (fun hHeld => ?_)
    clear hK K
    try simp only [Act.put, List.setIfInBounds_toArray, List.set_cons_zero, List.set_cons_succ]
    refine wpAnyH_ready (rs := [6]) (by kernel_rfl) (by simp) ?_
    refine AllReadyH.cons (o := { dst := some 28, op := Op.call { callee := Callee.value (Operand.func 13), args := #[Operand.tmp 22, Operand.tmp 23, Operand.tmp 27], argTypes := #[22, 23, 24] }, type := 29, pos := "law.go:89", after := #[{ on := 0, ground := Ground.data }, { on := 1, ground := Ground.data }, { on := 5, ground := Ground.data }, { on := 5, ground := Ground.chain }], guard := none }) rfl (fun K hK => ?_) AllReadyH.nil
    rw [if_pos (by rfl)]
    go_simp
    refine (HU.out.yes (s := s) hx4 (fun g hg => hg.2) rfl hc4 hm4 (by have h3 := HN3.out; have h4 := HN.out; rw [lockB_length]; omega) k u HS1.out).mono ?_
    rintro _ w5 ⟨A5, c5, rfl, hc5, hm5, hx5, hg5⟩
    refine hK.out _ _ ⟨hHeld.1.grown hg5 (by simp), hHeld.2.1.grown hg5 (by simp), hHeld.2.2.grown hg5 (by simp)⟩ (fun hHeld => ?_)
    clear hK K
    try simp only [Act.put, List.setIfInBounds_toArray, List.set_cons_zero, List.set_cons_succ]
    refine' wpAnyH_take (i := 7) (oi := { dst := some 21, op := Op.move (Operand.tmp 28), type := 29, pos := "law.go:89", after := #[{ on := 6, ground := Ground.data }], guard := none }) (v := _) rfl (by kernel_rfl) (by kernel_rfl) (by kernel_rfl) (fun _ _ _ h => h) (.inl ⟨by rfl, fun _ _ => rfl⟩) (by assumption) ?rest7
    try simp only [Act.put, List.setIfInBounds_toArray, List.set_cons_zero, List.set_cons_succ]
    refine' wpAnyH_take (i := 8) (oi := { dst := some 29, op := Op.extract (Operand.tmp 21) 0, type := 24, pos := "law.go:89", after := #[{ on := 7, ground := Ground.data }], guard := none }) (v := _) rfl (by kernel_rfl) (by kernel_rfl) (by kernel_rfl) (fun _ _ _ h => h) (.inl ⟨by rfl, fun _ _ => rfl⟩) (by assumption) ?rest8
    try simp only [Act.put, List.setIfInBounds_toArray, List.set_cons_zero, List.set_cons_succ]
    refine' wpAnyH_take (i := 9) (oi := { dst := some 30, op := Op.extract (Operand.tmp 21) 1, type := 4, pos := "law.go:89", after := #[{ on := 7, ground := Ground.data }, { on := 10, ground := Ground.gcOnly Departure.lateStores }], guard := none }) (v := _) rfl (by kernel_rfl) (by kernel_rfl) (by kernel_rfl) (fun _ _ _ h => h) (.inl ⟨by rfl, fun _ _ => rfl⟩) (by assumption) ?rest9
    try simp only [Act.put, List.setIfInBounds_toArray, List.set_cons_zero, List.set_cons_succ]
    refine wpAnyH_ready (rs := [10]) (by kernel_rfl) (by simp) ?_
    refine AllReadyH.cons (o := { dst := some 9, op := Op.assign (Operand.tmp 29), type := 24, pos := "law.go:89", after := #[{ on := 8, ground := Ground.data }, { on := 6, ground := Ground.chain }, { on := 0, ground := Ground.phase }, { on := 1, ground := Ground.phase }, { on := 2, ground := Ground.phase }, { on := 3, ground := Ground.phase }, { on := 4, ground := Ground.phase }, { on := 5, ground := Ground.phase }, { on := 6, ground := Ground.phase }, { on := 7, ground := Ground.phase }, { on := 8, ground := Ground.phase }, { on := 9, ground := Ground.textOnly Departure.lateStores }], guard := none }) rfl (fun K hK => ?_) AllReadyH.nil
    rw [if_pos (by rfl)]
    go_simp
    refine hK.out _ _ hHeld (fun hHeld => ?_)
    clear hK K
    try simp only [Act.put, List.setIfInBounds_toArray, List.set_cons_zero, List.set_cons_succ]
    refine wpAnyH_ready (rs := [11]) (by kernel_rfl) (by simp) ?_
    refine AllReadyH.cons (o := { dst := some 10, op := Op.assign (Operand.tmp 30), type := 4, pos := "law.go:89", after := #[{ on := 9, ground := Ground.data }, { on := 10, ground := Ground.chain }, { on := 0, ground := Ground.phase }, { on := 1, ground := Ground.phase }, { on := 2, ground := Ground.phase }, { on := 3, ground := Ground.phase }, { on := 4, ground := Ground.phase }, { on := 5, ground := Ground.phase }, { on := 6, ground := Ground.phase }, { on := 7, ground := Ground.phase }, { on := 8, ground := Ground.phase }, { on := 9, ground := Ground.phase }, { on := 10, ground := Ground.phase }], guard := none }) rfl (fun K hK => ?_) AllReadyH.nil
    rw [if_pos (by rfl)]
    go_simp
    refine hK.out _ _ hHeld (fun hHeld => ?_)
    clear hK K
    try simp only [Act.put, List.setIfInBounds_toArray, List.set_cons_zero, List.set_cons_succ]
    refine wpAnyH_done (by kernel_rfl) ?_ _
    have HG5 := Lib.hid (World.grownBy.trans (World.grownBy.trans (grown_drew HG3.out) hg4) hg5)
    have HX5 := Lib.hid hx5
    have HC5 := Lib.hid hc5
    have HM5 := Lib.hid hm5
    have HT5 := Lib.hid ((HX3.out.keep (w' := w3.drew) fun _ _ => rfl).grown (World.grownBy.trans hg4 hg5) (fun g hg => ⟨Nat.lt_of_lt_of_le (HOK.out g hg) HG3.out.size, by simp⟩))
    clear hc5 hm5 hx5 hg5 hc4 hm4 hx4 hg4 hHeld
    have hsl : s.length = n := by rw [HS2.out, HN.out]
    rw [hsl]
    obtain ⟨⟨ab, ao, ac⟩, hA5, -, -⟩ := HX5.out 0 (by rw [hsl]; have := HN16.out; omega)
    obtain ⟨⟨tb, tg, tc⟩, hA, -, -⟩ := HT5.out 0 (by have := HN.out; have := HN16.out; omega)
    subst hA5 hA
    have q1 : (16 : Int) ≤ (n : Int) := by have := HN16.out; omega
    have q2 : (16 : Int) ≤ (c5 : Int) := by have := HN16.out; have := HC5.out; omega
    have q3 : (16 : Int) ≤ (c : Int) := by have := HN16.out; have := HC.out; omega
    go_wp2_with (fail)
    have R1 := Lib.hid (HX5.out.drop (k := 16) (c := c5) (by have := HN16.out; omega) HC5.out)
    have R2 := Lib.hid (HT5.out.drop (k := 16) (c := c) (by have := HN.out; have := HN16.out; omega) (by have := HN.out; have := HC.out; omega))
    have R3 := Lib.hid (show (s.drop 16).length = n - 16 by rw [List.length_drop, hsl])
    have R4 := Lib.hid (show (b.drop 16).length = n - 16 by rw [List.length_drop, HN.out])
    have hh : ∀ m, Calls Try.prog 10 #[.slice (if c5 = 16 then some ⟨ab, ao, ac⟩ else some ⟨ab, ao + 16, none⟩) (n - 16) (c5 - 16), .slice (if c = 16 then some ⟨tb, tg, tc⟩ else some ⟨tb, tg + 16, none⟩) (n - 16) (c - 16)] (w5.drewN m) fun e w' => e = .returned (.bool true) ∧ w' = w5.drewN m := fun m =>
      (byts_eq (w := w5.drewN m) (ok := fun g => g < w5.heap.size) (ok' := ok) (R1.out.keep fun _ _ => rfl) (R2.out.keep fun _ _ => rfl) R3.out R4.out HS3.out).mono fun _ _ h => ⟨h.1, h.2.symm⟩
    have HH := Lib.hid hh
    clear hh
    go_quiet ((go_at_call 10; exact Calls.quiet_of_same (HH.out _)))
    all_goals go_wp2
    all_goals go_ret
    all_goals exact ⟨rfl, ⟨HG5.out.os, HG5.out.tape, HG5.out.output, HG5.out.size, HG5.out.block⟩⟩
end Go.Proofs.Ytngfldlfoniklaa
