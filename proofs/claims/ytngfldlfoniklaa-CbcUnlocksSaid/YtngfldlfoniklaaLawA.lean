/- CbcSizes, CbcBack, CbcUnlocks: their walks. Conditions: what is asked of the code's three functions. -/
import Derived.Test.YtngfldlfoniklaaAlive6
namespace Go.Proofs.Ytngfldlfoniklaa
open Go.RowKit
set_option maxRecDepth 100000 in
set_option maxHeartbeats 800000 in
theorem sizes_walk (hA : AliveSays) (hZ : SizeSays) (w : World) (n : Int) (hn : (Lit.int .i64 n).wf = true) : Calls Try.prog 7 #[.int .i64 n] w fun e w' => e = .returned (.bool true) ∧ w.grownBy w' none := by
  have HA := Lib.hid hA
  have hz := fun W => hZ W n hn
  have hb : -9223372036854775808 ≤ n ∧ n ≤ 9223372036854775807 := by
    simp [Lit.wf, IntKind.min, IntKind.max, IntKind.bits, IntKind.signed] at hn
    omega
  clear hA hZ hn
  by_cases h1 : n < 0
  · have e1 : sizeZ n = 0 := by unfold sizeZ; rw [if_pos (.inl h1)]
    rw [e1] at hz
    have HZ := Lib.hid hz
    clear hz e1
    go_enter Try.func7, Try.ntmps7
    go_wp2_with (first
      | (go_at_call 9; refine (HA.out w).mono ?_; rintro _ w1 ⟨rfl, hg1⟩; have HG1 := Lib.hid hg1; clear hg1)
      | (go_at_call 14; refine (HZ.out _).mono ?_; rintro _ w2 ⟨rfl, hg2⟩; have HG2 := Lib.hid hg2; clear hg2))
    go_ret
    exact ⟨rfl, World.grownBy.trans HG1.out HG2.out⟩
  · by_cases h2 : 1099511627776 < n
    · have e1 : sizeZ n = 0 := by unfold sizeZ; rw [if_pos (.inr h2)]
      rw [e1] at hz
      have HZ := Lib.hid hz
      clear hz e1
      go_enter Try.func7, Try.ntmps7
      go_wp2_with (first
        | (go_at_call 9; refine (HA.out w).mono ?_; rintro _ w1 ⟨rfl, hg1⟩; have HG1 := Lib.hid hg1; clear hg1)
        | (go_at_call 14; refine (HZ.out _).mono ?_; rintro _ w2 ⟨rfl, hg2⟩; have HG2 := Lib.hid hg2; clear hg2))
      go_ret
      exact ⟨rfl, World.grownBy.trans HG1.out HG2.out⟩
    · have e1 : sizeZ n = n - n % 16 + 16 := by unfold sizeZ; rw [if_neg (by omega)]
      obtain ⟨z, hzz⟩ : ∃ z, z = n - n % 16 + 16 := ⟨_, rfl⟩
      rw [e1, ← hzz] at hz
      have HZ := Lib.hid hz
      have f1 : n < z := by omega
      have f2 : z.tmod 16 = 0 := by rw [Int.tmod_eq_emod_of_nonneg (by omega)]; omega
      have f3 : z % 16 = 0 := by omega
      have f4 : IntKind.i64.wrap (z - 16) = z - 16 := by rw [IntKind.wrap_i64]; omega
      have f5 : z - 16 ≤ n := by omega
      clear hz e1 hzz
      go_enter Try.func7, Try.ntmps7
      go_wp2_with (first
        | (go_at_call 9; refine (HA.out w).mono ?_; rintro _ w1 ⟨rfl, hg1⟩; have HG1 := Lib.hid hg1; clear hg1)
        | (go_at_call 14; refine (HZ.out _).mono ?_; rintro _ w2 ⟨rfl, hg2⟩; have HG2 := Lib.hid hg2; clear hg2))
      go_ret
      exact ⟨rfl, World.grownBy.trans HG1.out HG2.out⟩
set_option maxRecDepth 100000 in
set_option maxHeartbeats 1600000 in
theorem back_walk (hA : AliveSays) (hL : LockSays) (hU : UnlockSays) (hZ : SizeSays) {w : World} {ok : Nat → Prop} {A : Option Addr} {text : List UInt8} {n c : Nat} (hx : Byt w ok A text) (hok : ∀ b, ok b → b < w.heap.size) (hn : text.length = n) (hc : n ≤ c) (hm : c ≤ maxLen) (k : Fin 32 → UInt8) (v : State) :
    Calls Try.prog 4 #[.agg (u8s (k32 k)).toArray, .agg (bytesOf v).toArray, .slice A n c] w fun e w' => e = .returned (.bool true) ∧ w.grownBy w' none := by
  obtain ⟨b, hb⟩ : ∃ b, b = lockB (kn (k32 k)) v text := ⟨_, rfl⟩
  have hbl : b.length = (n / 16 + 1) * 16 := by rw [hb, lockB_length, hn]
  obtain ⟨L, hLe⟩ : ∃ L, L = b.length := ⟨_, rfl⟩
  have hul : unlockB (kn (k32 k)) v b = some text := by rw [hb]; exact unlock_lockB _ _ _
  have hcm : n ≤ 9223372036854775807 := by unfold maxLen at hm; omega
  have hsz : sizeZ (n : Int) = if n ≤ 3000 then (L : Int) else sizeZ (n : Int) := by
    split
    · unfold sizeZ
      rw [if_neg (by omega), hLe, hbl]
      omega
    · rfl
  have HA := Lib.hid hA
  have HL := Lib.hid hL
  have HU := Lib.hid hU
  have HZ := Lib.hid hZ
  have HX := Lib.hid hx
  have HOK := Lib.hid hok
  have HN := Lib.hid hn
  have HC := Lib.hid hc
  have HM := Lib.hid hm
  have HB := Lib.hid hb
  have HBL := Lib.hid hbl
  have HLE := Lib.hid hLe
  have HUL := Lib.hid hul
  have HSZ := Lib.hid hsz
  clear hA hL hU hZ hx hok hn hc hm hb hbl hLe hul hsz
  by_cases hlt : 3000 < n
  · have e1 : (3000 : Int) < (n : Int) := by omega
    go_enter Try.func4, Try.ntmps4
    go_wp2_with (first
      | (refine wpList_box22 rfl _ k rfl rfl ?_; intro w1 hb1 hg1 hz1; have HG1 := Lib.hid hg1; clear hb1 hg1 hz1)
      | (refine wpList_box23 rfl _ v rfl rfl ?_; intro w2 hb2 hg2 hz2; have HG2 := Lib.hid (World.grownBy.trans HG1.out hg2); clear hb2 hg2 hz2)
      | (go_at_call 9; refine (HA.out w2).mono ?_; rintro _ w3 ⟨rfl, hg3⟩; have HG3 := Lib.hid (World.grownBy.trans HG2.out hg3); clear hg3))
    go_ret
    exact ⟨rfl, HG3.out⟩
  · have e1 : ¬ ((3000 : Int) < (n : Int)) := by omega
    have HN3 := Lib.hid (show n ≤ 3000 by omega)
    go_enter Try.func4, Try.ntmps4
    go_wp2_with (first
      | (refine wpList_box22 rfl _ k rfl rfl ?_
         intro w1 hb1 hg1 hz1
         obtain ⟨gk, hgk⟩ : ∃ g, g = w.heap.size := ⟨_, rfl⟩
         rw [← hgk] at hb1 ⊢
         have HB1 := Lib.hid hb1
         have HG1 := Lib.hid hg1
         clear hb1 hg1 hz1 hgk)
      | (refine wpList_box23 rfl _ v rfl rfl ?_
         intro w2 hb2 hg2 hz2
         obtain ⟨gv, hgv⟩ : ∃ g, g = w1.heap.size := ⟨_, rfl⟩
         rw [← hgv] at hb2 ⊢
         have HB2 := Lib.hid hb2
         have HK2 := Lib.hid (HB1.out.grown hg2 (by simp))
         have HG2 := Lib.hid (World.grownBy.trans HG1.out hg2)
         clear hb2 hg2 hz2 hgv)
      | (go_at_call 9
         refine (HA.out w2).mono ?_
         rintro _ w3 ⟨rfl, hg3⟩
         have HB3 := Lib.hid (HB2.out.grown hg3 (by simp))
         have HK3 := Lib.hid (HK2.out.grown hg3 (by simp))
         have HG3 := Lib.hid (World.grownBy.trans HG2.out hg3)
         have HX3 := Lib.hid (HX.out.grown HG3.out (fun b hb => ⟨HOK.out b hb, by simp⟩))
         clear hg3)
      | (refine wpList_load_mid rfl 22 _ rfl gk 0 rfl (u8s (k32 k)) _ (by first | exact range_blk HK4.out | exact range_blk HK3.out) Try.underlying22 rfl (by rw [size22, u8s_length, k32_length]) ?_)
      | (refine wpList_load_mid rfl 23 _ rfl gv 0 rfl (bytesOf v) _ (by first | exact range_blk HB4.out | exact range_blk HB3.out) Try.underlying23 rfl (bytes_size' v) ?_)
      | (go_at_call 11
         refine (HL.out w3 ok A text n c HX3.out (fun b hb => Nat.lt_of_lt_of_le (HOK.out b hb) HG3.out.size) HN.out HC.out HM.out (by have := HN3.out; omega) k v).mono ?_
         rintro _ w4 ⟨A4, c4, rfl, hc4, hm4, hx4, hg4⟩
         rw [← HB.out] at hc4 hx4 ⊢
         rw [← HLE.out] at hc4 ⊢
         have HX4 := Lib.hid hx4
         have HC4 := Lib.hid hc4
         have HM4 := Lib.hid hm4
         have HB4 := Lib.hid (HB3.out.grown hg4 (by simp))
         have HK4 := Lib.hid (HK3.out.grown hg4 (by simp))
         have HG4 := Lib.hid (World.grownBy.trans HG3.out hg4)
         clear hc4 hm4 hx4 hg4)
      | (go_at_call 13
         refine (HU.out.yes (s := text) HX4.out (fun g hg => hg.2) HLE.out.symm HC4.out HM4.out (by have h1 := HLE.out; have h2 := HBL.out; have h3 := HN3.out; omega) k v HUL.out).mono ?_
         rintro _ w5 ⟨A5, c5, rfl, hc5, hm5, hx5, hg5⟩
         rw [HN.out]
         have HX5 := Lib.hid hx5
         have HG5 := Lib.hid (World.grownBy.trans HG4.out hg5)
         have HXT := Lib.hid (HX.out.grown HG5.out (fun b hb => ⟨HOK.out b hb, by simp⟩))
         clear hc5 hm5 hx5 hg5)
      | (go_at_call 10
         refine (byts_eq HX5.out HXT.out HN.out HN.out rfl).mono ?_
         rintro _ w6 ⟨rfl, hw6⟩
         rw [← hw6]
         clear hw6)
      | (go_at_call 14
         have hz := HZ.out w5 (n : Int) (by have := HN3.out; simp [Lit.wf, IntKind.min, IntKind.max, IntKind.bits, IntKind.signed]; omega)
         rw [HSZ.out, if_pos HN3.out] at hz
         refine hz.mono ?_
         rintro _ w7 ⟨rfl, hg7⟩
         have HG7 := Lib.hid (World.grownBy.trans HG5.out hg7)
         clear hz hg7))
    go_ret
    exact ⟨rfl, HG7.out⟩
end Go.Proofs.Ytngfldlfoniklaa
