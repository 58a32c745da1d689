/- CbcUnlocks: its walk. Conditions: what is asked of the code's three functions. -/
import Derived.Test.YtngfldlfoniklaaLawA
namespace Go.Proofs.Ytngfldlfoniklaa
open Go.RowKit
set_option maxRecDepth 100000 in
set_option maxHeartbeats 1600000 in
theorem unlocks6_walk (hA : AliveSays) (hU : UnlockSays) {w : World} {ok : Nat → Prop} {A : Option Addr} {b : List UInt8} {n c : Nat} (hx : Byt w ok A b) (hok : ∀ g, ok g → g < w.heap.size) (hn : b.length = n) (hc : n ≤ c) (hm : c ≤ maxLen) (k : Fin 32 → UInt8) (v : State) :
    Calls Try.prog 5 #[.agg (u8s (k32 k)).toArray, .agg (bytesOf v).toArray, .slice A n c] w fun e w' => e = .returned (.bool true) ∧ w.grownBy w' none := by
  have hcm : n ≤ 9223372036854775807 := by unfold maxLen at hm; omega
  have HA := Lib.hid hA
  have HU := Lib.hid hU
  have HX := Lib.hid hx
  have HOK := Lib.hid hok
  have HN := Lib.hid hn
  have HC := Lib.hid hc
  have HM := Lib.hid hm
  clear hA hU hx hok hn hc hm
  by_cases hlt : 1500 < n
  · have e1 : (1500 : Int) < (n : Int) := by omega
    go_enter Try.func5, Try.ntmps5
    go_wp2_with (first
      | (refine wpList_box22 rfl _ k rfl rfl ?_; intro w1 hb1 hg1 hz1; have HG1 := Lib.hid hg1; clear hb1 hg1 hz1)
      | (refine wpList_box23 rfl _ v rfl rfl ?_; intro w2 hb2 hg2 hz2; have HG2 := Lib.hid (World.grownBy.trans HG1.out hg2); clear hb2 hg2 hz2)
      | (go_at_call 9; refine (HA.out w2).mono ?_; rintro _ w3 ⟨rfl, hg3⟩; have HG3 := Lib.hid (World.grownBy.trans HG2.out hg3); clear hg3))
    go_ret
    exact ⟨rfl, HG3.out⟩
  · have e1 : ¬ ((1500 : Int) < (n : Int)) := by omega
    have HN3 := Lib.hid (show n ≤ 1500 by omega)
    cases hu : unlockB (kn (k32 k)) v b with
    | none =>
      have HUL := Lib.hid hu
      clear hu
      go_enter Try.func5, Try.ntmps5
      go_wp2_with (first
        | (refine wpList_box22 rfl _ k rfl rfl ?_
           intro w1 hb1 hg1 hz1
           obtain ⟨gk, hgk⟩ : ∃ g, g = w.heap.size := ⟨_, rfl⟩
           rw [← hgk] at hb1 ⊢
           have HB1 := Lib.hid hb1
           have HG1 := Lib.hid hg1
           clear hb1 hg1 hz1 hgk)
        | (refine wpList_box23 rfl _ v rfl rfl ?_
           intro w2 hb2 hg2 hz2
           obtain ⟨gv, hgv⟩ : ∃ g, g = w1.heap.size := ⟨_, rfl⟩
           rw [← hgv] at hb2 ⊢
           have HB2 := Lib.hid hb2
           have HK2 := Lib.hid (HB1.out.grown hg2 (by simp))
           have HG2 := Lib.hid (World.grownBy.trans HG1.out hg2)
           clear hb2 hg2 hz2 hgv)
        | (go_at_call 9
           refine (HA.out w2).mono ?_
           rintro _ w3 ⟨rfl, hg3⟩
           have HB3 := Lib.hid (HB2.out.grown hg3 (by simp))
           have HK3 := Lib.hid (HK2.out.grown hg3 (by simp))
           have HG3 := Lib.hid (World.grownBy.trans HG2.out hg3)
           have HX3 := Lib.hid (HX.out.grown HG3.out (fun b hb => ⟨HOK.out b hb, by simp⟩))
           clear hg3)
        | (refine wpList_load_mid rfl 22 _ rfl gk 0 rfl (u8s (k32 k)) _ (by first | exact range_blk HK4.out | exact range_blk HK3.out) Try.underlying22 rfl (by rw [size22, u8s_length, k32_length]) ?_)
        | (refine wpList_load_mid rfl 23 _ rfl gv 0 rfl (bytesOf v) _ (by first | exact range_blk HB4.out | exact range_blk HB3.out) Try.underlying23 rfl (bytes_size' v) ?_)
        | (go_at_call 13
           refine (HU.out.no HX3.out (fun g hg => Nat.lt_of_lt_of_le (HOK.out g hg) HG3.out.size) HN.out HC.out HM.out (by have h3 := HN3.out; omega) k v HUL.out).mono ?_
           rintro _ w5 ⟨A5, c5, rfl, hg5⟩
           have HG5 := Lib.hid (World.grownBy.trans HG3.out hg5)
           clear hg5))
      go_ret
      exact ⟨rfl, HG5.out⟩
    | some s =>
      have hls := lock_unlockB _ _ _ _ hu
      have hsl : s.length ≤ n := by
        have h1 := lockB_length (kn (k32 k)) v s
        rw [hls, HN.out] at h1
        omega
      have HUL := Lib.hid hu
      have HLS := Lib.hid hls
      have HSL := Lib.hid hsl
      clear hu hls hsl
      go_enter Try.func5, Try.ntmps5
      go_wp2_with (first
        | (refine wpList_box22 rfl _ k rfl rfl ?_
           intro w1 hb1 hg1 hz1
           obtain ⟨gk, hgk⟩ : ∃ g, g = w.heap.size := ⟨_, rfl⟩
           rw [← hgk] at hb1 ⊢
           have HB1 := Lib.hid hb1
           have HG1 := Lib.hid hg1
           clear hb1 hg1 hz1 hgk)
        | (refine wpList_box23 rfl _ v rfl rfl ?_
           intro w2 hb2 hg2 hz2
           obtain ⟨gv, hgv⟩ : ∃ g, g = w1.heap.size := ⟨_, rfl⟩
           rw [← hgv] at hb2 ⊢
           have HB2 := Lib.hid hb2
           have HK2 := Lib.hid (HB1.out.grown hg2 (by simp))
           have HG2 := Lib.hid (World.grownBy.trans HG1.out hg2)
           clear hb2 hg2 hz2 hgv)
        | (go_at_call 9
           refine (HA.out w2).mono ?_
           rintro _ w3 ⟨rfl, hg3⟩
           have HB3 := Lib.hid (HB2.out.grown hg3 (by simp))
           have HK3 := Lib.hid (HK2.out.grown hg3 (by simp))
           have HG3 := Lib.hid (World.grownBy.trans HG2.out hg3)
           have HX3 := Lib.hid (HX.out.grown HG3.out (fun b hb => ⟨HOK.out b hb, by simp⟩))
           clear hg3)
        | (refine wpList_load_mid rfl 22 _ rfl gk 0 rfl (u8s (k32 k)) _ (by first | exact range_blk HK4.out | exact range_blk HK3.out) Try.underlying22 rfl (by rw [size22, u8s_length, k32_length]) ?_)
        | (refine wpList_load_mid rfl 23 _ rfl gv 0 rfl (bytesOf v) _ (by first | exact range_blk HB4.out | exact range_blk HB3.out) Try.underlying23 rfl (bytes_size' v) ?_)
        | (go_at_call 13
           refine (HU.out.yes (s := s) HX3.out (fun g hg => Nat.lt_of_lt_of_le (HOK.out g hg) HG3.out.size) HN.out HC.out HM.out (by have h3 := HN3.out; omega) k v HUL.out).mono ?_
           rintro _ w4 ⟨A5, c5, rfl, hc5, hm5, hx5, hg5⟩
           have HX5 := Lib.hid hx5
           have HB4 := Lib.hid (HB3.out.grown hg5 (by simp))
           have HK4 := Lib.hid (HK3.out.grown hg5 (by simp))
           have HG4 := Lib.hid (World.grownBy.trans HG3.out hg5)
           clear hc5 hm5 hx5 hg5)
        | (go_at_call 12
           refine (ref6_any (c := c5) HX5.out (fun g hg => hg) rfl (by have h1 := HSL.out; have h3 := HN3.out; omega) k v).mono ?_
           rintro _ w6 ⟨A6, c6, rfl, hx6, hg6⟩
           rw [HLS.out] at hx6 ⊢
           rw [HN.out]
           have HX6 := Lib.hid hx6
           have HG6 := Lib.hid (World.grownBy.trans HG4.out hg6)
           have HXT := Lib.hid (HX.out.grown HG6.out (fun b hb => ⟨HOK.out b hb, by simp⟩))
           clear hx6 hg6)
        | (go_at_call 10
           refine (byts_eq HX6.out HXT.out HN.out HN.out rfl).mono ?_
           rintro _ w7 ⟨rfl, hw7⟩
           rw [← hw7]
           clear hw7))
      go_ret
      exact ⟨rfl, HG6.out⟩
end Go.Proofs.Ytngfldlfoniklaa
