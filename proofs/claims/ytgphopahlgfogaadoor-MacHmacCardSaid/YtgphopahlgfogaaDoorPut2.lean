/- Bytes are put behind a block that was begun. Conditions: none. -/
import Derived.Test.YtgphopahlgfogaaDoorPut
namespace Go.Proofs.YtgphopahlgfogaaDoor
open Go.RowKit
set_option maxRecDepth 100000 in
set_option maxHeartbeats 1600000 in
theorem put_short {w : World} {p c n : Nat} {ok : Nat → Prop} {A : Option Addr} {xs ys : List UInt8} (hh : HashAt w p xs) (hx : Byt w ok A ys) (hok : ∀ b, ok b → b < w.heap.size ∧ b ≠ p) (hn : ys.length = n) (hs : xs.length + n < 2305843009213693952)
    {r : Nat} (hz : xs.length % 64 = r) (hr0 : 0 < r) (hr : r + n < 64) :
    Calls Tryd.prog 19 #[.pointer (some ⟨p, 0, none⟩), .slice A n c] w fun e w' => e = .returned (.tuple #[]) ∧ HashAt w' p (xs ++ ys) ∧ w.grownBy w' (some p) := by
  have hrl : (rst xs).length = r := by rw [rst_length]; exact hz
  have hb : Blk w p 49 (u32s (st xs).list ++ (u8s (rst xs ++ zs (64 - r)) ++ [Value.int .u64 (xs.length : Nat)])) := by
    unfold HashAt hcells at hh
    rw [hrl] at hh
    exact hh
  have h72 : ((u32s (st xs).list ++ u8s (rst xs ++ zs (64 - r))).length) = 72 := by
    rw [List.length_append, u32s_length, u8s_length, list_length, List.length_append, hrl, zs_length]; omega
  have hc72 := hb.get 72 (.int .u64 (xs.length : Nat)) (by rw [← List.append_assoc, List.getElem?_append_right (by omega), h72]; rfl)
  have hf72 := hb.frozen 72
  have hb2 := hb.set 72 (.int .u64 ((xs.length : Int) + n))
  rw [← List.append_assoc, List.set_append_right _ _ (by omega), h72] at hb2
  have hb3 : Blk (w.setCell ⟨p, 72, none⟩ (.int .u64 ((xs.length : Int) + n))) p 49 ((u32s (st xs).list ++ u8s (rst xs)) ++ u8s (zs (64 - r)) ++ [Value.int .u64 ((xs.length : Int) + n)]) := hb2.to (by rw [u8s_append]; simp only [List.append_assoc]; rfl)
  have hpl : (u32s (st xs).list ++ u8s (rst xs)).length = 8 + r := by rw [List.length_append, u32s_length, u8s_length, list_length, hrl]
  have hx3 : Byt (w.setCell ⟨p, 72, none⟩ (.int .u64 ((xs.length : Int) + n))) ok A ys := hx.grown (grown_set w p 72 _) (fun b hb => ⟨(hok b hb).1, fun e => (hok b hb).2 (Option.some.inj e)⟩)
  have HB := Lib.hid hb3
  have HX := Lib.hid hx3
  have HP := Lib.hid hpl
  have HRL := Lib.hid hrl
  have HZ := Lib.hid hz
  have hzi : ((xs.length : Nat) : Int) % 64 = (r : Int) := by omega
  clear hh hx hb hb2 hb3 h72 hx3 hpl hrl hz
  have hr1 : (r : Int) ≤ 64 := by omega
  have hr2 : (0 : Int) ≤ (r : Int) := by omega
  go_enter Tryd.func19, Tryd.ntmps19
  go_wp2_with (refine wpList_copy_blk rfl _ _ rfl p (8 + r) (64 - r) (64 - r) n c A ys (zs (64 - r)) rfl rfl hn (zs_length _) 49 (u32s (st xs).list ++ u8s (rst xs)) [Value.int .u64 ((xs.length : Int) + n)] HB.out HP.out ok HX.out n (by rw [hn, zs_length]; exact Nat.min_eq_left (by omega)) ?_)
  intro w3 hb3 hg3 hz3
  go_wp2
  obtain ⟨e1, e2⟩ := st_short xs ys (by rw [HZ.out, hn]; exact hr)
  refine bodyPost_ret (results_none rfl _ _ _) rfl ⟨rfl, ?_, World.grownBy.trans (grown_set _ _ _ _) hg3⟩
  refine hb3.to ?_
  rw [hcells, e1, e2, lay_le _ _ (by rw [zs_length]; omega), zs_drop, List.length_append, HRL.out, hn, List.length_append, hn, Nat.sub_sub, u8s_append, u8s_append, u8s_append]
  simp only [List.append_assoc]
  rfl

set_option maxRecDepth 100000 in
set_option maxHeartbeats 1600000 in
theorem put_long {w : World} {p c n : Nat} {ok : Nat → Prop} {A : Option Addr} {xs ys : List UInt8} (hp : 1 < p) (hh : HashAt w p xs) (hx : Byt w ok A ys) (hok : ∀ b, ok b → b < w.heap.size ∧ b ≠ p) (hn : ys.length = n) (hc : n ≤ c) (hcm : c ≤ maxLen) (hs : xs.length + n < 2305843009213693952)
    {r : Nat} (hz : xs.length % 64 = r) (hr0 : 0 < r) (hr : 64 ≤ r + n) (hK : ∀ i, i < 80 → w.cell? ⟨1, i, none⟩ = some (.int .u64 (cuN.getD i 0 : Nat))) :
    Calls Tryd.prog 19 #[.pointer (some ⟨p, 0, none⟩), .slice A n c] w fun e w' => e = .returned (.tuple #[]) ∧ HashAt w' p (xs ++ ys) ∧ w.grownBy w' (some p) := by
  have hrl : (rst xs).length = r := by rw [rst_length]; exact hz
  have hb : Blk w p 49 (u32s (st xs).list ++ (u8s (rst xs ++ zs (64 - r)) ++ [Value.int .u64 (xs.length : Nat)])) := by
    unfold HashAt hcells at hh
    rw [hrl] at hh
    exact hh
  have h72 : ((u32s (st xs).list ++ u8s (rst xs ++ zs (64 - r))).length) = 72 := by
    rw [List.length_append, u32s_length, u8s_length, list_length, List.length_append, hrl, zs_length]; omega
  have hc72 := hb.get 72 (.int .u64 (xs.length : Nat)) (by rw [← List.append_assoc, List.getElem?_append_right (by omega), h72]; rfl)
  have hf72 := hb.frozen 72
  have hb2 := hb.set 72 (.int .u64 ((xs.length : Int) + n))
  rw [← List.append_assoc, List.set_append_right _ _ (by omega), h72] at hb2
  have hb3 : Blk (w.setCell ⟨p, 72, none⟩ (.int .u64 ((xs.length : Int) + n))) p 49 ((u32s (st xs).list ++ u8s (rst xs)) ++ u8s (zs (64 - r)) ++ [Value.int .u64 ((xs.length : Int) + n)]) := hb2.to (by rw [u8s_append]; simp only [List.append_assoc]; rfl)
  have hpl : (u32s (st xs).list ++ u8s (rst xs)).length = 8 + r := by rw [List.length_append, u32s_length, u8s_length, list_length, hrl]
  have hx3 : Byt (w.setCell ⟨p, 72, none⟩ (.int .u64 ((xs.length : Int) + n))) ok A ys := hx.grown (grown_set w p 72 _) (fun b hb => ⟨(hok b hb).1, fun e => (hok b hb).2 (Option.some.inj e)⟩)
  obtain ⟨ad, rfl, _, _⟩ := hx.some_ (by omega)
  have HB := Lib.hid hb3
  have HX := Lib.hid hx3
  have HX0 := Lib.hid hx
  have HP := Lib.hid hpl
  have HRL := Lib.hid hrl
  have HZ := Lib.hid hz
  have HK := Lib.hid hK
  have HN := Lib.hid hn
  have hzi : ((xs.length : Nat) : Int) % 64 = (r : Int) := by omega
  have hr1 : (r : Int) ≤ 64 := by omega
  have hr2 : (0 : Int) ≤ (r : Int) := by omega
  have hr3 : r ≤ 64 := by omega
  clear hh hx hb hb2 hb3 h72 hx3 hpl hrl hz hK hn
  go_enter Tryd.func19, Tryd.ntmps19
  go_wp2_with (refine wpList_copy_blk rfl _ _ rfl p (8 + r) (64 - r) (64 - r) n c (some ad) ys (zs (64 - r)) rfl rfl HN.out (zs_length _) 49 (u32s (st xs).list ++ u8s (rst xs)) [Value.int .u64 ((xs.length : Int) + n)] HB.out HP.out ok HX.out (64 - r) (by rw [HN.out, zs_length]; exact Nat.min_eq_right (by omega)) ?_)
  intro w3 hb3 hg3 hz3
  have HB3 := Lib.hid hb3
  have hg4 := World.grownBy.trans (grown_set w p 72 _) hg3
  have HG := Lib.hid hg4
  clear hb3 hg3 hz3 hg4 hc72 hf72
  have hbl : lay ys (zs (64 - r)) = ys.take (64 - r) := by
    rw [lay, zs_length, zs_drop, HN.out, show 64 - r - n = 0 by omega]
    simp [zs]
  have htl : (ys.take (64 - r)).length = 64 - r := by rw [List.length_take, HN.out]; omega
  have hkl : (rst xs ++ ys.take (64 - r)).length = 64 := by rw [List.length_append, HRL.out, htl]; omega
  have hb4 : Blk w3 p 49 (u32s (st xs).list ++ (u8s (rst xs ++ ys.take (64 - r)) ++ [Value.int .u64 ((xs.length : Int) + n)])) := HB3.out.to (by rw [hbl, u8s_append]; simp only [List.append_assoc])
  have hcomp := (st_block xs (ys.take (64 - r)) (by rw [htl, HZ.out]; omega)).1
  have HB4 := Lib.hid hb4
  have HC := Lib.hid hcomp
  have HKL := Lib.hid hkl
  clear hbl htl hkl hb4 hcomp HB3
  go_wp2_with (fail)
  all_goals
    refine wp_region_still_tail 7 (by kernel_rfl) (by kernel_rfl) ?_
    change wpStill _ _ w3.drew (fun a' => wpList _ _ _ _ a' w3.drew) _ _
    obtain ⟨w4, hw4⟩ : ∃ w4, w4 = w3.drew := ⟨_, rfl⟩
    rw [← hw4]
    have hg4 : w.grownBy w4 (some p) := grown_drew (n := 0) HG.out hw4
    have hb5 := HB4.out.keep (w' := w4) (by rw [hw4]; rfl)
    have hx5 : Byt w4 (fun b => b = p) (some ⟨p, 8, none⟩) (rst xs ++ ys.take (64 - r)) := (hb5.to (by rw [List.append_assoc])).byt (by rw [u32s_length]; rfl)
    have HG4 := Lib.hid hg4
    have HB5 := Lib.hid hb5
    have HX5 := Lib.hid hx5
    clear hw4 hg4 hb5 hx5
    simp only [List.take_succ_cons, List.take_zero, List.drop_succ_cons, List.drop_zero]
    repeat still_step
    refine wpStill_nil ?_
    have hk4 : ∀ i, i < 80 → w4.cell? ⟨1, i, none⟩ = some (.int .u64 (cuN.getD i 0 : Nat)) := fun i hi => HG4.out.cell (HK.out i hi) (by simp; omega)
    have K4 := Lib.hid hk4
    clear hk4
    have hp4 : ∀ b, b = p → b < w4.heap.size := fun b hb => by rw [hb]; exact HB5.out.lt
    go_wp2_with (first
      | (go_at_call 23; refine (take_any HB5.out HX5.out hp4 HKL.out (Nat.le_refl 64) K4.out).mono ?_; rintro _ w5 ⟨rfl, hb6, hg6⟩)
      | (refine wpList_clear_blk rfl _ rfl p 8 64 64 (rst xs ++ ys.take (64 - r)) rfl HKL.out (by omega) 49 (u32s (comp (st xs) (rst xs ++ ys.take (64 - r))).list) [Value.int .u64 ((xs.length : Int) + n)] (hb6.to (by rw [List.append_assoc])) (by rw [u32s_length]; rfl) ?_))
    intro w6 hb7 hg7 hz7
    have hi0 : PutInv w p xs ys ((xs.length : Int) + n) w6 (64 - r) := by
      refine ⟨?_, World.grownBy.trans (World.grownBy.trans HG4.out hg6) hg7, by have := HZ.out; omega, by rw [HN.out]; omega⟩
      rw [HC.out]
      exact hb7
    have hat : ∀ A2, (c ≠ 64 - r → A2 = some (ad.add (64 - r))) → PutAt w ok p xs ys ((xs.length : Int) + n) n (.slice A2 (n - (64 - r)) (c - (64 - r))) w6 := fun A2 hA => by
      refine ⟨64 - r, c - (64 - r), A2, rfl, by omega, by omega, ?_, hi0⟩
      by_cases e : c = 64 - r
      · rw [List.drop_eq_nil_of_le (by rw [HN.out]; omega)]; exact Byt.nil
      · rw [hA e]
        have := HX0.out.drop (k := 64 - r) (c := c) (by rw [HN.out]; omega) (by rw [HN.out]; exact hc)
        rw [if_neg e] at this
        exact this
    have HAT := Lib.hid hat
    clear hi0 hat hb7 hg7 hz7 hb6 hg6
    go_wp2_with (fail)
    go_loopw [1] (fun b wr => PutAt w ok p xs ys ((xs.length : Int) + n) n b wr) (fun b _ => lenV b)
    case atStart =>
      first
        | exact HAT.out _ (fun _ => rfl)
        | (have h2 := HAT.out (some ad) (fun e => absurd (show c = 64 - r by assumption) e); rw [show c - (64 - r) = 0 by omega] at h2; exact h2)
    case round =>
      clear HB HX HP HB4 HB5 HX5 HC K4 HAT HG4 HG hp4
      obtain ⟨d, c', A', rfl, hc', hcm', hx', hb, hg, hd, hdl⟩ := hrel
      have HD := Lib.hid hdl
      have HB := Lib.hid hb
      have HXX := Lib.hid hx'
      clear hb hdl hx'
      by_cases hlt : n - d < 64
      · have hyl : (ys.drop d).length = n - d := by rw [List.length_drop, HN.out]
        have hb3 : Blk wr p 49 (u32s (st (xs ++ ys.take d)).list ++ u8s (zs 64) ++ [Value.int .u64 ((xs.length : Int) + n)]) := HB.out.to (by rw [List.append_assoc])
        have hx3 : Byt wr ok A' (ys.drop d) := HXX.out.grown hg (fun b hb => ⟨(hok b hb).1, fun e => (hok b hb).2 (Option.some.inj e)⟩)
        have HB3 := Lib.hid hb3
        have HX3 := Lib.hid hx3
        clear hb3 hx3
        go_wp2_with (refine wpList_copy_blk rfl _ _ rfl p 8 64 64 (n - d) c' A' (ys.drop d) (zs 64) rfl rfl hyl (zs_length 64) 49 (u32s (st (xs ++ ys.take d)).list) [Value.int .u64 ((xs.length : Int) + n)] HB3.out rfl ok HX3.out (n - d) (by rw [hyl, zs_length]; exact Nat.min_eq_left (by omega)) ?_)
        intro w3 hb3 hg3 hz3
        go_wp2
        go_end0
        have h1 := HD.out
        have h2 := HN.out
        obtain ⟨e1, e2⟩ := st_end xs ys d hd h1 (by omega)
        refine ⟨rfl, ?_, World.grownBy.trans hg hg3⟩
        refine hb3.to ?_
        rw [hcells, e1, e2, lay_le _ _ (by rw [zs_length]; omega), zs_drop, hyl, List.length_append, h2]
        rfl
      · have hge : 64 ≤ n - d := by omega
        first
          | (exfalso; omega)
          | (
            clear hlt
            obtain ⟨ad, rfl, _, _⟩ := HXX.out.some_ (by rw [List.length_drop, HN.out]; omega)
            have hc64 : 64 ≤ c' := by omega
            have hc64' : (64 : Int) ≤ (c' : Int) := by omega
            go_wp2_with (fail)
            refine wp_region_still_tail 5 (by kernel_rfl) (by kernel_rfl) ?_
            change wpStill _ _ wr.drew (fun a' => wpList _ _ _ _ a' wr.drew) _ _
            obtain ⟨w2, hw2⟩ : ∃ w2, w2 = wr.drew := ⟨_, rfl⟩
            rw [← hw2]
            have hg2 : w.grownBy w2 (some p) := grown_drew (n := 0) hg hw2
            have hb2 := HB.out.keep (w' := w2) (by rw [hw2]; rfl)
            have HG2 := Lib.hid hg2
            have HB2 := Lib.hid hb2
            clear hw2 hg2 hb2 HB
            simp only [List.take_succ_cons, List.take_zero, List.drop_succ_cons, List.drop_zero]
            repeat still_step
            refine wpStill_nil ?_
            have hx19 := (HXX.out.grown HG2.out (fun b hb => ⟨(hok b hb).1, fun e => (hok b hb).2 (Option.some.inj e)⟩)).take 64
            have ho19 : ∀ b, ok b → b < w2.heap.size := fun b hb => Nat.lt_of_lt_of_le (hok b hb).1 HG2.out.size
            have hl19 : ((ys.drop d).take 64).length = 64 := by rw [List.length_take, List.length_drop, HN.out]; omega
            have hk19 : ∀ i, i < 80 → w2.cell? ⟨1, i, none⟩ = some (.int .u64 (cuN.getD i 0 : Nat)) := fun i hi => HG2.out.cell (HK.out i hi) (by simp; omega)
            have H19 := Lib.hid hx19
            have K19 := Lib.hid hk19
            clear hx19 hk19
            by_cases hcc : c' = 64
            · subst hcc
              go_wp2_with (go_at_call 23; refine (take_any HB2.out H19.out ho19 hl19 hc64 K19.out).mono ?_; rintro _ w3 ⟨rfl, hb3, hg3⟩)
              have hi := put_next HN.out hge hd HG2.out hg3 hb3
              go_roundw
              case rel =>
                have h := put_rel (A' := some ad) HXX.out HN.out hge hc' hcm' hi (fun e => absurd rfl e)
                rw [show n - d - 64 = 0 by omega] at h
                exact h
              case measure => simp [lenV]; omega
            · go_wp2_with (go_at_call 23; refine (take_any HB2.out H19.out ho19 hl19 hc64 K19.out).mono ?_; rintro _ w3 ⟨rfl, hb3, hg3⟩)
              have hi := put_next HN.out hge hd HG2.out hg3 hb3
              go_roundw
              case rel => exact put_rel HXX.out HN.out hge hc' hcm' hi (fun _ => rfl)
              case measure => simp [lenV]; omega)
end Go.Proofs.YtgphopahlgfogaaDoor
