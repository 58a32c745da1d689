/- Bytes are put behind what was put already. Conditions: none. Bytes are put behind a block that was begun. Conditions: none. What a hash under way tells. Conditions: none. -/
import Derived.Test.YtdnkeaokgkiloaaDoorSb
namespace Go.Proofs.YtdnkeaokgkiloaaDoor.S
open Go.RowKit
/-- Behind so many bytes. -/
theorem st_next (xs ys : List UInt8) (d : Nat) (h : (xs.length + d) % 64 = 0) (hd : d + 64 ≤ ys.length) : st (xs ++ ys.take (d + 64)) = comp (st (xs ++ ys.take d)) ((ys.drop d).take 64) := by
  have e : xs ++ ys.take (d + 64) = (xs ++ ys.take d) ++ (ys.drop d).take 64 := by rw [List.append_assoc, List.take_add]
  have hl : (xs ++ ys.take d).length % 64 = 0 := by simp only [List.length_append, List.length_take]; rw [Nat.min_eq_left (by omega)]; exact h
  have hr : rst (xs ++ ys.take d) = [] := List.eq_nil_of_length_eq_zero (by rw [rst_length]; exact hl)
  rw [e, (st_block _ _ (by rw [hl]; simp; omega)).1, hr, List.nil_append]
theorem st_end (xs ys : List UInt8) (d : Nat) (h : (xs.length + d) % 64 = 0) (hd : d ≤ ys.length) (h2 : ys.length < d + 64) : st (xs ++ ys) = st (xs ++ ys.take d) ∧ rst (xs ++ ys) = ys.drop d := by
  have e : xs ++ ys = (xs ++ ys.take d) ++ ys.drop d := by rw [List.append_assoc, List.take_append_drop]
  have hl : (xs ++ ys.take d).length % 64 = 0 := by simp only [List.length_append, List.length_take]; rw [Nat.min_eq_left hd]; exact h
  have hr : rst (xs ++ ys.take d) = [] := List.eq_nil_of_length_eq_zero (by rw [rst_length]; exact hl)
  have h3 := st_short (xs ++ ys.take d) (ys.drop d) (by rw [hl]; simp; omega)
  rw [hr, List.nil_append, ← e] at h3
  exact h3
/-- While blocks are taken. -/
def PutInv (w : World) (p : Nat) (xs ys : List UInt8) (N : Int) (wr : World) (d : Nat) : Prop :=
  Blk wr p 126 (u32s (st (xs ++ ys.take d)).list ++ (u8s (zs 64) ++ [Value.int .u64 N])) ∧ w.grownBy wr (some p) ∧ (xs.length + d) % 64 = 0 ∧ d ≤ ys.length
def PutAt (w : World) (ok : Nat → Prop) (p : Nat) (xs ys : List UInt8) (N : Int) (n : Nat) (b : Value) (wr : World) : Prop :=
  ∃ d c' A', b = .slice A' (n - d) c' ∧ n - d ≤ c' ∧ c' ≤ maxLen ∧ Byt w ok A' (ys.drop d) ∧ PutInv w p xs ys N wr d
/-- How long a slice is. -/
def lenV : Value → Nat
  | .slice _ m _ => m
  | _ => 0
theorem put_next {w w2 w3 : World} {p n d : Nat} {xs ys : List UInt8} {N : Int} (hn : ys.length = n) (hge : 64 ≤ n - d) (hd : (xs.length + d) % 64 = 0) (hg2 : w.grownBy w2 (some p)) (hg3 : w2.grownBy w3 (some p))
    (hb : Blk w3 p 126 (u32s (comp (st (xs ++ ys.take d)) ((ys.drop d).take 64)).list ++ (u8s (zs 64) ++ [Value.int .u64 N]))) : PutInv w p xs ys N w3 (d + 64) := by
  refine ⟨?_, World.grownBy.trans hg2 hg3, by omega, by omega⟩
  rw [st_next xs ys d hd (by omega)]
  exact hb
theorem put_rel {w w3 : World} {ok : Nat → Prop} {p n d c' : Nat} {ad : Addr} {A' : Option Addr} {xs ys : List UInt8} {N : Int} (hx : Byt w ok (some ad) (ys.drop d)) (hn : ys.length = n) (hge : 64 ≤ n - d) (hc : n - d ≤ c') (hcm : c' ≤ maxLen)
    (hi : PutInv w p xs ys N w3 (d + 64)) (hA : c' ≠ 64 → A' = some (ad.add 64)) : PutAt w ok p xs ys N n (.slice A' (n - d - 64) (c' - 64)) w3 := by
  refine ⟨d + 64, c' - 64, A', by rw [Nat.sub_sub], by omega, by omega, ?_, hi⟩
  by_cases e : c' = 64
  · rw [List.drop_eq_nil_of_le (by omega)]; exact Byt.nil
  · rw [hA e, ← List.drop_drop]
    have := hx.drop (k := 64) (c := c') (by rw [List.length_drop]; omega) (by rw [List.length_drop]; omega)
    rw [if_neg e] at this
    exact this
set_option maxRecDepth 100000 in
set_option maxHeartbeats 1600000 in
theorem put_zero {w : World} {p c n : Nat} {ok : Nat → Prop} {A : Option Addr} {xs ys : List UInt8} (hp : 1 < p) (hh : HashAt w p xs) (hx : Byt w ok A ys) (hok : ∀ b, ok b → b < w.heap.size ∧ b ≠ p) (hn : ys.length = n) (hc : n ≤ c) (hcm : c ≤ maxLen) (hs : xs.length + n < 2305843009213693952)
    (hz : xs.length % 64 = 0) (hK : ∀ i, i < 80 → w.cell? ⟨1, i, none⟩ = some (.int .u64 (cuN.getD i 0 : Nat))) :
    Calls Tryd.prog 63 #[.pointer (some ⟨p, 0, none⟩), .slice A n c] w fun e w' => e = .returned (.tuple #[]) ∧ HashAt w' p (xs ++ ys) ∧ w.grownBy w' (some p) := by
  have hr0 : rst xs = [] := List.eq_nil_of_length_eq_zero (by rw [rst_length]; exact hz)
  have hb : Blk w p 126 (u32s (st xs).list ++ (u8s (zs 64) ++ [Value.int .u64 (xs.length : Nat)])) := by
    unfold HashAt hcells at hh
    rw [hr0] at hh
    exact hh
  have hc72 := hb.get 72 (.int .u64 (xs.length : Nat)) rfl
  have hf72 := hb.frozen 72
  have hb2 := hb.set 72 (.int .u64 ((xs.length : Int) + n))
  have hset : (u32s (st xs).list ++ (u8s (zs 64) ++ [Value.int .u64 (xs.length : Nat)])).set 72 (.int .u64 ((xs.length : Int) + n)) = u32s (st xs).list ++ (u8s (zs 64) ++ [Value.int .u64 ((xs.length : Int) + n)]) := rfl
  rw [hset] at hb2
  have HB2 := Lib.hid hb2
  have HX := Lib.hid hx
  have HH := Lib.hid hh
  have HK := Lib.hid hK
  have HN := Lib.hid hn
  have hzi : ((xs.length : Nat) : Int) % 64 = 0 := by omega
  clear hb hb2 hset hx hh hK hn
  go_enter Tryd.func63, Tryd.ntmps63
  go_wp2_with (fail)
  simp only [hzi]
  clear hzi
  go_loopw [1] (fun b wr => PutAt w ok p xs ys ((xs.length : Int) + n) n b wr) (fun b _ => lenV b)
  case atStart => exact ⟨0, c, A, by simp, by omega, hcm, by simpa using HX.out, by rw [List.take_zero, List.append_nil]; exact HB2.out, grown_set _ _ _ _, by omega, Nat.zero_le _⟩
  case round =>
    clear hc72 hf72 HB2
    obtain ⟨d, c', A', rfl, hc', hcm', hx', hb, hg, hd, hdl⟩ := hrel
    have HD := Lib.hid hdl
    have HB := Lib.hid hb
    have HXX := Lib.hid hx'
    clear hb hdl hx'
    by_cases hlt : n - d < 64
    · have hyl : (ys.drop d).length = n - d := by rw [List.length_drop, HN.out]
      have hb3 : Blk wr p 126 (u32s (st (xs ++ ys.take d)).list ++ u8s (zs 64) ++ [Value.int .u64 ((xs.length : Int) + n)]) := HB.out.to (by rw [List.append_assoc])
      have hx3 : Byt wr ok A' (ys.drop d) := HXX.out.grown hg (fun b hb => ⟨(hok b hb).1, fun e => (hok b hb).2 (Option.some.inj e)⟩)
      have HB3 := Lib.hid hb3
      have HX3 := Lib.hid hx3
      clear hb3 hx3
      go_wp2_with (refine wpList_copy_blk rfl _ _ rfl p 8 64 64 (n - d) c' A' (ys.drop d) (zs 64) rfl rfl hyl (zs_length 64) 126 (u32s (st (xs ++ ys.take d)).list) [Value.int .u64 ((xs.length : Int) + n)] HB3.out rfl ok HX3.out (n - d) (by rw [hyl, zs_length]; exact Nat.min_eq_left (by omega)) ?_)
      intro w3 hb3 hg3 hz3
      go_wp2
      go_end0
      have h1 := HD.out
      have h2 := HN.out
      obtain ⟨e1, e2⟩ := st_end xs ys d hd h1 (by omega)
      refine ⟨rfl, ?_, World.grownBy.trans hg hg3⟩
      refine hb3.to ?_
      rw [hcells, e1, e2, lay_le _ _ (by rw [zs_length]; omega), zs_drop, hyl, List.length_append, h2]
      rfl
    · have hge : 64 ≤ n - d := by omega
      clear hlt
      obtain ⟨ad, rfl, _, _⟩ := HXX.out.some_ (by rw [List.length_drop, HN.out]; omega)
      have hc64 : 64 ≤ c' := by omega
      have hc64' : (64 : Int) ≤ (c' : Int) := by omega
      go_wp2_with (fail)
      refine wp_region_still_tail 5 (by kernel_rfl) (by kernel_rfl) ?_
      change wpStill _ _ wr.drew (fun a' => wpList _ _ _ _ a' wr.drew) _ _
      obtain ⟨w2, hw2⟩ : ∃ w2, w2 = wr.drew := ⟨_, rfl⟩
      rw [← hw2]
      have hg2 : w.grownBy w2 (some p) := grown_drew (n := 0) hg hw2
      have hb2 := HB.out.keep (w' := w2) (by rw [hw2]; rfl)
      have HG2 := Lib.hid hg2
      have HB2 := Lib.hid hb2
      clear hw2 hg2 hb2 HB
      simp only [List.take_succ_cons, List.take_zero, List.drop_succ_cons, List.drop_zero]
      repeat still_step
      refine wpStill_nil ?_
      have hx19 := (HXX.out.grown HG2.out (fun b hb => ⟨(hok b hb).1, fun e => (hok b hb).2 (Option.some.inj e)⟩)).take 64
      have ho19 : ∀ b, ok b → b < w2.heap.size := fun b hb => Nat.lt_of_lt_of_le (hok b hb).1 HG2.out.size
      have hl19 : ((ys.drop d).take 64).length = 64 := by rw [List.length_take, List.length_drop, HN.out]; omega
      have hk19 : ∀ i, i < 80 → w2.cell? ⟨1, i, none⟩ = some (.int .u64 (cuN.getD i 0 : Nat)) := fun i hi => HG2.out.cell (HK.out i hi) (by simp; omega)
      have H19 := Lib.hid hx19
      have K19 := Lib.hid hk19
      clear hx19 hk19
      by_cases hcc : c' = 64
      · subst hcc
        go_wp2_with (go_at_call 66; refine (take_any HB2.out H19.out ho19 hl19 hc64 K19.out).mono ?_; rintro _ w3 ⟨rfl, hb3, hg3⟩)
        have hi := put_next HN.out hge hd HG2.out hg3 hb3
        go_roundw
        case rel =>
          have h := put_rel (A' := some ad) HXX.out HN.out hge hc' hcm' hi (fun e => absurd rfl e)
          rw [show n - d - 64 = 0 by omega] at h
          exact h
        case measure => simp [lenV]; omega
      · go_wp2_with (go_at_call 66; refine (take_any HB2.out H19.out ho19 hl19 hc64 K19.out).mono ?_; rintro _ w3 ⟨rfl, hb3, hg3⟩)
        have hi := put_next HN.out hge hd HG2.out hg3 hb3
        go_roundw
        case rel => exact put_rel HXX.out HN.out hge hc' hcm' hi (fun _ => rfl)
        case measure => simp [lenV]; omega
open Go.RowKit
set_option maxRecDepth 100000 in
set_option maxHeartbeats 1600000 in
theorem put_short {w : World} {p c n : Nat} {ok : Nat → Prop} {A : Option Addr} {xs ys : List UInt8} (hh : HashAt w p xs) (hx : Byt w ok A ys) (hok : ∀ b, ok b → b < w.heap.size ∧ b ≠ p) (hn : ys.length = n) (hs : xs.length + n < 2305843009213693952)
    {r : Nat} (hz : xs.length % 64 = r) (hr0 : 0 < r) (hr : r + n < 64) :
    Calls Tryd.prog 63 #[.pointer (some ⟨p, 0, none⟩), .slice A n c] w fun e w' => e = .returned (.tuple #[]) ∧ HashAt w' p (xs ++ ys) ∧ w.grownBy w' (some p) := by
  have hrl : (rst xs).length = r := by rw [rst_length]; exact hz
  have hb : Blk w p 126 (u32s (st xs).list ++ (u8s (rst xs ++ zs (64 - r)) ++ [Value.int .u64 (xs.length : Nat)])) := by
    unfold HashAt hcells at hh
    rw [hrl] at hh
    exact hh
  have h72 : ((u32s (st xs).list ++ u8s (rst xs ++ zs (64 - r))).length) = 72 := by
    rw [List.length_append, u32s_length, u8s_length, list_length, List.length_append, hrl, zs_length]; omega
  have hc72 := hb.get 72 (.int .u64 (xs.length : Nat)) (by rw [← List.append_assoc, List.getElem?_append_right (by omega), h72]; rfl)
  have hf72 := hb.frozen 72
  have hb2 := hb.set 72 (.int .u64 ((xs.length : Int) + n))
  rw [← List.append_assoc, List.set_append_right _ _ (by omega), h72] at hb2
  have hb3 : Blk (w.setCell ⟨p, 72, none⟩ (.int .u64 ((xs.length : Int) + n))) p 126 ((u32s (st xs).list ++ u8s (rst xs)) ++ u8s (zs (64 - r)) ++ [Value.int .u64 ((xs.length : Int) + n)]) := hb2.to (by rw [u8s_append]; simp only [List.append_assoc]; rfl)
  have hpl : (u32s (st xs).list ++ u8s (rst xs)).length = 8 + r := by rw [List.length_append, u32s_length, u8s_length, list_length, hrl]
  have hx3 : Byt (w.setCell ⟨p, 72, none⟩ (.int .u64 ((xs.length : Int) + n))) ok A ys := hx.grown (grown_set w p 72 _) (fun b hb => ⟨(hok b hb).1, fun e => (hok b hb).2 (Option.some.inj e)⟩)
  have HB := Lib.hid hb3
  have HX := Lib.hid hx3
  have HP := Lib.hid hpl
  have HRL := Lib.hid hrl
  have HZ := Lib.hid hz
  have hzi : ((xs.length : Nat) : Int) % 64 = (r : Int) := by omega
  clear hh hx hb hb2 hb3 h72 hx3 hpl hrl hz
  have hr1 : (r : Int) ≤ 64 := by omega
  have hr2 : (0 : Int) ≤ (r : Int) := by omega
  go_enter Tryd.func63, Tryd.ntmps63
  go_wp2_with (refine wpList_copy_blk rfl _ _ rfl p (8 + r) (64 - r) (64 - r) n c A ys (zs (64 - r)) rfl rfl hn (zs_length _) 126 (u32s (st xs).list ++ u8s (rst xs)) [Value.int .u64 ((xs.length : Int) + n)] HB.out HP.out ok HX.out n (by rw [hn, zs_length]; exact Nat.min_eq_left (by omega)) ?_)
  intro w3 hb3 hg3 hz3
  go_wp2
  obtain ⟨e1, e2⟩ := st_short xs ys (by rw [HZ.out, hn]; exact hr)
  refine bodyPost_ret (results_none rfl _ _ _) rfl ⟨rfl, ?_, World.grownBy.trans (grown_set _ _ _ _) hg3⟩
  refine hb3.to ?_
  rw [hcells, e1, e2, lay_le _ _ (by rw [zs_length]; omega), zs_drop, List.length_append, HRL.out, hn, List.length_append, hn, Nat.sub_sub, u8s_append, u8s_append, u8s_append]
  simp only [List.append_assoc]
  rfl
set_option maxRecDepth 100000 in
set_option maxHeartbeats 1600000 in
theorem put_long {w : World} {p c n : Nat} {ok : Nat → Prop} {A : Option Addr} {xs ys : List UInt8} (hp : 1 < p) (hh : HashAt w p xs) (hx : Byt w ok A ys) (hok : ∀ b, ok b → b < w.heap.size ∧ b ≠ p) (hn : ys.length = n) (hc : n ≤ c) (hcm : c ≤ maxLen) (hs : xs.length + n < 2305843009213693952)
    {r : Nat} (hz : xs.length % 64 = r) (hr0 : 0 < r) (hr : 64 ≤ r + n) (hK : ∀ i, i < 80 → w.cell? ⟨1, i, none⟩ = some (.int .u64 (cuN.getD i 0 : Nat))) :
    Calls Tryd.prog 63 #[.pointer (some ⟨p, 0, none⟩), .slice A n c] w fun e w' => e = .returned (.tuple #[]) ∧ HashAt w' p (xs ++ ys) ∧ w.grownBy w' (some p) := by
  have hrl : (rst xs).length = r := by rw [rst_length]; exact hz
  have hb : Blk w p 126 (u32s (st xs).list ++ (u8s (rst xs ++ zs (64 - r)) ++ [Value.int .u64 (xs.length : Nat)])) := by
    unfold HashAt hcells at hh
    rw [hrl] at hh
    exact hh
  have h72 : ((u32s (st xs).list ++ u8s (rst xs ++ zs (64 - r))).length) = 72 := by
    rw [List.length_append, u32s_length, u8s_length, list_length, List.length_append, hrl, zs_length]; omega
  have hc72 := hb.get 72 (.int .u64 (xs.length : Nat)) (by rw [← List.append_assoc, List.getElem?_append_right (by omega), h72]; rfl)
  have hf72 := hb.frozen 72
  have hb2 := hb.set 72 (.int .u64 ((xs.length : Int) + n))
  rw [← List.append_assoc, List.set_append_right _ _ (by omega), h72] at hb2
  have hb3 : Blk (w.setCell ⟨p, 72, none⟩ (.int .u64 ((xs.length : Int) + n))) p 126 ((u32s (st xs).list ++ u8s (rst xs)) ++ u8s (zs (64 - r)) ++ [Value.int .u64 ((xs.length : Int) + n)]) := hb2.to (by rw [u8s_append]; simp only [List.append_assoc]; rfl)
  have hpl : (u32s (st xs).list ++ u8s (rst xs)).length = 8 + r := by rw [List.length_append, u32s_length, u8s_length, list_length, hrl]
  have hx3 : Byt (w.setCell ⟨p, 72, none⟩ (.int .u64 ((xs.length : Int) + n))) ok A ys := hx.grown (grown_set w p 72 _) (fun b hb => ⟨(hok b hb).1, fun e => (hok b hb).2 (Option.some.inj e)⟩)
  obtain ⟨ad, rfl, _, _⟩ := hx.some_ (by omega)
  have HB := Lib.hid hb3
  have HX := Lib.hid hx3
  have HX0 := Lib.hid hx
  have HP := Lib.hid hpl
  have HRL := Lib.hid hrl
  have HZ := Lib.hid hz
  have HK := Lib.hid hK
  have HN := Lib.hid hn
  have hzi : ((xs.length : Nat) : Int) % 64 = (r : Int) := by omega
  have hr1 : (r : Int) ≤ 64 := by omega
  have hr2 : (0 : Int) ≤ (r : Int) := by omega
  have hr3 : r ≤ 64 := by omega
  clear hh hx hb hb2 hb3 h72 hx3 hpl hrl hz hK hn
  go_enter Tryd.func63, Tryd.ntmps63
  go_wp2_with (refine wpList_copy_blk rfl _ _ rfl p (8 + r) (64 - r) (64 - r) n c (some ad) ys (zs (64 - r)) rfl rfl HN.out (zs_length _) 126 (u32s (st xs).list ++ u8s (rst xs)) [Value.int .u64 ((xs.length : Int) + n)] HB.out HP.out ok HX.out (64 - r) (by rw [HN.out, zs_length]; exact Nat.min_eq_right (by omega)) ?_)
  intro w3 hb3 hg3 hz3
  have HB3 := Lib.hid hb3
  have hg4 := World.grownBy.trans (grown_set w p 72 _) hg3
  have HG := Lib.hid hg4
  clear hb3 hg3 hz3 hg4 hc72 hf72
  have hbl : lay ys (zs (64 - r)) = ys.take (64 - r) := by
    rw [lay, zs_length, zs_drop, HN.out, show 64 - r - n = 0 by omega]
    simp [zs]
  have htl : (ys.take (64 - r)).length = 64 - r := by rw [List.length_take, HN.out]; omega
  have hkl : (rst xs ++ ys.take (64 - r)).length = 64 := by rw [List.length_append, HRL.out, htl]; omega
  have hb4 : Blk w3 p 126 (u32s (st xs).list ++ (u8s (rst xs ++ ys.take (64 - r)) ++ [Value.int .u64 ((xs.length : Int) + n)])) := HB3.out.to (by rw [hbl, u8s_append]; simp only [List.append_assoc])
  have hcomp := (st_block xs (ys.take (64 - r)) (by rw [htl, HZ.out]; omega)).1
  have HB4 := Lib.hid hb4
  have HC := Lib.hid hcomp
  have HKL := Lib.hid hkl
  clear hbl htl hkl hb4 hcomp HB3
  go_wp2_with (fail)
  all_goals
    refine wp_region_still_tail 7 (by kernel_rfl) (by kernel_rfl) ?_
    change wpStill _ _ w3.drew (fun a' => wpList _ _ _ _ a' w3.drew) _ _
    obtain ⟨w4, hw4⟩ : ∃ w4, w4 = w3.drew := ⟨_, rfl⟩
    rw [← hw4]
    have hg4 : w.grownBy w4 (some p) := grown_drew (n := 0) HG.out hw4
    have hb5 := HB4.out.keep (w' := w4) (by rw [hw4]; rfl)
    have hx5 : Byt w4 (fun b => b = p) (some ⟨p, 8, none⟩) (rst xs ++ ys.take (64 - r)) := (hb5.to (by rw [List.append_assoc])).byt (by rw [u32s_length]; rfl)
    have HG4 := Lib.hid hg4
    have HB5 := Lib.hid hb5
    have HX5 := Lib.hid hx5
    clear hw4 hg4 hb5 hx5
    simp only [List.take_succ_cons, List.take_zero, List.drop_succ_cons, List.drop_zero]
    repeat still_step
    refine wpStill_nil ?_
    have hk4 : ∀ i, i < 80 → w4.cell? ⟨1, i, none⟩ = some (.int .u64 (cuN.getD i 0 : Nat)) := fun i hi => HG4.out.cell (HK.out i hi) (by simp; omega)
    have K4 := Lib.hid hk4
    clear hk4
    have hp4 : ∀ b, b = p → b < w4.heap.size := fun b hb => by rw [hb]; exact HB5.out.lt
    go_wp2_with (first
      | (go_at_call 66; refine (take_any HB5.out HX5.out hp4 HKL.out (Nat.le_refl 64) K4.out).mono ?_; rintro _ w5 ⟨rfl, hb6, hg6⟩)
      | (refine wpList_clear_blk rfl _ rfl p 8 64 64 (rst xs ++ ys.take (64 - r)) rfl HKL.out (by omega) 126 (u32s (comp (st xs) (rst xs ++ ys.take (64 - r))).list) [Value.int .u64 ((xs.length : Int) + n)] (hb6.to (by rw [List.append_assoc])) (by rw [u32s_length]; rfl) ?_))
    intro w6 hb7 hg7 hz7
    have hi0 : PutInv w p xs ys ((xs.length : Int) + n) w6 (64 - r) := by
      refine ⟨?_, World.grownBy.trans (World.grownBy.trans HG4.out hg6) hg7, by have := HZ.out; omega, by rw [HN.out]; omega⟩
      rw [HC.out]
      exact hb7
    have hat : ∀ A2, (c ≠ 64 - r → A2 = some (ad.add (64 - r))) → PutAt w ok p xs ys ((xs.length : Int) + n) n (.slice A2 (n - (64 - r)) (c - (64 - r))) w6 := fun A2 hA => by
      refine ⟨64 - r, c - (64 - r), A2, rfl, by omega, by omega, ?_, hi0⟩
      by_cases e : c = 64 - r
      · rw [List.drop_eq_nil_of_le (by rw [HN.out]; omega)]; exact Byt.nil
      · rw [hA e]
        have := HX0.out.drop (k := 64 - r) (c := c) (by rw [HN.out]; omega) (by rw [HN.out]; exact hc)
        rw [if_neg e] at this
        exact this
    have HAT := Lib.hid hat
    clear hi0 hat hb7 hg7 hz7 hb6 hg6
    go_wp2_with (fail)
    go_loopw [1] (fun b wr => PutAt w ok p xs ys ((xs.length : Int) + n) n b wr) (fun b _ => lenV b)
    case atStart =>
      first
        | exact HAT.out _ (fun _ => rfl)
        | (have h2 := HAT.out (some ad) (fun e => absurd (show c = 64 - r by assumption) e); rw [show c - (64 - r) = 0 by omega] at h2; exact h2)
    case round =>
      clear HB HX HP HB4 HB5 HX5 HC K4 HAT HG4 HG hp4
      obtain ⟨d, c', A', rfl, hc', hcm', hx', hb, hg, hd, hdl⟩ := hrel
      have HD := Lib.hid hdl
      have HB := Lib.hid hb
      have HXX := Lib.hid hx'
      clear hb hdl hx'
      by_cases hlt : n - d < 64
      · have hyl : (ys.drop d).length = n - d := by rw [List.length_drop, HN.out]
        have hb3 : Blk wr p 126 (u32s (st (xs ++ ys.take d)).list ++ u8s (zs 64) ++ [Value.int .u64 ((xs.length : Int) + n)]) := HB.out.to (by rw [List.append_assoc])
        have hx3 : Byt wr ok A' (ys.drop d) := HXX.out.grown hg (fun b hb => ⟨(hok b hb).1, fun e => (hok b hb).2 (Option.some.inj e)⟩)
        have HB3 := Lib.hid hb3
        have HX3 := Lib.hid hx3
        clear hb3 hx3
        go_wp2_with (refine wpList_copy_blk rfl _ _ rfl p 8 64 64 (n - d) c' A' (ys.drop d) (zs 64) rfl rfl hyl (zs_length 64) 126 (u32s (st (xs ++ ys.take d)).list) [Value.int .u64 ((xs.length : Int) + n)] HB3.out rfl ok HX3.out (n - d) (by rw [hyl, zs_length]; exact Nat.min_eq_left (by omega)) ?_)
        intro w3 hb3 hg3 hz3
        go_wp2
        go_end0
        have h1 := HD.out
        have h2 := HN.out
        obtain ⟨e1, e2⟩ := st_end xs ys d hd h1 (by omega)
        refine ⟨rfl, ?_, World.grownBy.trans hg hg3⟩
        refine hb3.to ?_
        rw [hcells, e1, e2, lay_le _ _ (by rw [zs_length]; omega), zs_drop, hyl, List.length_append, h2]
        rfl
      · have hge : 64 ≤ n - d := by omega
        first
          | (exfalso; omega)
          | (
            clear hlt
            obtain ⟨ad, rfl, _, _⟩ := HXX.out.some_ (by rw [List.length_drop, HN.out]; omega)
            have hc64 : 64 ≤ c' := by omega
            have hc64' : (64 : Int) ≤ (c' : Int) := by omega
            go_wp2_with (fail)
            refine wp_region_still_tail 5 (by kernel_rfl) (by kernel_rfl) ?_
            change wpStill _ _ wr.drew (fun a' => wpList _ _ _ _ a' wr.drew) _ _
            obtain ⟨w2, hw2⟩ : ∃ w2, w2 = wr.drew := ⟨_, rfl⟩
            rw [← hw2]
            have hg2 : w.grownBy w2 (some p) := grown_drew (n := 0) hg hw2
            have hb2 := HB.out.keep (w' := w2) (by rw [hw2]; rfl)
            have HG2 := Lib.hid hg2
            have HB2 := Lib.hid hb2
            clear hw2 hg2 hb2 HB
            simp only [List.take_succ_cons, List.take_zero, List.drop_succ_cons, List.drop_zero]
            repeat still_step
            refine wpStill_nil ?_
            have hx19 := (HXX.out.grown HG2.out (fun b hb => ⟨(hok b hb).1, fun e => (hok b hb).2 (Option.some.inj e)⟩)).take 64
            have ho19 : ∀ b, ok b → b < w2.heap.size := fun b hb => Nat.lt_of_lt_of_le (hok b hb).1 HG2.out.size
            have hl19 : ((ys.drop d).take 64).length = 64 := by rw [List.length_take, List.length_drop, HN.out]; omega
            have hk19 : ∀ i, i < 80 → w2.cell? ⟨1, i, none⟩ = some (.int .u64 (cuN.getD i 0 : Nat)) := fun i hi => HG2.out.cell (HK.out i hi) (by simp; omega)
            have H19 := Lib.hid hx19
            have K19 := Lib.hid hk19
            clear hx19 hk19
            by_cases hcc : c' = 64
            · subst hcc
              go_wp2_with (go_at_call 66; refine (take_any HB2.out H19.out ho19 hl19 hc64 K19.out).mono ?_; rintro _ w3 ⟨rfl, hb3, hg3⟩)
              have hi := put_next HN.out hge hd HG2.out hg3 hb3
              go_roundw
              case rel =>
                have h := put_rel (A' := some ad) HXX.out HN.out hge hc' hcm' hi (fun e => absurd rfl e)
                rw [show n - d - 64 = 0 by omega] at h
                exact h
              case measure => simp [lenV]; omega
            · go_wp2_with (go_at_call 66; refine (take_any HB2.out H19.out ho19 hl19 hc64 K19.out).mono ?_; rintro _ w3 ⟨rfl, hb3, hg3⟩)
              have hi := put_next HN.out hge hd HG2.out hg3 hb3
              go_roundw
              case rel => exact put_rel HXX.out HN.out hge hc' hcm' hi (fun _ => rfl)
              case measure => simp [lenV]; omega)
open Go.RowKit
theorem put_any {w : World} {p c n : Nat} {ok : Nat → Prop} {A : Option Addr} {xs ys : List UInt8} (hp : 1 < p) (hh : HashAt w p xs) (hx : Byt w ok A ys) (hok : ∀ b, ok b → b < w.heap.size ∧ b ≠ p) (hn : ys.length = n) (hc : n ≤ c) (hcm : c ≤ maxLen) (hs : xs.length + n < 2305843009213693952)
    (hK : ∀ i, i < 80 → w.cell? ⟨1, i, none⟩ = some (.int .u64 (cuN.getD i 0 : Nat))) :
    Calls Tryd.prog 63 #[.pointer (some ⟨p, 0, none⟩), .slice A n c] w fun e w' => e = .returned (.tuple #[]) ∧ HashAt w' p (xs ++ ys) ∧ w.grownBy w' (some p) := by
  by_cases h0 : xs.length % 64 = 0
  · exact put_zero hp hh hx hok hn hc hcm hs h0 hK
  by_cases h1 : xs.length % 64 + n < 64
  · exact put_short hh hx hok hn hs rfl (by omega) h1
  · exact put_long hp hh hx hok hn hc hcm hs rfl (by omega) (by omega) hK
theorem run_alloc24 (w : World) : (Instr.alloc 22 true (.tuple #[])).run Tryd.prog w = .ok (.pointer (some ⟨w.heap.size, 0, none⟩)) (w.alloc (.cells (u8s (zs 32)).toArray 22)) := by kernel_rfl
section
variable {w : World} {ops : Array Oper} {rest : List Oper} {o : Oper} {a : Act} {Q : Exit → Act → World → Prop}
theorem wpList_alloc24 (hgd : o.guard = none) (ho : o.op = .alloc 22)
    (h : ∀ w', Blk w' w.heap.size 22 (u8s (zs 32)) → w.grownBy w' none → w'.heap.size = w.heap.size + 1 → wpList Tryd.prog ops Q rest (a.put o.dst (.pointer (some ⟨w.heap.size, 0, none⟩))) w') : wpList Tryd.prog ops Q (o :: rest) a w := by
  refine wpList_plain hgd fun K hK => ?_
  have hrun := run_alloc24 w
  generalize u8s (zs 32) = z at hrun h
  unfold Oper.wp
  simp only [execOp, ho, Sem.run_bind, hrun, Result.andThen_ok, Sem.run_pure]
  exact hK _ _ (h _ (Blk.of_alloc w _ 22) (World.grownBy_alloc w _ none) (World.size_alloc w _))
end
theorem size38 : (Tryd.prog.info? 124).map (·.size) = some 8 := by kernel_rfl
theorem size24 : (Tryd.prog.info? 22).map (·.size) = some 32 := by kernel_rfl
theorem Blk.range {w : World} {g : Nat} {ty : TypeId} {pre mid post : List Value} (h : Blk w g ty (pre ++ mid ++ post)) {o : Nat} (ho : pre.length = o) : w.rangeAt g o mid := fun j v hv => by
  have hj : j < mid.length := (List.getElem?_eq_some_iff.1 hv).1
  subst ho
  refine h.get _ _ ?_
  rw [List.append_assoc, List.getElem?_append_right (by omega), Nat.add_sub_cancel_left, List.getElem?_append_left hj]
  exact hv
theorem wide (v : UInt32) : IntKind.u64.wrap (v.toNat : Int) = (v.toNat : Int) := by
  have := lt32 v
  rw [IntKind.wrap_u64]; omega
theorem outs_step (l : List UInt32) (k : Nat) (h : k < l.length) : outs (l.take (k + 1)) = outs (l.take k) ++ be 4 (l.getD k 0).toNat := by
  rw [outs, List.take_succ_eq_append_getElem h, List.flatMap_append, List.getD_eq_getElem?_getD, List.getElem?_eq_getElem h]
  simp only [outs, List.flatMap_cons, List.flatMap_nil, List.append_nil, Option.getD_some]
/-- While the last blocks are taken. -/
def SumAt (w : World) (S : St) (L : List UInt8) (s : Nat) (b : Value) (wr : World) : Prop :=
  ∃ j A', b = .slice A' (s - 64 * j) (s - 64 * j) ∧ 64 * j ≤ s ∧ Byt wr (fun b => b = w.heap.size + 2) A' (L.drop (64 * j)) ∧ Blk wr (w.heap.size + 1) 124 (u32s (runs j S L).list) ∧ Blk wr w.heap.size 22 (u8s (zs 32)) ∧ w.grownBy wr none ∧ w.heap.size + 2 < wr.heap.size
set_option maxRecDepth 100000 in
set_option maxHeartbeats 1600000 in
theorem sum_any {w : World} {p : Nat} {xs : List UInt8} (hh : HashAt w p xs) (hs : xs.length < 2305843009213693952)
    (hK : ∀ i, i < 80 → w.cell? ⟨1, i, none⟩ = some (.int .u64 (cuN.getD i 0 : Nat))) :
    Calls Tryd.prog 64 #[.pointer (some ⟨p, 0, none⟩)] w fun e w' => e = .returned (.agg (u8s (sha256 xs)).toArray) ∧ w.grownBy w' none := by
  obtain ⟨n, hn⟩ : ∃ n, n = xs.length := ⟨_, rfl⟩
  have hrl : (rst xs).length = n % 64 := by rw [rst_length, hn]
  have hb : Blk w p 126 (u32s (st xs).list ++ (u8s (rst xs ++ zs (64 - n % 64)) ++ [Value.int .u64 (n : Nat)])) := by
    unfold HashAt hcells at hh
    rw [hrl, ← hn] at hh
    exact hh
  have h72 : ((u32s (st xs).list ++ u8s (rst xs ++ zs (64 - n % 64))).length) = 72 := by
    rw [List.length_append, u32s_length, u8s_length, list_length, List.length_append, hrl, zs_length]; omega
  have hc72 := hb.get 72 (.int .u64 (n : Nat)) (by rw [← List.append_assoc, List.getElem?_append_right (by omega), h72]; rfl)
  have hwr : w.rangeAt p 0 (u32s (st xs).list) := Blk.range (pre := []) hb rfl
  have hrs : Byt w (fun b => b = p) (some ⟨p, 8, none⟩) (rst xs) := (hb.to (by rw [u8s_append]; simp only [List.append_assoc])).byt (pre := u32s (st xs).list) (post := u8s (zs (64 - n % 64)) ++ [Value.int .u64 (n : Nat)]) (by rw [u32s_length]; rfl)
  have hpl := hb.lt
  have HB := Lib.hid hb
  have HW := Lib.hid hwr
  have HR := Lib.hid hrs
  have HRL := Lib.hid hrl
  have HN := Lib.hid hn
  have HK := Lib.hid hK
  have HH := Lib.hid hh
  rw [← hn] at hs
  clear hb hwr hrs hrl hn hK hh h72
  go_enter Tryd.func64, Tryd.ntmps64
  go_wp2_with (refine wpList_alloc24 rfl rfl ?_)
  intro w1 hb1 hg1 hz1
  have hw1 : w1.rangeAt p 0 (u32s (st xs).list) := fun j v hv => hg1.cell (HW.out j v hv) (by simp)
  have hc1 := hg1.cell hc72 (by simp)
  have HB1 := Lib.hid hb1
  have HW1 := Lib.hid hw1
  have HC72 := Lib.hid hc72
  clear hb1 hw1 hc72
  go_wp2_with (fail)
  obtain ⟨S, hS⟩ : ∃ S, S = st xs := ⟨_, rfl⟩
  have hwr2 : w1.rangeAt p 0 (u32s S.list) := by rw [hS]; exact HW1.out
  have c0 : w1.cell? ⟨p, 0, none⟩ = _ := hwr2 0 (.int .u32 S.a.toNat) rfl
  have c1 : w1.cell? ⟨p, 1, none⟩ = _ := hwr2 1 (.int .u32 S.b.toNat) rfl
  have c2 : w1.cell? ⟨p, 2, none⟩ = _ := hwr2 2 (.int .u32 S.c.toNat) rfl
  have c3 : w1.cell? ⟨p, 3, none⟩ = _ := hwr2 3 (.int .u32 S.d.toNat) rfl
  have c4 : w1.cell? ⟨p, 4, none⟩ = _ := hwr2 4 (.int .u32 S.e.toNat) rfl
  have c5 : w1.cell? ⟨p, 5, none⟩ = _ := hwr2 5 (.int .u32 S.f.toNat) rfl
  have c6 : w1.cell? ⟨p, 6, none⟩ = _ := hwr2 6 (.int .u32 S.g.toNat) rfl
  have c7 : w1.cell? ⟨p, 7, none⟩ = _ := hwr2 7 (.int .u32 S.h.toNat) rfl
  obtain ⟨r, hr⟩ : ∃ r, r = n % 64 := ⟨_, rfl⟩
  have htm : (n : Int).tmod 64 = (r : Int) := by rw [hr]; rfl
  have htm2 : (n : Int) % 64 = (r : Int) := by rw [hr]; rfl
  have hm0 : (0 : Int) ≤ (r : Int) := by omega
  have hm1 : (r : Int) ≤ 64 := by omega
  have HRR := Lib.hid hr
  have HS := Lib.hid hS
  clear hr hwr2 hS
  go_region
  clear c0 c1 c2 c3 c4 c5 c6 c7
  obtain ⟨w2, hw2⟩ : ∃ w2, w2 = (w1.alloc (.cells (u32s S.list).toArray 124)).drew := ⟨_, rfl⟩
  have hg2 : w.grownBy w2 none := by rw [hw2]; exact grown_drew (n := 0) (World.grownBy.trans hg1 (World.grownBy_alloc w1 (.cells (u32s S.list).toArray 124) none)) rfl
  have hbw : Blk w2 (w.heap.size + 1) 124 (u32s S.list) := by rw [hw2, ← hz1]; exact (Blk.of_alloc w1 (u32s S.list).toArray 124).keep rfl
  have hb2 : Blk w2 w.heap.size 22 (u8s (zs 32)) := by rw [hw2]; exact (HB1.out.grown (World.grownBy_alloc w1 (.cells (u32s S.list).toArray 124) none) (by simp)).keep rfl
  have hz2 : w2.heap.size = w.heap.size + 2 := by rw [hw2]; exact (World.size_alloc w1 _).trans (by rw [hz1])
  rw [show (w1.alloc (.cells #[.int .u32 (S.a.toNat : Int), .int .u32 (S.b.toNat : Int), .int .u32 (S.c.toNat : Int), .int .u32 (S.d.toNat : Int), .int .u32 (S.e.toNat : Int), .int .u32 (S.f.toNat : Int), .int .u32 (S.g.toNat : Int), .int .u32 (S.h.toNat : Int)] 124)).drew = w2 from hw2.symm]
  have hc2 : w2.cell? ⟨p, 72, none⟩ = some (.int .u64 (n : Nat)) := hg2.cell HC72.out (by simp)
  obtain ⟨L, hL⟩ : ∃ L, L = fill (rst xs) n := ⟨_, rfl⟩
  obtain ⟨s, hsl⟩ : ∃ s, s = L.length := ⟨_, rfl⟩
  have hx20 := HR.out.grown hg2 (fun b hb => ⟨by rw [hb]; exact hpl, by simp⟩)
  have ho20 : ∀ b, b = p → b < w2.heap.size := fun b hb => by rw [hb, hz2]; omega
  have hr20 : (rst xs).length = r := by rw [HRL.out, HRR.out]
  have hs20 : (fill (rst xs) n).length = s := by rw [hsl, hL]
  have hsm : s = (r + 72) / 64 * 64 := by rw [← hs20, fill_length _ _ HRL.out, ← HRR.out]
  have HG2 := Lib.hid hg2
  have HBW := Lib.hid hbw
  have HB2 := Lib.hid hb2
  have HX20 := Lib.hid hx20
  have HR20 := Lib.hid hr20
  have HS20 := Lib.hid hs20
  have HSL := Lib.hid hsl
  have HL := Lib.hid hL
  have HSM := Lib.hid hsm
  clear hw2 hg2 hbw hb2 hx20 hr20 hs20 hsl hL hsm HB1 HW1 hc1 hg1 hz1 htm htm2 hm0 hm1
  go_wp2_with (go_at_call 67; refine (filled_any HX20.out ho20 HR20.out HRR.out hs HS20.out).mono ?_; rintro _ w3 ⟨rfl, hb3, hg3⟩)
  have hb4 : Blk w3 (w.heap.size + 2) 5 (u8s L) := by rw [← hz2, HL.out]; exact hb3
  have hg4 : w.grownBy w3 none := World.grownBy.trans HG2.out hg3
  have hbw4 := HBW.out.grown hg3 (by simp)
  have hb24 := HB2.out.grown hg3 (by simp)
  have hx4 : Byt w3 (fun b => b = w.heap.size + 2) (some ⟨w.heap.size + 2, 0, none⟩) L := (hb4.to (by rw [List.append_nil]; rfl)).byt (pre := []) (post := []) rfl
  have HX4 := Lib.hid hx4
  have hlt4 := hb4.lt
  clear hb3 hb4 hx4 HB HW HR HX20 HBW HB2
  obtain ⟨G, hG⟩ : ∃ G, G = w.heap.size := ⟨_, rfl⟩
  go_loopw [5] (fun b wr => SumAt w S L s b wr) (fun b _ => lenV b)
  case atStart => exact ⟨0, _, by simp, by omega, HX4.out, hbw4, hb24, hg4, hlt4⟩
  case round =>
    clear hbw4 hb24 hg4 hg3 HX4 hc2 hz2 ho20 hlt4
    obtain ⟨j, A', rfl, hj, hx, hbw, hb24, hg, hlt4⟩ := hrel
    have HX := Lib.hid hx
    have HW := Lib.hid hbw
    have HB := Lib.hid hb24
    clear hx hbw hb24
    by_cases hlt : 0 < s - 64 * j
    · have h64 : 64 ≤ s - 64 * j := by have := HSM.out; omega
      have hxl : (L.drop (64 * j)).length = s - 64 * j := by rw [List.length_drop, ← HSL.out]
      obtain ⟨ad, rfl, hadb, -⟩ := HX.out.some_ (by omega)
      have HAD := Lib.hid hadb
      clear hadb
      have hl19 : ((L.drop (64 * j)).take 64).length = 64 := by rw [List.length_take, hxl]; omega
      have hp4 : ∀ b, b = w.heap.size + 2 → b < wr.heap.size := fun b hb => by omega
      have hk4 : ∀ i, i < 80 → wr.cell? ⟨1, i, none⟩ = some (.int .u64 (cuN.getD i 0 : Nat)) := fun i hi => hg.cell (HK.out i hi) (by simp)
      have K4 := Lib.hid hk4
      clear hk4
      have hnext : ∀ w5, Blk w5 (w.heap.size + 1) 124 (u32s (comp (runs j S L) ((L.drop (64 * j)).take 64)).list ++ []) → wr.grownBy w5 (some (w.heap.size + 1)) → ∀ A2, (s - 64 * j ≠ 64 → A2 = some (ad.add 64)) → SumAt w S L s (.slice A2 (s - 64 * j - 64) (s - 64 * j - 64)) w5 := by
        intro w5 hb6 hg6 A2 hA
        have hg7 : w.grownBy w5 none := World.grownBy.andThen hg hg6 (by rintro _ ⟨⟩; exact .inl (by omega))
        refine ⟨j + 1, A2, by rw [Nat.sub_sub, Nat.mul_succ], by omega, ?_, ?_, HB.out.grown hg6 (by simp), hg7, Nat.lt_of_lt_of_le hlt4 hg6.size⟩
        · by_cases e : s - 64 * j = 64
          · rw [List.drop_eq_nil_of_le (by rw [← HSL.out]; omega)]; exact Byt.nil
          · rw [hA e, Nat.mul_succ, ← List.drop_drop]
            have := (HX.out.grown hg6 (fun b hb => ⟨by omega, by rw [hb]; simp⟩)).drop (k := 64) (c := s - 64 * j) (by rw [hxl]; exact h64) (by rw [hxl]; exact Nat.le_refl _)
            rw [if_neg e] at this
            exact this
        · rw [List.append_nil] at hb6
          rw [runs_add j 1 S L]
          exact hb6
      have HNX := Lib.hid hnext
      clear hnext
      by_cases hcc : s - 64 * j = 64
      · go_wp2_with (go_at_call 66; rw [hcc] at h64; refine (take_any (post := []) (HW.out.to (by rw [List.append_nil])) (HX.out.take 64) hp4 hl19 h64 K4.out).mono ?_; rintro _ w5 ⟨rfl, hb6, hg6⟩)
        go_roundw
        case rel =>
          have h := HNX.out w5 hb6 hg6 (some ad) (fun e => absurd hcc e)
          rw [hcc] at h
          exact h
        case measure => simp [lenV]; omega
      · go_wp2_with (go_at_call 66; refine (take_any (post := []) (HW.out.to (by rw [List.append_nil])) (HX.out.take 64) hp4 hl19 h64 K4.out).mono ?_; rintro _ w5 ⟨rfl, hb6, hg6⟩)
        go_roundw
        case rel => exact HNX.out w5 hb6 hg6 _ (fun _ => rfl)
        case measure => simp [lenV]; omega
    · have hj2 : j = s / 64 := by omega
      obtain ⟨F, hF⟩ : ∃ F, F = runs j S L := ⟨_, rfl⟩
      have hwF : wr.rangeAt (w.heap.size + 1) 0 (u32s F.list) := Blk.range (pre := []) (post := []) (HW.out.to (by rw [List.append_nil, hF]; rfl)) rfl
      have hFin : F = fin xs := by rw [hF, hj2, fin, ← HN.out, ← HL.out, ← HSL.out, HS.out]
      have HF := Lib.hid hFin
      have HWF := Lib.hid hwF
      clear hF hwF hFin hj2
      go_wp2_with (refine wpList_load_mid rfl 124 _ rfl (w.heap.size + 1) 0 rfl (u32s F.list) _ HWF.out Tryd.underlying124 rfl (by rw [size38]; rfl) ?_)
      have hix8 : ∀ k : Nat, k < 8 → ∀ W, (Instr.index 124 (.agg (u32s F.list).toArray) (.int .i64 (k : Int))).run Tryd.prog W = .ok (.int .u32 ((F.list.getD k 0).toNat : Int)) W := fun k hk W => run_index8 F k hk W
      obtain ⟨fl, hfl⟩ : ∃ fl, fl = u32s F.list := ⟨_, rfl⟩
      rw [← hfl] at hix8 ⊢
      have HIX := Lib.hid hix8
      clear hfl hix8
      go_loopw [36] (fun i wr => ∃ k : Nat, k ≤ 8 ∧ i = .int .i64 k ∧ Blk wr w.heap.size 22 (u8s (outs (F.list.take k)) ++ u8s (zs (32 - 4 * k))) ∧ w.grownBy wr none) (fun i _ => 8 - (intOf i).toNat)
      case atStart => exact ⟨0, Nat.zero_le _, rfl, HB.out, hg⟩
      case round =>
        clear HX HW HWF HB hg hlt4
        obtain ⟨k, hk, rfl, hb, hg⟩ := hrel
        by_cases hlt8 : k < 8
        · have hix := HIX.out k hlt8
          have hol : (u8s (outs (F.list.take k))).length = 4 * k := by rw [u8s_length, outs_length, List.length_take, list_length, Nat.min_eq_left hk]
          have hz : u8s (zs (32 - 4 * k)) = u8s (zs 4) ++ u8s (zs (28 - 4 * k)) := by
            rw [← u8s_append]
            simp only [zs]
            rw [List.replicate_append_replicate, show 4 + (28 - 4 * k) = 32 - 4 * k by omega]
          have hb2 : Blk wr w.heap.size 22 (u8s (outs (F.list.take k)) ++ u8s (zs 4) ++ u8s (zs (28 - 4 * k))) := hb.to (by rw [hz, List.append_assoc])
          have f1 : (0 : Int) ≤ 4 * (k : Int) := by omega
          have f2 : 4 * (k : Int) ≤ 4 * (k : Int) + 4 := by omega
          have f3 : 4 * (k : Int) + 4 ≤ 32 := by omega
          have HB := Lib.hid hb2
          have HO := Lib.hid hol
          clear hb hb2 hol hz
          obtain ⟨v, hv⟩ : ∃ v, v = F.list.getD k 0 := ⟨_, rfl⟩
          rw [← hv] at hix
          have HV := Lib.hid hv
          have hwv := wide v
          clear hv
          go_wp2_with (go_at_call 68; refine (write_n (n := v.toNat) HB.out HO.out (zs_length 4) (by omega) (by first | rfl | exact hwv)).mono ?_; rintro _ w6 ⟨rfl, hb6, hg6, hz6⟩)
          go_roundw
          case rel =>
            refine ⟨k + 1, by omega, by go_num, ?_, World.grownBy.andThen hg hg6 (by rintro _ ⟨⟩; exact .inl (Nat.le_refl _))⟩
            rw [outs_step _ _ (by rw [list_length]; exact hlt8), u8s_append, ← HV.out, show 32 - 4 * (k + 1) = 28 - 4 * k by omega]
            exact hb6
          case measure => simp [intOf]; omega
        · have ek : k = 8 := by omega
          rw [ek, List.take_of_length_le (by rw [list_length]; exact Nat.le_refl _), HF.out] at hb
          have hb2 : Blk wr w.heap.size 22 (u8s (sha256 xs)) := hb.to (by rw [sha256]; simp [zs, u8s])
          have hrg : wr.rangeAt w.heap.size 0 (u8s (sha256 xs)) := Blk.range (pre := []) (post := []) (hb2.to (by rw [List.append_nil]; rfl)) rfl
          have HB := Lib.hid hb2
          have HRG := Lib.hid hrg
          clear hb hb2 hrg
          go_wp2_with (first | (refine wpList_load_mid rfl 22 _ rfl w.heap.size 0 rfl (u8s (sha256 xs)) _ HRG.out Tryd.underlying22 rfl (by rw [size24, u8s_length, sha256_length]) ?_) | (refine wpList_store_row rfl 22 _ _ rfl w.heap.size (u8s (sha256 xs)).toArray rfl rfl 22 _ HB.out (by rw [size24, List.size_toArray, u8s_length, sha256_length]) (by rfl) (all_oneCell_toArray (u8s_one _)) ?_))
          refine bodyPost_ret (results_cell_row rfl _ _ w.heap.size 22 (u8s (sha256 xs)).toArray (0, 0) _ rfl (setRow_heap wr w.heap.size _ _ 22 (0, 0) HB.out) Tryd.underlying22 rfl (by rw [size24, List.size_toArray, u8s_length, sha256_length])) rfl ⟨rfl, World.grownBy.andThen hg (grown_setRow _ _ _) (by rintro _ ⟨⟩; exact .inl (Nat.le_refl _))⟩
set_option maxRecDepth 100000 in
set_option maxHeartbeats 1600000 in
theorem sum256_any {w : World} {c n : Nat} {ok : Nat → Prop} {A : Option Addr} {xs : List UInt8} (hx : Byt w ok A xs) (hok : ∀ b, ok b → b < w.heap.size) (hn : xs.length = n) (hc : n ≤ c) (hcm : c ≤ maxLen) (hm : n < 2305843009213693952)
    (hS : ∀ i, i < 8 → w.cell? ⟨0, i, none⟩ = some (.int .u64 (sqN.getD i 0 : Nat))) (hK : ∀ i, i < 80 → w.cell? ⟨1, i, none⟩ = some (.int .u64 (cuN.getD i 0 : Nat))) :
    Calls Tryd.prog 55 #[.slice A n c] w fun e w' => e = .returned (.agg (u8s (sha256 xs)).toArray) ∧ w.grownBy w' none := by
  have hw1 : 1 < w.heap.size := by
    have := hK 0 (by omega)
    rcases Nat.lt_or_ge 1 w.heap.size with h | h
    · exact h
    · simp [World.cell?, Array.getElem?_eq_none h] at this
  have HS := Lib.hid hS
  have HK := Lib.hid hK
  have HN := Lib.hid hn
  clear hS hK hn
  go_enter Tryd.func55, Tryd.ntmps55
  go_wp2_with (refine wpList_alloc24 rfl rfl ?_)
  intro w1 hb1 hg1 hz1
  have s1 : ∀ i, i < 8 → w1.cell? ⟨0, i, none⟩ = some (.int .u64 (sqN.getD i 0 : Nat)) := fun i hi => hg1.cell (HS.out i hi) (by simp)
  have hx1 : ∀ w2, w1.grownBy w2 none → Byt w2 ok A xs := fun w2 hg => (hx.grown hg1 (fun b hb => ⟨hok b hb, by simp⟩)).grown hg (fun b hb => ⟨by have := hok b hb; omega, by simp⟩)
  have hk1 : ∀ w2, w1.grownBy w2 none → ∀ i, i < 80 → w2.cell? ⟨1, i, none⟩ = some (.int .u64 (cuN.getD i 0 : Nat)) := fun w2 hg i hi => hg.cell (hg1.cell (HK.out i hi) (by simp)) (by simp)
  have S1 := Lib.hid s1
  have B1 := Lib.hid hb1
  have G1 := Lib.hid hg1
  have X1 := Lib.hid hx1
  have K1 := Lib.hid hk1
  clear s1 hb1 hg1 hx1 hk1 hx
  go_wp2_with (first
    | (go_at_call 62; refine (new_any S1.out).mono ?_; rintro _ w2 ⟨rfl, hh2, hg2⟩; rw [hz1] at hh2)
    | (go_at_call 63; refine (put_any (by omega) hh2 (X1.out w2 hg2) (fun b hb => ⟨by have h1 := hok b hb; have h2 := hg2.size; omega, by have h1 := hok b hb; omega⟩) HN.out hc hcm (by simpa using hm) (K1.out w2 hg2)).mono ?_; rintro _ w3 ⟨rfl, hh3, hg3⟩)
    | (go_at_call 64; (refine (sum_any (xs := xs) (by rw [List.nil_append] at hh3; exact hh3) (by rw [HN.out]; exact hm) (fun i hi => hg3.cell (K1.out w2 hg2 i hi) (fun e => by have h1 : 1 = w.heap.size + 1 := Option.some.inj e; omega))).mono ?_; rintro _ w4 ⟨rfl, hg4⟩))
    | (refine wpList_store_row rfl 22 _ _ rfl w.heap.size (u8s (sha256 xs)).toArray rfl rfl 22 _ (((B1.out.grown hg2 (by simp)).grown hg3 (by simp)).grown hg4 (by simp)) (by rw [size24, List.size_toArray, u8s_length, sha256_length]) (by simp [u8s_length, sha256_length, zs_length]) (all_oneCell_toArray (u8s_one _)) ?_))
  have hb4 := ((B1.out.grown hg2 (by simp)).grown hg3 (by simp)).grown hg4 (by simp)
  refine bodyPost_ret (results_cell_row rfl _ _ w.heap.size 22 (u8s (sha256 xs)).toArray (0, 0) _ rfl (setRow_heap w4 w.heap.size _ _ 22 (0, 0) hb4) Tryd.underlying22 rfl (by rw [size24, List.size_toArray, u8s_length, sha256_length])) rfl ⟨rfl, ?_⟩
  have h3 : w.grownBy w3 none := World.grownBy.andThen (World.grownBy.trans G1.out hg2) hg3 (by rintro _ ⟨⟩; exact .inl (by omega))
  exact World.grownBy.andThen (World.grownBy.trans h3 hg4) (grown_setRow _ _ _) (by rintro _ ⟨⟩; exact .inl (Nat.le_refl _))
end Go.Proofs.YtdnkeaokgkiloaaDoor.S
