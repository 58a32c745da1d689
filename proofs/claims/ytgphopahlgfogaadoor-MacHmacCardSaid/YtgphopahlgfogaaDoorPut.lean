/- Bytes are put behind what was put already. Conditions: none. -/
import Derived.Test.YtgphopahlgfogaaDoorNew
namespace Go.Proofs.YtgphopahlgfogaaDoor
open Go.RowKit
theorem at_hash {xs : List UInt8} : (hcells (st xs) (rst xs ++ List.replicate (64 - (rst xs).length) 0) xs.length).length = 73 := by
  have := rst_length xs
  simp only [hcells, List.length_append, u32s_length, u8s_length, list_length, List.length_replicate, List.length_cons, List.length_nil]
  omega
/-- Behind so many bytes. -/
theorem st_next (xs ys : List UInt8) (d : Nat) (h : (xs.length + d) % 64 = 0) (hd : d + 64 ≤ ys.length) : st (xs ++ ys.take (d + 64)) = comp (st (xs ++ ys.take d)) ((ys.drop d).take 64) := by
  have e : xs ++ ys.take (d + 64) = (xs ++ ys.take d) ++ (ys.drop d).take 64 := by rw [List.append_assoc, List.take_add]
  have hl : (xs ++ ys.take d).length % 64 = 0 := by simp only [List.length_append, List.length_take]; rw [Nat.min_eq_left (by omega)]; exact h
  have hr : rst (xs ++ ys.take d) = [] := List.eq_nil_of_length_eq_zero (by rw [rst_length]; exact hl)
  rw [e, (st_block _ _ (by rw [hl]; simp; omega)).1, hr, List.nil_append]
theorem st_end (xs ys : List UInt8) (d : Nat) (h : (xs.length + d) % 64 = 0) (hd : d ≤ ys.length) (h2 : ys.length < d + 64) : st (xs ++ ys) = st (xs ++ ys.take d) ∧ rst (xs ++ ys) = ys.drop d := by
  have e : xs ++ ys = (xs ++ ys.take d) ++ ys.drop d := by rw [List.append_assoc, List.take_append_drop]
  have hl : (xs ++ ys.take d).length % 64 = 0 := by simp only [List.length_append, List.length_take]; rw [Nat.min_eq_left hd]; exact h
  have hr : rst (xs ++ ys.take d) = [] := List.eq_nil_of_length_eq_zero (by rw [rst_length]; exact hl)
  have h3 := st_short (xs ++ ys.take d) (ys.drop d) (by rw [hl]; simp; omega)
  rw [hr, List.nil_append, ← e] at h3
  exact h3
/-- While blocks are taken. -/
def PutInv (w : World) (p : Nat) (xs ys : List UInt8) (N : Int) (wr : World) (d : Nat) : Prop :=
  Blk wr p 49 (u32s (st (xs ++ ys.take d)).list ++ (u8s (zs 64) ++ [Value.int .u64 N])) ∧ w.grownBy wr (some p) ∧ (xs.length + d) % 64 = 0 ∧ d ≤ ys.length

def PutAt (w : World) (ok : Nat → Prop) (p : Nat) (xs ys : List UInt8) (N : Int) (n : Nat) (b : Value) (wr : World) : Prop :=
  ∃ d c' A', b = .slice A' (n - d) c' ∧ n - d ≤ c' ∧ c' ≤ maxLen ∧ Byt w ok A' (ys.drop d) ∧ PutInv w p xs ys N wr d
/-- How long a slice is. -/
def lenV : Value → Nat
  | .slice _ m _ => m
  | _ => 0
theorem put_next {w w2 w3 : World} {p n d : Nat} {xs ys : List UInt8} {N : Int} (hn : ys.length = n) (hge : 64 ≤ n - d) (hd : (xs.length + d) % 64 = 0) (hg2 : w.grownBy w2 (some p)) (hg3 : w2.grownBy w3 (some p))
    (hb : Blk w3 p 49 (u32s (comp (st (xs ++ ys.take d)) ((ys.drop d).take 64)).list ++ (u8s (zs 64) ++ [Value.int .u64 N]))) : PutInv w p xs ys N w3 (d + 64) := by
  refine ⟨?_, World.grownBy.trans hg2 hg3, by omega, by omega⟩
  rw [st_next xs ys d hd (by omega)]
  exact hb
theorem put_rel {w w3 : World} {ok : Nat → Prop} {p n d c' : Nat} {ad : Addr} {A' : Option Addr} {xs ys : List UInt8} {N : Int} (hx : Byt w ok (some ad) (ys.drop d)) (hn : ys.length = n) (hge : 64 ≤ n - d) (hc : n - d ≤ c') (hcm : c' ≤ maxLen)
    (hi : PutInv w p xs ys N w3 (d + 64)) (hA : c' ≠ 64 → A' = some (ad.add 64)) : PutAt w ok p xs ys N n (.slice A' (n - d - 64) (c' - 64)) w3 := by
  refine ⟨d + 64, c' - 64, A', by rw [Nat.sub_sub], by omega, by omega, ?_, hi⟩
  by_cases e : c' = 64
  · rw [List.drop_eq_nil_of_le (by omega)]; exact Byt.nil
  · rw [hA e, ← List.drop_drop]
    have := hx.drop (k := 64) (c := c') (by rw [List.length_drop]; omega) (by rw [List.length_drop]; omega)
    rw [if_neg e] at this
    exact this

set_option maxRecDepth 100000 in
set_option maxHeartbeats 1600000 in
theorem put_zero {w : World} {p c n : Nat} {ok : Nat → Prop} {A : Option Addr} {xs ys : List UInt8} (hp : 1 < p) (hh : HashAt w p xs) (hx : Byt w ok A ys) (hok : ∀ b, ok b → b < w.heap.size ∧ b ≠ p) (hn : ys.length = n) (hc : n ≤ c) (hcm : c ≤ maxLen) (hs : xs.length + n < 2305843009213693952)
    (hz : xs.length % 64 = 0) (hK : ∀ i, i < 80 → w.cell? ⟨1, i, none⟩ = some (.int .u64 (cuN.getD i 0 : Nat))) :
    Calls Tryd.prog 19 #[.pointer (some ⟨p, 0, none⟩), .slice A n c] w fun e w' => e = .returned (.tuple #[]) ∧ HashAt w' p (xs ++ ys) ∧ w.grownBy w' (some p) := by
  have hr0 : rst xs = [] := List.eq_nil_of_length_eq_zero (by rw [rst_length]; exact hz)
  have hb : Blk w p 49 (u32s (st xs).list ++ (u8s (zs 64) ++ [Value.int .u64 (xs.length : Nat)])) := by
    unfold HashAt hcells at hh
    rw [hr0] at hh
    exact hh
  have hc72 := hb.get 72 (.int .u64 (xs.length : Nat)) rfl
  have hf72 := hb.frozen 72
  have hb2 := hb.set 72 (.int .u64 ((xs.length : Int) + n))
  have hset : (u32s (st xs).list ++ (u8s (zs 64) ++ [Value.int .u64 (xs.length : Nat)])).set 72 (.int .u64 ((xs.length : Int) + n)) = u32s (st xs).list ++ (u8s (zs 64) ++ [Value.int .u64 ((xs.length : Int) + n)]) := rfl
  rw [hset] at hb2
  have HB2 := Lib.hid hb2
  have HX := Lib.hid hx
  have HH := Lib.hid hh
  have HK := Lib.hid hK
  have HN := Lib.hid hn
  have hzi : ((xs.length : Nat) : Int) % 64 = 0 := by omega
  clear hb hb2 hset hx hh hK hn
  go_enter Tryd.func19, Tryd.ntmps19
  go_wp2_with (fail)
  simp only [hzi]
  clear hzi
  go_loopw [1] (fun b wr => PutAt w ok p xs ys ((xs.length : Int) + n) n b wr) (fun b _ => lenV b)
  case atStart => exact ⟨0, c, A, by simp, by omega, hcm, by simpa using HX.out, by rw [List.take_zero, List.append_nil]; exact HB2.out, grown_set _ _ _ _, by omega, Nat.zero_le _⟩
  case round =>
    clear hc72 hf72 HB2
    obtain ⟨d, c', A', rfl, hc', hcm', hx', hb, hg, hd, hdl⟩ := hrel
    have HD := Lib.hid hdl
    have HB := Lib.hid hb
    have HXX := Lib.hid hx'
    clear hb hdl hx'
    by_cases hlt : n - d < 64
    · have hyl : (ys.drop d).length = n - d := by rw [List.length_drop, HN.out]
      have hb3 : Blk wr p 49 (u32s (st (xs ++ ys.take d)).list ++ u8s (zs 64) ++ [Value.int .u64 ((xs.length : Int) + n)]) := HB.out.to (by rw [List.append_assoc])
      have hx3 : Byt wr ok A' (ys.drop d) := HXX.out.grown hg (fun b hb => ⟨(hok b hb).1, fun e => (hok b hb).2 (Option.some.inj e)⟩)
      have HB3 := Lib.hid hb3
      have HX3 := Lib.hid hx3
      clear hb3 hx3
      go_wp2_with (refine wpList_copy_blk rfl _ _ rfl p 8 64 64 (n - d) c' A' (ys.drop d) (zs 64) rfl rfl hyl (zs_length 64) 49 (u32s (st (xs ++ ys.take d)).list) [Value.int .u64 ((xs.length : Int) + n)] HB3.out rfl ok HX3.out (n - d) (by rw [hyl, zs_length]; exact Nat.min_eq_left (by omega)) ?_)
      intro w3 hb3 hg3 hz3
      go_wp2
      go_end0
      have h1 := HD.out
      have h2 := HN.out
      obtain ⟨e1, e2⟩ := st_end xs ys d hd h1 (by omega)
      refine ⟨rfl, ?_, World.grownBy.trans hg hg3⟩
      refine hb3.to ?_
      rw [hcells, e1, e2, lay_le _ _ (by rw [zs_length]; omega), zs_drop, hyl, List.length_append, h2]
      rfl
    · have hge : 64 ≤ n - d := by omega
      clear hlt
      obtain ⟨ad, rfl, _, _⟩ := HXX.out.some_ (by rw [List.length_drop, HN.out]; omega)
      have hc64 : 64 ≤ c' := by omega
      have hc64' : (64 : Int) ≤ (c' : Int) := by omega
      go_wp2_with (fail)
      refine wp_region_still_tail 5 (by kernel_rfl) (by kernel_rfl) ?_
      change wpStill _ _ wr.drew (fun a' => wpList _ _ _ _ a' wr.drew) _ _
      obtain ⟨w2, hw2⟩ : ∃ w2, w2 = wr.drew := ⟨_, rfl⟩
      rw [← hw2]
      have hg2 : w.grownBy w2 (some p) := grown_drew (n := 0) hg hw2
      have hb2 := HB.out.keep (w' := w2) (by rw [hw2]; rfl)
      have HG2 := Lib.hid hg2
      have HB2 := Lib.hid hb2
      clear hw2 hg2 hb2 HB
      simp only [List.take_succ_cons, List.take_zero, List.drop_succ_cons, List.drop_zero]
      repeat still_step
      refine wpStill_nil ?_
      have hx19 := (HXX.out.grown HG2.out (fun b hb => ⟨(hok b hb).1, fun e => (hok b hb).2 (Option.some.inj e)⟩)).take 64
      have ho19 : ∀ b, ok b → b < w2.heap.size := fun b hb => Nat.lt_of_lt_of_le (hok b hb).1 HG2.out.size
      have hl19 : ((ys.drop d).take 64).length = 64 := by rw [List.length_take, List.length_drop, HN.out]; omega
      have hk19 : ∀ i, i < 80 → w2.cell? ⟨1, i, none⟩ = some (.int .u64 (cuN.getD i 0 : Nat)) := fun i hi => HG2.out.cell (HK.out i hi) (by simp; omega)
      have H19 := Lib.hid hx19
      have K19 := Lib.hid hk19
      clear hx19 hk19
      by_cases hcc : c' = 64
      · subst hcc
        go_wp2_with (go_at_call 23; refine (take_any HB2.out H19.out ho19 hl19 hc64 K19.out).mono ?_; rintro _ w3 ⟨rfl, hb3, hg3⟩)
        have hi := put_next HN.out hge hd HG2.out hg3 hb3
        go_roundw
        case rel =>
          have h := put_rel (A' := some ad) HXX.out HN.out hge hc' hcm' hi (fun e => absurd rfl e)
          rw [show n - d - 64 = 0 by omega] at h
          exact h
        case measure => simp [lenV]; omega
      · go_wp2_with (go_at_call 23; refine (take_any HB2.out H19.out ho19 hl19 hc64 K19.out).mono ?_; rintro _ w3 ⟨rfl, hb3, hg3⟩)
        have hi := put_next HN.out hge hd HG2.out hg3 hb3
        go_roundw
        case rel => exact put_rel HXX.out HN.out hge hc' hcm' hi (fun _ => rfl)
        case measure => simp [lenV]; omega
end Go.Proofs.YtgphopahlgfogaaDoor
