/- The reference's HKDF. Conditions: the reference's hash is as HashSays has it; texts up to 3,000 bytes, answers up to 2,000. -/
import Derived.Test.YtkbffponemihoaaGreatDoorSf
import Derived.Test.YtkbffponemihoaaGreatDoorSd
import Derived.Deep.CutRange
namespace Go.Proofs.YtkbffponemihoaaGreatDoor.S
open Go.RowKit
/-- While the blocks are made. -/
def RefAtK (B : World) (p info : List UInt8) (n : Nat) (v t i : Value) (wr : World) : Prop :=
  ∃ (k l : Nat) (A : Option Addr), i = .int .i64 ((k : Int) + 1) ∧ 32 * k < n + 32 ∧ wr.ownsRow B.heap.size 5 1 v (32 * k) (u8s (okm p info k)) ∧ t = .slice A l l ∧ (tk p info k).length = l ∧ Byt wr (fun b => b < wr.heap.size) A (tk p info k) ∧ B.grownBy wr none
set_option maxRecDepth 100000 in
set_option maxHeartbeats 3200000 in
theorem refhkdf_yes (HH : HashSays) {w : World} {c1 c2 c3 n1 n2 n3 n : Nat} {ok : Nat → Prop} {A1 A2 A3 : Option Addr} {salt from_ info : List UInt8} (hs : Byt w ok A1 salt) (hf : Byt w ok A2 from_) (hx : Byt w ok A3 info) (hok : ∀ b, ok b → b < w.heap.size)
    (hn1 : salt.length = n1) (hn2 : from_.length = n2) (hn3 : info.length = n3) (hz1 : n1 ≤ 3000) (hz2 : n2 ≤ 3000) (hz3 : n3 ≤ 3000) (hn : n ≤ 2000) :
    Calls Tryz.prog 21 #[.slice A1 n1 c1, .slice A2 n2 c2, .slice A3 n3 c3, .int .i64 (n : Int)] w fun e w' => ∃ A c, e = .returned (.tuple #[.slice A n c, .bool true]) ∧ n ≤ c ∧ c ≤ maxLen ∧ Byt w' (fun b => b < w'.heap.size) A (hkdf salt from_ info n) ∧ w.grownBy w' none := by
  have d1 : decide ((n : Int) < 0) = false := by simp
  have d2 : decide (8160 < (n : Int)) = false := by simp; omega
  have HS := Lib.hid hs
  have HF := Lib.hid hf
  have HX := Lib.hid hx
  have HN1 := Lib.hid hn1
  have HN2 := Lib.hid hn2
  have HN3 := Lib.hid hn3
  clear hs hf hx hn1 hn2 hn3
  go_enter Tryz.func21, Tryz.ntmps21
  go_upto_region 4 with (first
    | (go_at_call 23; refine (refmac_any HH HS.out HF.out hok HN1.out HN2.out (by omega) (by omega)).mono ?_; rintro _ w1 ⟨rfl, hg1⟩)
    | (refine wpList_alloc24 rfl rfl ?_; intro w2 hb2 hg2 hzz2)
    | (refine wpList_store_row rfl 22 _ _ rfl w1.heap.size (u8s (hmac salt from_)).toArray rfl rfl 22 _ hb2 (by rw [size24, List.size_toArray, u8s_length, hmac_length]) (by simp [u8s_length, hmac_length, zs_length]) (all_oneCell_toArray (u8s_one _)) ?_))
  obtain ⟨p, hp⟩ : ∃ p, p = hmac salt from_ := ⟨_, rfl⟩
  obtain ⟨gp, hgp⟩ : ∃ g, g = w1.heap.size := ⟨_, rfl⟩
  obtain ⟨w3, hw3⟩ : ∃ w', w' = w2.setRow w1.heap.size (u8s (hmac salt from_)).toArray := ⟨_, rfl⟩
  rw [← hw3, ← hp, ← hgp]
  have hlp : p.length = 32 := by rw [hp, hmac_length]
  have hb3 : Blk w3 gp 22 (u8s p) := by rw [hw3, ← hgp, ← hp]; rw [← hgp] at hb2; exact Blk.setRow hb2
  have hzg1 := hg1.size
  have hg3 : w.grownBy w3 none := by
    rw [hw3]
    exact World.grownBy.andThen (World.grownBy.trans hg1 hg2) (grown_setRow _ _ _) (by rintro _ ⟨⟩; exact .inl (by omega))
  have hx3 := HX.out.grown hg3 (fun b hb => ⟨hok b hb, by simp⟩)
  have ho3 : ∀ b, ok b → b < w3.heap.size := fun b hb => Nat.lt_of_lt_of_le (hok b hb) hg3.size
  have HP := Lib.hid hp
  have HLP := Lib.hid hlp
  have HB3 := Lib.hid hb3
  have HG3 := Lib.hid hg3
  have HX3 := Lib.hid hx3
  have HO3 := Lib.hid ho3
  obtain ⟨i0, hi, hz0, hzz1, hzz3⟩ := info_parts Tryz.info5
  clear hp hgp hw3 hlp hb2 hb3 hzg1 hg1 hg2 hzz2 hg3 hx3 ho3
  have hst : RefAtK w3 p info n (.slice none 0 0) (.slice none 0 0) (.int .i64 1) w3 := ⟨0, 0, none, rfl, by omega, World.ownsRow_nil _ _ _ _, rfl, rfl, Byt.nil, World.grownBy.refl _ _⟩
  have HST := Lib.hid hst
  clear hst
  go_wp2_with (fail)
  go_loopw [11, 12, 13] (fun v t i wr => RefAtK w3 p info n v t i wr) (fun _ _ i _ => n + 64 - 32 * (intOf i).toNat)
  case atStart => exact HST.out
  case round =>
    obtain ⟨k, l, A, rfl, hkn, hown, rfl, htl, hby, hgr⟩ := hrel
    obtain ⟨a, ha⟩ : ∃ a, a = 32 * k := ⟨_, rfl⟩
    rw [← ha] at hown
    obtain ⟨Ao, co, hvo, -, hol, hoc, hob⟩ := own_form hown
    rw [okm_length, ← ha] at hvo hol
    subst hvo
    by_cases hlt : a < n
    · have hk : k < 255 := by omega
      have hl32 : l ≤ 32 := by
        rw [← htl]
        cases k with
        | zero => exact Nat.zero_le _
        | succ k => rw [tk_length]; exact Nat.le_refl _
      obtain ⟨x, hxe⟩ : ∃ x, x = UInt8.ofNat (k + 1) := ⟨_, rfl⟩
      have hxz : (k : Int) + 1 = (x.toNat : Int) := by rw [hxe, byte_nat k hk]
      have HXZ := Lib.hid hxz
      have HXE := Lib.hid hxe
      have HTL := Lib.hid htl
      have HBY := Lib.hid hby
      have HGR := Lib.hid hgr
      have HOW := Lib.hid hown
      have HA := Lib.hid ha
      clear hxz hxe htl hby hgr hown hob ha HST hol
      go_wp2_with (at_builtin; refine wpList_append_byt_n _ rfl _ _ 23 rfl wr.heap.size i0 (.int .u8 0) Tryz.underlying23 hi hz0 hzz1 hzz3 rfl (.slice none 0 0) 0 [] rfl (World.ownsRow_nil _ _ _ _) (fun b => b < wr.heap.size) A l l (tk p info k) HTL.out rfl HBY.out ?c1 (Nat.le_refl _) ?_)
      case c1 => omega
      intro v1 w4 ho4 hg4 _
      have ho4' : w4.ownsRow wr.heap.size 5 1 v1 l (u8s (tk p info k)) := by simpa using ho4
      have hg4' : wr.grownBy w4 none := hg4
      have hx4 : Byt w4 ok A3 info := (HX3.out.grown HGR.out (fun b hb => ⟨HO3.out b hb, by simp⟩)).grown hg4' (fun b hb => ⟨Nat.lt_of_lt_of_le (HO3.out b hb) HGR.out.size, by simp⟩)
      have HO4 := Lib.hid ho4'
      have HG4 := Lib.hid hg4'
      have HX4 := Lib.hid hx4
      clear ho4 ho4' hg4 hg4' hx4
      go_wp2_with (at_builtin; refine wpList_append_byt_n _ rfl _ _ 23 rfl wr.heap.size i0 (.int .u8 0) Tryz.underlying23 hi hz0 hzz1 hzz3 rfl v1 l (tk p info k) rfl HO4.out ok A3 c3 n3 info HN3.out rfl HX4.out ?c2 HG4.out.size ?_)
      case c2 => omega
      intro v2 w5 ho5 hg5 _
      have hg5' : wr.grownBy w5 none := own_grown HO4.out HG4.out hg5
      have HO5 := Lib.hid ho5
      have HG5 := Lib.hid hg5'
      clear ho5 hg5 hg5'
      go_wp2_with (at_builtin; refine wpList_push rfl _ _ rfl v2 (l + n3) (tk p info k ++ info) rfl HO5.out HG5.out x ((k : Int) + 1) HXZ.out rfl (by omega) ?_)
      intro v3 w6 ho6 hg6
      obtain ⟨A6, c6, hv6, -, -, -, hx6⟩ := own_form ho6
      have hl6 : (tk p info k ++ (info ++ [x])).length = l + n3 + 1 := by simp [HTL.out, HN3.out]; omega
      rw [hl6] at hv6
      subst hv6
      obtain ⟨text, htext⟩ : ∃ t, t = tk p info k ++ (info ++ [x]) := ⟨_, rfl⟩
      obtain ⟨y, hy⟩ : ∃ y, y = hmac p text := ⟨_, rfl⟩
      have hyk : y = tk p info (k + 1) := by rw [hy, htext, HXE.out, ← List.append_assoc]; rfl
      have hly : y.length = 32 := by rw [hy, hmac_length]
      have hx6' : Byt w6 (fun b => b < w6.heap.size) A6 text := by rw [htext]; exact hx6.imp fun b hb => hb.2.2
      have hg36 := World.grownBy.trans HGR.out hg6
      have hp6 : Byt w6 (fun b => b < w6.heap.size) (some ⟨gp, 0, none⟩) p := (HB3.out.grown hg36 (by simp)).bytes
      have hlt6 : text.length = l + n3 + 1 := by rw [htext]; exact hl6
      have r9 : Calls Tryz.prog 23 #[.slice (some ⟨gp, 0, none⟩) 32 32, .slice A6 (l + n3 + 1) c6] w6 fun e w' => e = .returned (.agg (u8s y).toArray) ∧ w6.grownBy w' none := by
        rw [hy]
        exact refmac_any HH hp6 hx6' (fun b hb => hb) HLP.out hlt6 (by omega) (by omega)
      have R9 := Lib.hid r9
      have HG6 := Lib.hid hg6
      have HYK := Lib.hid hyk
      have HLY := Lib.hid hly
      clear ho6 hg6 hx6 hl6 htext hy hyk hly hx6' hg36 hp6 hlt6 r9
      go_upto_region 13 with (first
        | (go_at_call 23; with_reducible refine R9.out.mono ?_; rintro _ w7 ⟨rfl, hg7⟩)
        | (refine wpList_alloc24 rfl rfl ?_; intro w8 hb8 hg8 hz8)
        | (refine wpList_store_row rfl 22 _ _ rfl w7.heap.size (u8s y).toArray rfl rfl 22 _ hb8 (by rw [size24, List.size_toArray, u8s_length, HLY.out]) (by simp [u8s_length, HLY.out, zs_length]) (all_oneCell_toArray (u8s_one _)) ?_))
      obtain ⟨gx, hgx⟩ : ∃ g, g = w7.heap.size := ⟨_, rfl⟩
      obtain ⟨w9, hw9⟩ : ∃ w', w' = w8.setRow w7.heap.size (u8s y).toArray := ⟨_, rfl⟩
      rw [← hw9, ← hgx]
      rw [← hgx] at hb8 hw9
      have hb9 : Blk w9 gx 22 (u8s y) := by rw [hw9]; exact Blk.setRow hb8
      have hz7 := hg7.size
      have hz6 := HG6.out.size
      have hg69 : w6.grownBy w9 none := World.grownBy.andThen (World.grownBy.trans hg7 hg8) (by rw [hw9]; exact grown_setRow _ gx _) (by rintro _ ⟨⟩; exact .inl (by omega))
      have hg9 : wr.grownBy w9 none := World.grownBy.trans HG6.out hg69
      have hg39 : w3.grownBy w9 none := World.grownBy.trans HGR.out hg9
      have ho9 := own_keep HOW.out hg9
      have hgxb : (Value.slice Ao a co).ownBlock ≠ some gx := fun e => by have h1 := (HOW.out.lt _ e).2; omega
      have hx9 : Byt w9 (fun b => b = gx) (some ⟨gx, 0, none⟩) y := (hb9.to (by rw [List.append_nil]; rfl)).byt (pre := []) (post := []) rfl
      have HX9 := Lib.hid hx9
      have HB9 := Lib.hid hb9
      have HO9 := Lib.hid ho9
      have HG9 := Lib.hid hg39
      have HGB := Lib.hid hgxb
      clear hgx hw9 hb8 hz8 hz7 hz6 hg7 hg8 hg69 hb9 hg9 hg39 ho9 hgxb hx9
      go_wp2_with (at_builtin; (refine wpList_append_byt_n _ rfl _ _ 23 rfl w3.heap.size i0 (.int .u8 0) Tryz.underlying23 hi hz0 hzz1 hzz3 rfl (.slice Ao a co) a (okm p info k) rfl HO9.out (fun b => b = gx) (some ⟨gx, 0, none⟩) 32 32 y HLY.out rfl HX9.out ?c3 HG9.out.size ?_))
      case c3 => omega
      intro v4 w10 ho10 hg10 _
      have hgr10 : w3.grownBy w10 none := own_grown HO9.out HG9.out hg10
      have ho10' : w10.ownsRow w3.heap.size 5 1 v4 (32 * (k + 1)) (u8s (okm p info (k + 1))) := by
        rw [show 32 * (k + 1) = a + 32 by have := HA.out; omega, okm, ← HYK.out]
        exact ho10
      have hb10 : Blk w10 gx 22 (u8s y) := HB9.out.grown hg10 (fun e => HGB.out e.symm)
      have hx10 : Byt w10 (fun b => b < w10.heap.size) (some ⟨gx, 0, none⟩) (tk p info (k + 1)) := by rw [← HYK.out]; exact hb10.bytes
      have HGR10 := Lib.hid hgr10
      have HO10 := Lib.hid ho10'
      have HX10 := Lib.hid hx10
      clear hgr10 ho10 ho10' hb10 hx10 hg10
      go_wp2
      go_roundw
      case rel =>
        exact ⟨k + 1, 32, some ⟨gx, 0, none⟩, by go_num, by have := HA.out; omega, HO10.out, rfl, tk_length _ _ _, HX10.out, HGR10.out⟩
      case measure => simp [intOf]; have := HA.out; omega
    · have hres : Byt wr (fun b => b < wr.heap.size) Ao (hkdf salt from_ info n) := by
        have h1 := (hob.take n).imp (ok' := fun b => b < wr.heap.size) fun b hb => hb.2.2
        rw [← okm_end p info n k (by omega), HP.out] at h1
        exact h1
      have hgw : w.grownBy wr none := World.grownBy.trans HG3.out hgr
      have hnc : (n : Int) ≤ (co : Int) := by omega
      have hn0 : (0 : Int) ≤ (n : Int) := by omega
      have HRES := Lib.hid hres
      have HGW := Lib.hid hgw
      clear hown hob hgr hby htl hres hgw HST
      go_wp2
      go_ret2
      exact ⟨Ao, co, rfl, by omega, hoc, HRES.out, HGW.out⟩
end Go.Proofs.YtkbffponemihoaaGreatDoor.S
