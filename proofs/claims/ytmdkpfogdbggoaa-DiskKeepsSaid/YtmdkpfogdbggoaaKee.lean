/- DiskKeeps' walk: what was synced outlives a crash that keeps nothing; of what waits a crash keeps a beginning. Conditions: none. -/
import Derived.Test.YtmdkpfogdbggoaaFus
import Derived.Deep.CutRange
import Derived.Deep.CutBlock
namespace Go.Proofs.Ytmdkpfogdbggoaa
open Go.RowKit
/-- The law's disk: eight blocks, no fuse, alive. -/
def sk (K : List UInt8) (L : List (Nat × List UInt8)) : St := ⟨8, K, L, -1, false⟩
theorem sk_goes (K : List UInt8) (L : List (Nat × List UInt8)) : (sk K L).goes = true := rfl
theorem sk_burn (K : List UInt8) (L : List (Nat × List UInt8)) : (sk K L).burn = sk K L := by simp [sk, St.burn]
theorem sk_syncE (K : List UInt8) (L : List (Nat × List UInt8)) : (sk K L).syncE = 0 := rfl
theorem sk_synced (K : List UInt8) (L : List (Nat × List UInt8)) : (sk K L).synced = sk (redo K L) [] := by
  unfold St.synced
  rw [if_pos (sk_goes K L), sk_burn]
  rfl
theorem sk_crash (K : List UInt8) (L : List (Nat × List UInt8)) (k : Int) : (sk K L).crash k = sk (redo K (L.take k.toNat)) [] := rfl
theorem law_write8 {V : World} {ft : Nat → Prop} {p : Nat} {K : List UInt8} {L : List (Nat × List UInt8)} (hd : Dsk V ft p (sk K L)) (hL : L.length ≤ 40) {gq i : Nat} {b : List UInt8} (hb : Blk V gq 5 (u8s b)) (hl : b.length = 64) (hO : Out V ft gq) (hi : i < 8) :
    Calls Try.prog 11 #[.pointer (some ⟨p, 0, none⟩), .int .i64 (i : Int), .slice (some ⟨gq, 0, none⟩) 64 64] V fun e w' => e = .returned (.int .i64 0) ∧ Nxt V ft p (sk K (L ++ [(i, b)])) w' := by
  have h := write_yes (c := 64) hd (i := i) hi hb.bytes hl hO.ok (sk_goes K L) (by show L.length ≤ _; omega)
  rw [sk_burn] at h
  exact h
theorem take_lt (K : List UInt8) (L : List (Nat × List UInt8)) (x : Nat × List UInt8) (k : Int) (h : (L.length : Int) < k) : redo K ((L ++ [x]).take k.toNat) = put x.1 x.2 (redo K (L.take k.toNat)) := by
  rw [List.take_of_length_le (by simp; omega), List.take_of_length_le (by omega), redo_snoc]
theorem take_ge (K : List UInt8) (L : List (Nat × List UInt8)) (x : Nat × List UInt8) (k : Int) (h : ¬ (L.length : Int) < k) : redo K ((L ++ [x]).take k.toNat) = redo K (L.take k.toNat) := by
  rw [List.take_append_of_le_length (by omega)]
/-- Behind the first loop. -/
def K1 (w : World) (p : Nat) (wx : World) : Prop := ∃ L ft, Dsk wx ft p (sk (zb 512) L) ∧ L.length ≤ 20 ∧ (∀ b, ft b → w.heap.size ≤ b) ∧ w.grownBy wx none
/-- Behind the second loop. -/
def K2 (w : World) (p ga gw : Nat) (K : List UInt8) (keep : Int) (vn : Value) (wx : World) : Prop := ∃ (dn : Nat) (L : List (Nat × List UInt8)) (ft : Nat → Prop) (tl : List Value), vn = .int .i64 (dn : Int) ∧ Hid (dn = L.length) ∧ dn ≤ 20 ∧ Dsk wx ft p (sk K L) ∧ (∀ b, ft b → w.heap.size ≤ b) ∧ w.grownBy wx none ∧
  Blk wx ga 5 (u8s K) ∧ Out wx ft ga ∧ Blk wx gw 5 (u8s (redo K (L.take keep.toNat)) ++ tl) ∧ Out wx ft gw
theorem lay_put {b WT : List UInt8} {i : Nat} (hb : b.length = 64) (hl : WT.length = 512) (hi : i < 8) : WT.take (64 * i) ++ lay b (WT.drop (64 * i)) = put i b WT := by
  unfold lay put
  rw [List.take_of_length_le (l := b) (by rw [List.length_drop, hl, hb]; omega), List.drop_drop, hb]
theorem Blk.bytes_tl {w : World} {x : Nat} {ty : TypeId} {xs : List UInt8} {tl : List Value} (h : Blk w x ty (u8s xs ++ tl)) : Byt w (fun b => b = x) (some ⟨x, 0, none⟩) xs := Blk.byt (pre := []) (post := tl) (by simpa using h) rfl
set_option maxRecDepth 100000 in
set_option maxHeartbeats 8000000 in
theorem keeps_walk (w : World) {A : Option Addr} {l : List OpR} {c : Nat} (hx : Ops w (fun b => b < w.heap.size) A l) {B : Option Addr} {l2 : List OpR} {c2 : Nat} (hx2 : Ops w (fun b => b < w.heap.size) B l2) (keep : Int) (hk1 : -9223372036854775808 ≤ keep) (hk2 : keep ≤ 9223372036854775807) :
    Calls Try.prog 4 #[.slice A l.length c, .slice B l2.length c2, .int .i64 keep] w fun e w' => e = .returned (.bool true) ∧ w.grownBy w' none := by
  have HA := Lib.hid (alive_any w)
  have HX := Lib.hid hx
  have HX2 := Lib.hid hx2
  clear hx hx2
  go_enter Try.func4, Try.ntmps4
  go_upto_block 0 with (first
    | (go_at_call 7
       with_reducible refine HA.out.mono ?_
       rintro e w1 ⟨rfl, hg1⟩
       have HG1 := Lib.hid hg1
       have hn := new_any w1 8
       rw [show nOf 8 = 8 from rfl] at hn
       have HN := Lib.hid hn
       clear hg1 hn HA)
    | (go_at_call 8
       with_reducible refine HN.out.mono ?_
       rintro e w2 ⟨p, foot, rfl, hd2, hf2, hg2⟩
       have HF2 : Hid (∀ k, foot k → w.heap.size ≤ k) := fun k hk => Nat.le_trans HG1.out.size (hf2 k hk)
       have HG2 := Lib.hid (HG1.out.trans hg2)
       have HD2 : Hid (Dsk w2 foot p (sk (zb 512) [])) := hd2
       clear hd2 hf2 hg2 HN HG1)
    | fail)
  go_cut [8, 9] from 18 to 38 (fun u v wx => K1 w p wx)
  case first =>
    go_wp2_with fail
    go_loopw [8] (fun vi wr => ∃ (k : Nat) (L : List (Nat × List UInt8)) (ft : Nat → Prop), k ≤ l.length ∧ k ≤ 20 ∧ vi = .int .i64 (k : Int) ∧ Hid (L.length ≤ k) ∧ Dsk wr ft p (sk (zb 512) L) ∧ (∀ b, ft b → w.heap.size ≤ b) ∧ w.grownBy wr none) (fun vi _ => 20 - (intOf vi).toNat)
    case atStart => exact ⟨0, [], foot, Nat.zero_le _, by omega, rfl, Lib.hid (Nat.le_refl _), HD2.out, HF2.out, HG2.out⟩
    case round =>
      clear HD2 HF2 HG2
      obtain ⟨k, L, ft, hk, hk20, rfl, hL, hd, hft, hgr⟩ := hrel
      obtain ⟨wo, rfl⟩ : ∃ wo : World, wo = wr := ⟨_, rfl⟩
      have HFT := Lib.hid hft
      by_cases hlt : k < l.length ∧ k < 20
      · obtain ⟨hl1, hl2⟩ := hlt
        have d1 : decide ((k : Int) < (l.length : Int)) = true := by simp; omega
        have d2 : decide ((k : Int) < 20) = true := by simp; omega
        obtain ⟨b, o, rfl, hbw, hrg⟩ := HX.out k hl1
        have hrg' : wo.rangeAt b (o + 4 * k) (opC l[k]) := fun q v hv => (World.cell?_of_block (hgr.block b hbw (by simp))).trans (hrg q v hv)
        have hix := fun w => run_index22 w b o l.length c k hl1
        obtain ⟨x, hx⟩ : ∃ x, x = l[k] := ⟨_, rfl⟩
        rw [← hx] at hrg'
        have a0 : wo.cell? ⟨b, o + 4 * k, none⟩ = some (.int .u8 (x.kd.toNat : Int)) := hrg' 0 _ rfl
        have a1 : wo.cell? ⟨b, o + 4 * k + 1, none⟩ = some (.int .i64 x.at_) := hrg' 1 _ rfl
        have a2 : wo.cell? ⟨b, o + 4 * k + 2, none⟩ = some (.int .u8 (x.f.toNat : Int)) := hrg' 2 _ rfl
        have a3 : wo.cell? ⟨b, o + 4 * k + 3, none⟩ = some (.int .u8 (x.sz.toNat : Int)) := hrg' 3 _ rfl
        have HB4 : Hid (Blk (wo.alloc (.cells #[.int .u8 (x.kd.toNat : Int), .int .i64 x.at_, .int .u8 (x.f.toNat : Int), .int .u8 64] 30)) wo.heap.size 30 [.int .u8 (x.kd.toNat : Int), .int .i64 x.at_, .int .u8 (x.f.toNat : Int), .int .u8 64]) := Blk.of_alloc _ _ _
        have HD4 := Lib.hid (hd.grown (World.grownBy_alloc wo (.cells #[.int .u8 (x.kd.toNat : Int), .int .i64 x.at_, .int .u8 (x.f.toNat : Int), .int .u8 64] 30) none))
        have HGR4 := Lib.hid (hgr.trans (World.grownBy_alloc wo (.cells #[.int .u8 (x.kd.toNat : Int), .int .i64 x.at_, .int .u8 (x.f.toNat : Int), .int .u8 64] 30) none))
        have HO4 : Hid (Out (wo.alloc (.cells #[.int .u8 (x.kd.toNat : Int), .int .i64 x.at_, .int .u8 (x.f.toNat : Int), .int .u8 64] 30)) ft wo.heap.size) := Out.new hd.lt (by simp)
        have hkd := x.kd.toNat_lt
        have hf := x.f.toNat_lt
        have hsz := x.sz.toNat_lt
        by_cases hat : 0 ≤ x.at_ ∧ x.at_ < ((8 : Nat) : Int)
        · obtain ⟨i, hai⟩ : ∃ i : Nat, x.at_ = (i : Int) := ⟨x.at_.toNat, by omega⟩
          have hi8 : i < 8 := by omega
          rw [hai] at a1 HB4 HD4 HGR4 HO4
          clear hx hrg hrg' hd hft hgr hat hai HX2
          go_wp2
          obtain ⟨W4, hW4⟩ : ∃ W4, wo.alloc (.cells #[.int .u8 (x.kd.toNat : Int), .int .i64 (i : Int), .int .u8 (x.f.toNat : Int), .int .u8 64] 30) = W4 := ⟨_, rfl⟩
          obtain ⟨gx, hgx⟩ : ∃ gx, gx = wo.heap.size := ⟨_, rfl⟩
          rw [hW4] at HB4 HD4 HGR4 HO4 ⊢
          rw [← hgx] at HB4 HO4 ⊢
          clear hW4 hgx a0 a1 a2 a3 hix
          go_region_held3 (fun W => W.cell? ⟨gx, 0, none⟩ = some (.int .u8 (x.kd.toNat : Int)) ∧ W.cell? ⟨gx, 1, none⟩ = some (.int .i64 (i : Int)) ∧ W.cell? ⟨gx, 2, none⟩ = some (.int .u8 (x.f.toNat : Int)) ∧ W.cell? ⟨gx, 3, none⟩ = some (.int .u8 64))
            (first | exact box_cells B6.out | exact box_cells B5.out | exact box_cells HB4.out | go_keep)
            (first
              | (go_at_call 12
                 with_reducible refine (block64 _ (x.kd.toNat : Int) (i : Int) x.f).mono ?_
                 rintro _ w5 ⟨gq, rfl, hb5, hgq, hg5⟩
                 have hg5' : W4.grownBy w5 none := (grown_drewN 1 : W4.grownBy W4.drew none).trans hg5
                 have B5 := Lib.hid (HB4.out.grown hg5' (by simp))
                 have HG5 := Lib.hid (HGR4.out.trans hg5')
                 have HO5 := Lib.hid (HO4.out.up hg5'.size)
                 have HD5 := Lib.hid (HD4.out.grown hg5')
                 have HW5 := Lib.hid (law_write8 HD5.out (by have := hL.out; omega) hb5 (fillB_length x.f 64) (Out.new (w := w5) (foot := ft) (fun k hk => Nat.lt_of_lt_of_le (HD4.out.lt k hk) hgq) hb5.lt) hi8)
                 clear hb5 hgq hg5 hg5')
              | (go_at_call 11
                 with_reducible refine HW5.out.mono ?_
                 rintro _ w6 ⟨rfl, ft6, hd6, hf6, hm6⟩
                 have B6 := Lib.hid (B5.out.md HO5.out hm6)
                 have HO6 := Lib.hid (HO5.out.nxt hf6 hm6)
                 have HD6 := Lib.hid hd6
                 have HF6 : Hid (∀ b, ft6 b → w.heap.size ≤ b) := fun b hb => (hf6 b hb).elim (HFT.out b) (fun h => Nat.le_trans HG5.out.size h.1)
                 have HG6 := Lib.hid (hm6.grown HG5.out HFT.out)
                 clear hd6 hf6 hm6)
              | fail)
          go_wp2
          go_roundw
          case rel => exact ⟨k + 1, _, ft6, by omega, by omega, by go_num, Lib.hid (by have := hL.out; simp; omega), HD6.out, HF6.out, HG6.out⟩
          case measure => simp [intOf]; omega
        · have hlo := x.lo
          have hhi := x.hi
          clear hx hrg hrg' hd hft hgr HX2
          go_wp2
          obtain ⟨W4, hW4⟩ : ∃ W4, wo.alloc (.cells #[.int .u8 (x.kd.toNat : Int), .int .i64 x.at_, .int .u8 (x.f.toNat : Int), .int .u8 64] 30) = W4 := ⟨_, rfl⟩
          obtain ⟨gx, hgx⟩ : ∃ gx, gx = wo.heap.size := ⟨_, rfl⟩
          rw [hW4] at HB4 HD4 HGR4 HO4 ⊢
          rw [← hgx] at HB4 HO4 ⊢
          clear hW4 hgx a0 a1 a2 a3 hix
          go_region_held3 (fun W => W.cell? ⟨gx, 0, none⟩ = some (.int .u8 (x.kd.toNat : Int)) ∧ W.cell? ⟨gx, 1, none⟩ = some (.int .i64 x.at_) ∧ W.cell? ⟨gx, 2, none⟩ = some (.int .u8 (x.f.toNat : Int)) ∧ W.cell? ⟨gx, 3, none⟩ = some (.int .u8 64))
            (first | exact box_cells B6.out | exact box_cells B5.out | exact box_cells HB4.out | go_keep)
            (first
              | (go_at_call 12
                 with_reducible refine (block64 _ (x.kd.toNat : Int) x.at_ x.f).mono ?_
                 rintro _ w5 ⟨gq, rfl, hb5, hgq, hg5⟩
                 have hg5' : W4.grownBy w5 none := (grown_drewN 1 : W4.grownBy W4.drew none).trans hg5
                 have B5 := Lib.hid (HB4.out.grown hg5' (by simp))
                 have HG5 := Lib.hid (HGR4.out.trans hg5')
                 have HO5 := Lib.hid (HO4.out.up hg5'.size)
                 have HD5 := Lib.hid (HD4.out.grown hg5')
                 have HW5 := Lib.hid (write_arg (A := some ⟨gq, 0, none⟩) (n := 64) (c := 64) HD5.out (.inl hat))
                 clear hb5 hgq hg5 hg5')
              | (go_at_call 11
                 with_reducible refine HW5.out.mono ?_
                 rintro _ w6 ⟨rfl, rfl⟩
                 have B6 := B5)
              | fail)
          go_wp2
          go_roundw
          case rel => exact ⟨k + 1, L, ft, by omega, by omega, by go_num, Lib.hid (by have := hL.out; omega), HD5.out, HFT.out, HG5.out⟩
          case measure => simp [intOf]; omega
      · by_cases hl1 : k < l.length
        · have d1 : decide ((k : Int) < (l.length : Int)) = true := by simp; omega
          have d2 : decide ((k : Int) < 20) = false := by simp; omega
          go_wp2_with fail
          go_meet
          case rel => exact ⟨L, ft, hd, Nat.le_trans hL.out hk20, hft, hgr⟩
        · have d1 : decide ((k : Int) < (l.length : Int)) = false := by simp; omega
          go_wp2_with fail
          go_meet
          case rel => exact ⟨L, ft, hd, Nat.le_trans hL.out hk20, hft, hgr⟩
  case rest =>
    obtain ⟨L0, ft0, hd0, hL0, hft0, hg0⟩ := hcut
    clear HD2 HF2 HG2
    have hs0 := sync_any hd0
    rw [sk_syncE, sk_synced] at hs0
    have HS0 := Lib.hid hs0
    have HFT0 := Lib.hid hft0
    have HG0 := Lib.hid hg0
    obtain ⟨i5, hi5, hz0, hz1, hz2⟩ := info_parts Try.info5
    clear hd0 hL0 hft0 hg0 hs0
    go_upto_block 2 with (first
      | (go_at_call 14
         with_reducible refine HS0.out.mono ?_
         rintro e w3 ⟨rfl, hd3, hm3⟩
         have HD3 := Lib.hid hd3
         have HG3 := Lib.hid (hm3.grown HG0.out HFT0.out)
         have hk3 : Calls Try.prog 24 #[.pointer (some ⟨p, 0, none⟩)] w3 (NewBytes w3 (redo (zb 512) L0) 512) := kept_any hd3 (show 0 ≤ 1048576 by omega)
         have HK3 := Lib.hid hk3
         clear hd3 hm3 hk3 HS0 HG0)
      | (go_at_call 24
         with_reducible refine HK3.out.mono ?_
         rintro e w4 ⟨ga, rfl, ha4, hga4, hg4⟩
         have HG4 := Lib.hid (HG3.out.trans hg4)
         have HD4 := Lib.hid (HD3.out.grown hg4)
         have HO4 := Lib.hid (Out.new (w := w4) (foot := ft0) (fun k hk => Nat.lt_of_lt_of_le (HD3.out.lt k hk) hga4) ha4.lt)
         have HA4 := Lib.hid ha4
         obtain ⟨K0, hK0⟩ : ∃ K0, K0 = redo (zb 512) L0 := ⟨_, rfl⟩
         have hKl : K0.length = 512 := by rw [hK0]; exact HD3.out.ok.2.2.1
         rw [← hK0] at HA4 HD4
         have HA5 : Hid (Blk (w4.alloc (.cells #[] 5)) ga 5 (u8s K0)) := HA4.out.grown (World.grownBy_alloc _ _ none) (by simp)
         have HKL := Lib.hid hKl
         have HKU : Hid ((u8s K0).length = 512 * 1) := by show _ = _; rw [u8s_length, hKl]
         clear ha4 hga4 hg4 hK0 hKl HK3 HG3 HD3)
      | (at_builtin
         refine wpList_append_lies _ rfl _ _ 33 rfl w4.heap.size 5 i5 _ 1 1 Try.underlying33 hi5 hz0 hz1 hz2 rfl (by omega) (.slice (some ⟨w4.heap.size, 0, none⟩) 0 0) 0 [] rfl (World.ownsRow_lit w4 #[] 0 (Nat.le_refl _) (Nat.zero_le _) rfl) ⟨ga, 0, none⟩ 512 512 (u8s K0) rfl HKU.out (fun j u hu => by rw [Addr.add_mid, Nat.zero_add]; exact HA5.out.get _ _ hu) (u8s_one K0) (by omega) (by unfold maxLen; omega) (by omega) (by simp) _ rfl ?_
         intro gw cw w5 hown hgrow hat hlt)
      | fail)
    have hg5 : w4.grownBy w5 none := World.grownBy.andThen (World.grownBy_alloc w4 _ none) hgrow (by intro j e; simp [Value.ownBlock] at e; left; omega)
    obtain ⟨g', c', tl, e, hge, hbk, hnc, _⟩ := own_tail hown (by omega)
    simp only [Value.slice.injEq, Option.some.injEq, Addr.mk.injEq, true_and, and_true] at e
    obtain ⟨rfl, rfl⟩ := e
    have HBW := Lib.hid (show Blk w5 gw 5 (u8s K0 ++ tl) by simpa using hbk)
    have HCW : Hid (512 ≤ cw) := by show 512 ≤ cw; omega
    have HD5 := Lib.hid (HD4.out.grown hg5)
    have HG5 := Lib.hid (HG4.out.trans hg5)
    have HBA := Lib.hid (HA4.out.grown hg5 (by simp))
    have HOA := Lib.hid (HO4.out.up hg5.size)
    have HOW := Lib.hid (Out.new (w := w5) (foot := ft0) (fun k hk => Nat.lt_of_lt_of_le (HD4.out.lt k hk) hge) hbk.lt)
    have HAW : Hid (ga ≠ gw ∧ w.heap.size ≤ gw) := ⟨fun e => by have := HO4.out.lt; omega, Nat.le_trans HG4.out.size hge⟩
    clear hown hgrow hat hlt hge hbk hnc hg5 HA4 HA5 HD4 HG4 HO4
    go_cut [11, 13, 14] from 47 to 81 (fun vn u v wx => K2 w p ga gw K0 keep vn wx)
    case first =>
      go_wp2_with fail
      go_loopw [11, 13] (fun vn vi wr => ∃ (k dn : Nat) (L : List (Nat × List UInt8)) (ft : Nat → Prop) (tl2 : List Value), k ≤ l2.length ∧ k ≤ 20 ∧ dn ≤ k ∧ vi = .int .i64 (k : Int) ∧ vn = .int .i64 (dn : Int) ∧ Hid (dn = L.length) ∧ Dsk wr ft p (sk K0 L) ∧ (∀ b, ft b → w.heap.size ≤ b) ∧ w.grownBy wr none ∧ Blk wr ga 5 (u8s K0) ∧ Out wr ft ga ∧ Blk wr gw 5 (u8s (redo K0 (L.take keep.toNat)) ++ tl2) ∧ Out wr ft gw) (fun _ vi _ => 20 - (intOf vi).toNat)
      case atStart => exact ⟨0, 0, [], ft0, tl, Nat.zero_le _, by omega, Nat.le_refl _, rfl, rfl, Lib.hid rfl, HD5.out, HFT0.out, HG5.out, HBA.out, HOA.out, by simpa [redo] using HBW.out, HOW.out⟩
      case round =>
        clear HD5 HFT0 HG5 HBA HOA HBW HOW
        obtain ⟨k, dn, L, ft, tl2, hk, hk20, hdk, rfl, rfl, hdn, hd, hft, hgr, hba, hoa, hbw2, how⟩ := hrel
        obtain ⟨wo, rfl⟩ : ∃ wo : World, wo = wr := ⟨_, rfl⟩
        have HFT := Lib.hid hft
        by_cases hlt : k < l2.length ∧ k < 20
        · obtain ⟨hl1, hl2⟩ := hlt
          have d1 : decide ((k : Int) < (l2.length : Int)) = true := by simp; omega
          have d2 : decide ((k : Int) < 20) = true := by simp; omega
          obtain ⟨b, o, rfl, hbw, hrg⟩ := HX2.out k hl1
          have hrg' : wo.rangeAt b (o + 4 * k) (opC l2[k]) := fun q v hv => (World.cell?_of_block (hgr.block b hbw (by simp))).trans (hrg q v hv)
          have hix := fun w => run_index22 w b o l2.length c2 k hl1
          obtain ⟨x, hx⟩ : ∃ x, x = l2[k] := ⟨_, rfl⟩
          rw [← hx] at hrg'
          have a0 : wo.cell? ⟨b, o + 4 * k, none⟩ = some (.int .u8 (x.kd.toNat : Int)) := hrg' 0 _ rfl
          have a1 : wo.cell? ⟨b, o + 4 * k + 1, none⟩ = some (.int .i64 x.at_) := hrg' 1 _ rfl
          have a2 : wo.cell? ⟨b, o + 4 * k + 2, none⟩ = some (.int .u8 (x.f.toNat : Int)) := hrg' 2 _ rfl
          have a3 : wo.cell? ⟨b, o + 4 * k + 3, none⟩ = some (.int .u8 (x.sz.toNat : Int)) := hrg' 3 _ rfl
          have HB4 : Hid (Blk (wo.alloc (.cells #[.int .u8 (x.kd.toNat : Int), .int .i64 x.at_, .int .u8 (x.f.toNat : Int), .int .u8 64] 30)) wo.heap.size 30 [.int .u8 (x.kd.toNat : Int), .int .i64 x.at_, .int .u8 (x.f.toNat : Int), .int .u8 64]) := Blk.of_alloc _ _ _
          have HD4 := Lib.hid (hd.grown (World.grownBy_alloc wo (.cells #[.int .u8 (x.kd.toNat : Int), .int .i64 x.at_, .int .u8 (x.f.toNat : Int), .int .u8 64] 30) none))
          have HGR4 := Lib.hid (hgr.trans (World.grownBy_alloc wo (.cells #[.int .u8 (x.kd.toNat : Int), .int .i64 x.at_, .int .u8 (x.f.toNat : Int), .int .u8 64] 30) none))
          have HO4 : Hid (Out (wo.alloc (.cells #[.int .u8 (x.kd.toNat : Int), .int .i64 x.at_, .int .u8 (x.f.toNat : Int), .int .u8 64] 30)) ft wo.heap.size) := Out.new hd.lt (by simp)
          have hkd := x.kd.toNat_lt
          have hf := x.f.toNat_lt
          have hsz := x.sz.toNat_lt
          have HFL : Hid (Fit 8 L) := hd.ok.2.2.2.1
          by_cases hat : 0 ≤ x.at_ ∧ x.at_ < ((8 : Nat) : Int)
          · obtain ⟨i, hai⟩ : ∃ i : Nat, x.at_ = (i : Int) := ⟨x.at_.toNat, by omega⟩
            have hi8 : i < 8 := by omega
            rw [hai] at a1 HB4 HD4 HGR4 HO4
            clear hx hrg hrg' hd hft hgr hat hai HX
            by_cases hkp : (dn : Int) < keep
            · have d5 : decide ((dn : Int) < keep) = true := by simpa using hkp
              go_wp2
              obtain ⟨W4, hW4⟩ : ∃ W4, wo.alloc (.cells #[.int .u8 (x.kd.toNat : Int), .int .i64 (i : Int), .int .u8 (x.f.toNat : Int), .int .u8 64] 30) = W4 := ⟨_, rfl⟩
              obtain ⟨gx, hgx⟩ : ∃ gx, gx = wo.heap.size := ⟨_, rfl⟩
              have HNX : Hid (gw ≠ gx ∧ ga ≠ gx) := ⟨fun e => by have := how.lt; omega, fun e => by have := hoa.lt; omega⟩
              have HBW4 := Lib.hid (hbw2.grown (World.grownBy_alloc wo (.cells #[.int .u8 (x.kd.toNat : Int), .int .i64 (i : Int), .int .u8 (x.f.toNat : Int), .int .u8 64] 30) none) (by simp))
              have HBA4 := Lib.hid (hba.grown (World.grownBy_alloc wo (.cells #[.int .u8 (x.kd.toNat : Int), .int .i64 (i : Int), .int .u8 (x.f.toNat : Int), .int .u8 64] 30) none) (by simp))
              have HOW4 := Lib.hid (how.up (World.grownBy_alloc wo (.cells #[.int .u8 (x.kd.toNat : Int), .int .i64 (i : Int), .int .u8 (x.f.toNat : Int), .int .u8 64] 30) none).size)
              have HOA4 := Lib.hid (hoa.up (World.grownBy_alloc wo (.cells #[.int .u8 (x.kd.toNat : Int), .int .i64 (i : Int), .int .u8 (x.f.toNat : Int), .int .u8 64] 30) none).size)
              rw [hW4] at HB4 HD4 HGR4 HO4 HBW4 HBA4 HOW4 HOA4 ⊢
              rw [← hgx] at HB4 HO4 ⊢
              clear hW4 hgx a0 a1 a2 a3 hix hba hoa hbw2 how
              go_region_held3 (fun W => W.cell? ⟨gx, 0, none⟩ = some (.int .u8 (x.kd.toNat : Int)) ∧ W.cell? ⟨gx, 1, none⟩ = some (.int .i64 (i : Int)) ∧ W.cell? ⟨gx, 2, none⟩ = some (.int .u8 (x.f.toNat : Int)) ∧ W.cell? ⟨gx, 3, none⟩ = some (.int .u8 64))
                (first | exact box_cells B6.out | exact box_cells B5.out | exact box_cells HB4.out | go_keep)
                (first
                  | (go_at_call 12
                     with_reducible refine (block64 _ (x.kd.toNat : Int) (i : Int) x.f).mono ?_
                     rintro _ w5 ⟨gq, rfl, hb5, hgq, hg5⟩
                     have hg5' : W4.grownBy w5 none := (grown_drewN 1 : W4.grownBy W4.drew none).trans hg5
                     have B5 := Lib.hid (HB4.out.grown hg5' (by simp))
                     have HG5 := Lib.hid (HGR4.out.trans hg5')
                     have HO5 := Lib.hid (HO4.out.up hg5'.size)
                     have HD5 := Lib.hid (HD4.out.grown hg5')
                     have HW5 := Lib.hid (law_write8 HD5.out (by have := hdn.out; omega) hb5 (fillB_length x.f 64) (Out.new (w := w5) (foot := ft) (fun k hk => Nat.lt_of_lt_of_le (HD4.out.lt k hk) hgq) hb5.lt) hi8)
                     have HBW5 := Lib.hid (HBW4.out.grown hg5' (by simp))
                     have HBA5 := Lib.hid (HBA4.out.grown hg5' (by simp))
                     have HOW5 := Lib.hid (HOW4.out.up hg5'.size)
                     have HOA5 := Lib.hid (HOA4.out.up hg5'.size)
                     clear hb5 hgq hg5 hg5')
                  | (go_at_call 11
                     with_reducible refine HW5.out.mono ?_
                     rintro _ w6 ⟨rfl, ft6, hd6, hf6, hm6⟩
                     have B6 := Lib.hid (B5.out.md HO5.out hm6)
                     have HO6 := Lib.hid (HO5.out.nxt hf6 hm6)
                     have HD6 := Lib.hid hd6
                     have HF6 : Hid (∀ b, ft6 b → w.heap.size ≤ b) := fun b hb => (hf6 b hb).elim (HFT.out b) (fun h => Nat.le_trans HG5.out.size h.1)
                     have HG6 := Lib.hid (hm6.grown HG5.out HFT.out)
                     have HBW6 := Lib.hid (HBW5.out.md HOW5.out hm6)
                     have HBA6 := Lib.hid (HBA5.out.md HOA5.out hm6)
                     have HOW6 := Lib.hid (HOW5.out.nxt hf6 hm6)
                     have HOA6 := Lib.hid (HOA5.out.nxt hf6 hm6)
                     clear hd6 hf6 hm6)
                  | fail)
              go_wp2
              obtain ⟨WT, hWT⟩ : ∃ WT, WT = redo K0 (L.take keep.toNat) := ⟨_, rfl⟩
              have hWl : WT.length = 512 := by rw [hWT]; exact redo_length (n := 8) (HFL.out.take _) HKL.out
              rw [← hWT] at HBW6
              have HWT := Lib.hid hWT
              have HWL := Lib.hid hWl
              have hb60 : Blk w6 gw 5 (u8s (WT.take (64 * i)) ++ u8s (WT.drop (64 * i)) ++ tl2) := by
                rw [← u8s_append, List.take_append_drop]
                exact HBW6.out
              have HBW60 := Lib.hid hb60
              have HP : Hid ((u8s (WT.take (64 * i))).length = 64 * i) := by show _ = _; rw [u8s_length, List.length_take, hWl]; omega
              have HY : Hid ((WT.drop (64 * i)).length = 512 - 64 * i) := by show _ = _; rw [List.length_drop, hWl]
              have HM : Hid (Nat.min (fillB x.f 64).length (WT.drop (64 * i)).length = 64) := by show Nat.min _ _ = 64; rw [HY.out, fillB_length]; exact Nat.min_eq_left (by omega)
              clear hWT hWl hb60
              have hk64 : IntKind.i64.wrap (64 * (i : Int)) = 64 * (i : Int) := IntWalk.i64_in _ (by omega)
              have q1 : (0 : Int) ≤ 64 * (i : Int) := by omega
              have q2 : 64 * (i : Int) ≤ 512 := by omega
              have q3 : (64 * (i : Int)).toNat = 64 * i := by omega
              have q4 : ¬ cw = 64 * i := by have := HCW.out; omega
              go_region_held3 (fun W => W.cell? ⟨gx, 0, none⟩ = some (.int .u8 (x.kd.toNat : Int)) ∧ W.cell? ⟨gx, 1, none⟩ = some (.int .i64 (i : Int)) ∧ W.cell? ⟨gx, 2, none⟩ = some (.int .u8 (x.f.toNat : Int)) ∧ W.cell? ⟨gx, 3, none⟩ = some (.int .u8 64))
                (first | exact box_cells B8.out | exact box_cells B7.out | exact box_cells B6.out | go_keep)
                (first
                  | (go_at_call 12
                     with_reducible refine (block64 _ (x.kd.toNat : Int) (i : Int) x.f).mono ?_
                     rintro _ w7 ⟨gq2, rfl, hb7, hgq7, hg7⟩
                     have hg7' : w6.grownBy w7 none := (grown_drewN 1 : w6.grownBy w6.drew none).trans hg7
                     have B7 := Lib.hid (B6.out.grown hg7' (by simp))
                     have HG7 := Lib.hid (HG6.out.trans hg7')
                     have HD7 := Lib.hid (HD6.out.grown hg7')
                     have HBW7 := Lib.hid (HBW60.out.grown hg7' (by simp))
                     have HBA7 := Lib.hid (HBA6.out.grown hg7' (by simp))
                     have HOW7 := Lib.hid (HOW6.out.up hg7'.size)
                     have HOA7 := Lib.hid (HOA6.out.up hg7'.size)
                     have HX7 := Lib.hid hb7.bytes
                     clear hb7 hgq7 hg7 hg7')
                  | (refine step_copy_blk rfl (.tmp 76) (.tmp 78) rfl gw (64 * i) (512 - 64 * i) (cw - 64 * i) 64 64 (some ⟨gq2, 0, none⟩) (fillB x.f 64) (WT.drop (64 * i)) (by simp [Act.eval]) (by simp [Act.eval]) (fillB_length x.f 64) HY.out (by rw [HM.out]; decide) 5 (u8s (WT.take (64 * i))) tl2 HBW7.out HP.out (fun b => b = gq2) HX7.out 64 HM.out ?_
                     intro w8 hb8 hg8 hz8
                     have hb8' : Blk w8 gw 5 (u8s (put i (fillB x.f 64) WT) ++ tl2) := by
                       rw [← lay_put (fillB_length x.f 64) HWL.out hi8, u8s_append]
                       exact hb8
                     have B8 := Lib.hid (B7.out.grown hg8 (by have := HNX.out.1; simp; omega))
                     have HG8 : Hid (w.grownBy w8 none) := World.grownBy.andThen HG7.out hg8 (by have := HAW.out.2; rintro j ⟨⟩; left; omega)
                     have HD8 := Lib.hid (HD7.out.md (Md.of_grown (foot := fun k => k = gw) hg8 (by rintro r ⟨⟩; rfl)) (fun k hk e => HOW7.out.no (e ▸ hk)))
                     have HBW8 := Lib.hid hb8'
                     have HBA8 := Lib.hid (HBA7.out.grown hg8 (by have := HAW.out.1; simpa using this))
                     have HOW8 := Lib.hid (HOW7.out.up (Nat.le_of_eq hz8.symm))
                     have HOA8 := Lib.hid (HOA7.out.up (Nat.le_of_eq hz8.symm))
                     clear hb8 hb8' hg8 hz8)
                  | fail)
              go_wp2
              go_roundw
              case rel =>
                refine ⟨k + 1, dn + 1, _, ft6, tl2, by omega, by omega, by omega, by go_num, by go_num, Lib.hid (by have := hdn.out; simp; omega), HD8.out, HF6.out, HG8.out, HBA8.out, HOA8.out, ?_, HOW8.out⟩
                rw [take_lt _ _ _ _ (by rw [← hdn.out]; exact hkp), ← HWT.out]
                exact HBW8.out
              case measure => simp [intOf]; omega
            · have d5 : decide ((dn : Int) < keep) = false := by simpa using hkp
              go_wp2
              obtain ⟨W4, hW4⟩ : ∃ W4, wo.alloc (.cells #[.int .u8 (x.kd.toNat : Int), .int .i64 (i : Int), .int .u8 (x.f.toNat : Int), .int .u8 64] 30) = W4 := ⟨_, rfl⟩
              obtain ⟨gx, hgx⟩ : ∃ gx, gx = wo.heap.size := ⟨_, rfl⟩
              have HNX : Hid (gw ≠ gx ∧ ga ≠ gx) := ⟨fun e => by have := how.lt; omega, fun e => by have := hoa.lt; omega⟩
              have HBW4 := Lib.hid (hbw2.grown (World.grownBy_alloc wo (.cells #[.int .u8 (x.kd.toNat : Int), .int .i64 (i : Int), .int .u8 (x.f.toNat : Int), .int .u8 64] 30) none) (by simp))
              have HBA4 := Lib.hid (hba.grown (World.grownBy_alloc wo (.cells #[.int .u8 (x.kd.toNat : Int), .int .i64 (i : Int), .int .u8 (x.f.toNat : Int), .int .u8 64] 30) none) (by simp))
              have HOW4 := Lib.hid (how.up (World.grownBy_alloc wo (.cells #[.int .u8 (x.kd.toNat : Int), .int .i64 (i : Int), .int .u8 (x.f.toNat : Int), .int .u8 64] 30) none).size)
              have HOA4 := Lib.hid (hoa.up (World.grownBy_alloc wo (.cells #[.int .u8 (x.kd.toNat : Int), .int .i64 (i : Int), .int .u8 (x.f.toNat : Int), .int .u8 64] 30) none).size)
              rw [hW4] at HB4 HD4 HGR4 HO4 HBW4 HBA4 HOW4 HOA4 ⊢
              rw [← hgx] at HB4 HO4 ⊢
              clear hW4 hgx a0 a1 a2 a3 hix hba hoa hbw2 how
              go_region_held3 (fun W => W.cell? ⟨gx, 0, none⟩ = some (.int .u8 (x.kd.toNat : Int)) ∧ W.cell? ⟨gx, 1, none⟩ = some (.int .i64 (i : Int)) ∧ W.cell? ⟨gx, 2, none⟩ = some (.int .u8 (x.f.toNat : Int)) ∧ W.cell? ⟨gx, 3, none⟩ = some (.int .u8 64))
                (first | exact box_cells B6.out | exact box_cells B5.out | exact box_cells HB4.out | go_keep)
                (first
                  | (go_at_call 12
                     with_reducible refine (block64 _ (x.kd.toNat : Int) (i : Int) x.f).mono ?_
                     rintro _ w5 ⟨gq, rfl, hb5, hgq, hg5⟩
                     have hg5' : W4.grownBy w5 none := (grown_drewN 1 : W4.grownBy W4.drew none).trans hg5
                     have B5 := Lib.hid (HB4.out.grown hg5' (by simp))
                     have HG5 := Lib.hid (HGR4.out.trans hg5')
                     have HO5 := Lib.hid (HO4.out.up hg5'.size)
                     have HD5 := Lib.hid (HD4.out.grown hg5')
                     have HW5 := Lib.hid (law_write8 HD5.out (by have := hdn.out; omega) hb5 (fillB_length x.f 64) (Out.new (w := w5) (foot := ft) (fun k hk => Nat.lt_of_lt_of_le (HD4.out.lt k hk) hgq) hb5.lt) hi8)
                     have HBW5 := Lib.hid (HBW4.out.grown hg5' (by simp))
                     have HBA5 := Lib.hid (HBA4.out.grown hg5' (by simp))
                     have HOW5 := Lib.hid (HOW4.out.up hg5'.size)
                     have HOA5 := Lib.hid (HOA4.out.up hg5'.size)
                     clear hb5 hgq hg5 hg5')
                  | (go_at_call 11
                     with_reducible refine HW5.out.mono ?_
                     rintro _ w6 ⟨rfl, ft6, hd6, hf6, hm6⟩
                     have B6 := Lib.hid (B5.out.md HO5.out hm6)
                     have HO6 := Lib.hid (HO5.out.nxt hf6 hm6)
                     have HD6 := Lib.hid hd6
                     have HF6 : Hid (∀ b, ft6 b → w.heap.size ≤ b) := fun b hb => (hf6 b hb).elim (HFT.out b) (fun h => Nat.le_trans HG5.out.size h.1)
                     have HG6 := Lib.hid (hm6.grown HG5.out HFT.out)
                     have HBW6 := Lib.hid (HBW5.out.md HOW5.out hm6)
                     have HBA6 := Lib.hid (HBA5.out.md HOA5.out hm6)
                     have HOW6 := Lib.hid (HOW5.out.nxt hf6 hm6)
                     have HOA6 := Lib.hid (HOA5.out.nxt hf6 hm6)
                     clear hd6 hf6 hm6)
                  | fail)
              go_wp2
              go_roundw
              case rel =>
                refine ⟨k + 1, dn + 1, _, ft6, tl2, by omega, by omega, by omega, by go_num, by go_num, Lib.hid (by have := hdn.out; simp; omega), HD6.out, HF6.out, HG6.out, HBA6.out, HOA6.out, ?_, HOW6.out⟩
                rw [take_ge _ _ _ _ (by rw [← hdn.out]; omega)]
                exact HBW6.out
              case measure => simp [intOf]; omega
          · have hlo := x.lo
            have hhi := x.hi
            clear hx hrg hrg' hd hft hgr HX
            go_wp2
            obtain ⟨W4, hW4⟩ : ∃ W4, wo.alloc (.cells #[.int .u8 (x.kd.toNat : Int), .int .i64 x.at_, .int .u8 (x.f.toNat : Int), .int .u8 64] 30) = W4 := ⟨_, rfl⟩
            obtain ⟨gx, hgx⟩ : ∃ gx, gx = wo.heap.size := ⟨_, rfl⟩
            have HNX : Hid (gw ≠ gx ∧ ga ≠ gx) := ⟨fun e => by have := how.lt; omega, fun e => by have := hoa.lt; omega⟩
            have HBW4 := Lib.hid (hbw2.grown (World.grownBy_alloc wo (.cells #[.int .u8 (x.kd.toNat : Int), .int .i64 x.at_, .int .u8 (x.f.toNat : Int), .int .u8 64] 30) none) (by simp))
            have HBA4 := Lib.hid (hba.grown (World.grownBy_alloc wo (.cells #[.int .u8 (x.kd.toNat : Int), .int .i64 x.at_, .int .u8 (x.f.toNat : Int), .int .u8 64] 30) none) (by simp))
            have HOW4 := Lib.hid (how.up (World.grownBy_alloc wo (.cells #[.int .u8 (x.kd.toNat : Int), .int .i64 x.at_, .int .u8 (x.f.toNat : Int), .int .u8 64] 30) none).size)
            have HOA4 := Lib.hid (hoa.up (World.grownBy_alloc wo (.cells #[.int .u8 (x.kd.toNat : Int), .int .i64 x.at_, .int .u8 (x.f.toNat : Int), .int .u8 64] 30) none).size)
            rw [hW4] at HB4 HD4 HGR4 HO4 HBW4 HBA4 HOW4 HOA4 ⊢
            rw [← hgx] at HB4 HO4 ⊢
            clear hW4 hgx a0 a1 a2 a3 hix hba hoa hbw2 how
            go_region_held3 (fun W => W.cell? ⟨gx, 0, none⟩ = some (.int .u8 (x.kd.toNat : Int)) ∧ W.cell? ⟨gx, 1, none⟩ = some (.int .i64 x.at_) ∧ W.cell? ⟨gx, 2, none⟩ = some (.int .u8 (x.f.toNat : Int)) ∧ W.cell? ⟨gx, 3, none⟩ = some (.int .u8 64))
              (first | exact box_cells B6.out | exact box_cells B5.out | exact box_cells HB4.out | go_keep)
              (first
                | (go_at_call 12
                   with_reducible refine (block64 _ (x.kd.toNat : Int) x.at_ x.f).mono ?_
                   rintro _ w5 ⟨gq, rfl, hb5, hgq, hg5⟩
                   have hg5' : W4.grownBy w5 none := (grown_drewN 1 : W4.grownBy W4.drew none).trans hg5
                   have B5 := Lib.hid (HB4.out.grown hg5' (by simp))
                   have HG5 := Lib.hid (HGR4.out.trans hg5')
                   have HO5 := Lib.hid (HO4.out.up hg5'.size)
                   have HD5 := Lib.hid (HD4.out.grown hg5')
                   have HW5 := Lib.hid (write_arg (A := some ⟨gq, 0, none⟩) (n := 64) (c := 64) HD5.out (.inl hat))
                   have HBW5 := Lib.hid (HBW4.out.grown hg5' (by simp))
                   have HBA5 := Lib.hid (HBA4.out.grown hg5' (by simp))
                   have HOW5 := Lib.hid (HOW4.out.up hg5'.size)
                   have HOA5 := Lib.hid (HOA4.out.up hg5'.size)
                   clear hb5 hgq hg5 hg5')
                | (go_at_call 11
                   with_reducible refine HW5.out.mono ?_
                   rintro _ w6 ⟨rfl, rfl⟩
                   have B6 := B5)
                | fail)
            go_wp2
            go_roundw
            case rel => exact ⟨k + 1, dn, L, ft, tl2, by omega, by omega, by omega, by go_num, rfl, hdn, HD5.out, HFT.out, HG5.out, HBA5.out, HOA5.out, HBW5.out, HOW5.out⟩
            case measure => simp [intOf]; omega
        · by_cases hl1 : k < l2.length
          · have d1 : decide ((k : Int) < (l2.length : Int)) = true := by simp; omega
            have d2 : decide ((k : Int) < 20) = false := by simp; omega
            go_wp2_with fail
            go_meet
            case rel => exact ⟨dn, L, ft, tl2, rfl, hdn, by omega, hd, hft, hgr, hba, hoa, hbw2, how⟩
          · have d1 : decide ((k : Int) < (l2.length : Int)) = false := by simp; omega
            go_wp2_with fail
            go_meet
            case rel => exact ⟨dn, L, ft, tl2, rfl, hdn, by omega, hd, hft, hgr, hba, hoa, hbw2, how⟩
    case rest =>
      obtain ⟨dn, L, ft, tl2, rfl, hdn, hd20, hd, hft, hgr, hba, hoa, hbw2, how⟩ := hcut
      clear HD5 HFT0 HG5 HBA HOA HBW HOW HX HX2
      have HFT := Lib.hid hft
      have HGR := Lib.hid hgr
      have HD := Lib.hid hd
      have HBA := Lib.hid hba
      have HBW := Lib.hid hbw2
      have HOW := Lib.hid how
      have HWL : Hid ((redo K0 (L.take keep.toNat)).length = 512) := redo_length (n := 8) (Fit.take hd.ok.2.2.2.1 _) HKL.out
      have hk6 : Calls Try.prog 24 #[.pointer (some ⟨p, 0, none⟩)] wc (NewBytes wc K0 512) := kept_any hd (show L.length ≤ 1048576 by have := hdn.out; omega)
      have HK6 := Lib.hid hk6
      clear hft hgr hd hba hoa hbw2 how hk6
      go_wp2_with (first
        | (go_at_call 24
           with_reducible refine HK6.out.mono ?_
           rintro e w7 ⟨gk, rfl, hk7, hgk7, hg7⟩
           have HG7 := Lib.hid (HGR.out.trans hg7)
           have HD7 := Lib.hid (HD.out.grown hg7)
           have HBW7 := Lib.hid (HBW.out.grown hg7 (by simp))
           have HOW7 := Lib.hid (HOW.out.up hg7.size)
           have HY7 := Lib.hid (bytes_yes (c := 512) (d := 512) hk7.bytes (HBA.out.grown hg7 (by simp)).bytes HKL.out HKL.out)
           have hw7 := waits_any HD7.out
           rw [show (sk K0 L).L = L from rfl, ← hdn.out] at hw7
           have HW7 := Lib.hid hw7
           have hc7 := crash_any HD7.out (show L.length ≤ 1048576 by have := hdn.out; omega) keep
           rw [sk_crash] at hc7
           have HC7 := Lib.hid hc7
           clear hk7 hgk7 hg7 hw7 hc7 HK6 HGR HD HBW HOW)
        | (go_at_call 18
           with_reducible refine HY7.out.mono ?_
           rintro e w8 ⟨rfl, rfl⟩
           clear HY7)
        | (go_at_call 23
           with_reducible refine HW7.out.mono ?_
           rintro e w8 ⟨rfl, rfl⟩
           clear HW7)
        | (go_at_call 20
           with_reducible refine HC7.out.mono ?_
           rintro e w9 ⟨rfl, hd9, hm9⟩
           have HG9 := Lib.hid (hm9.grown HG7.out HFT.out)
           have HD9 := Lib.hid hd9
           have HBW9 := Lib.hid (HBW7.out.md HOW7.out hm9)
           have hk9 : Calls Try.prog 24 #[.pointer (some ⟨p, 0, none⟩)] w9 (NewBytes w9 (redo K0 (L.take keep.toNat)) 512) := kept_any hd9 (show 0 ≤ 1048576 by omega)
           have HK9 := Lib.hid hk9
           clear hd9 hm9 hk9 HC7 HG7 HD7 HBW7 HOW7)
        | (go_at_call 24
           with_reducible refine HK9.out.mono ?_
           rintro e wa ⟨gk, rfl, hka, hgka, hga⟩
           have HGA := Lib.hid (HG9.out.trans hga)
           have HYA := Lib.hid (bytes_yes (c := 512) (d := cw) hka.bytes (HBW9.out.grown hga (by simp)).bytes_tl HWL.out HWL.out)
           have hwa := waits_any (HD9.out.grown hga)
           rw [show (sk (redo K0 (L.take keep.toNat)) []).L = [] from rfl] at hwa
           have HWA := Lib.hid hwa
           clear hka hgka hga hwa HK9 HG9 HD9 HBW9)
        | (go_at_call 18
           with_reducible refine HYA.out.mono ?_
           rintro e wb ⟨rfl, rfl⟩
           clear HYA)
        | (go_at_call 23
           with_reducible refine HWA.out.mono ?_
           rintro e wb ⟨rfl, rfl⟩
           clear HWA)
        | fail)
      go_ret
      exact ⟨rfl, HGA.out⟩
end Go.Proofs.Ytmdkpfogdbggoaa
