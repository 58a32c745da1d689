/- The laws' example: alive answers true. Conditions: none. -/
import Derived.Test.YtmdkpfogdbggoaaBlo
import Derived.RegionTactic
import Derived.BigRegion
import Derived.Deep.CutRange
namespace Go.Proofs.Ytmdkpfogdbggoaa
open Go.RowKit
/-- Block x is there, and none of those of 'foot'. -/
structure Out (w : World) (foot : Nat → Prop) (x : Nat) : Prop where
  lt : x < w.heap.size
  no : ¬ foot x
section
variable {foot foot' : Nat → Prop} {w w' : World} {x : Nat} {ty : TypeId} {cs : List Value}
theorem Out.nxt (h : Out w foot x) (hf : ∀ k, foot' k → foot k ∨ (w.heap.size ≤ k ∧ k < w'.heap.size)) (hm : Md foot w w') : Out w' foot' x :=
  ⟨Nat.lt_of_lt_of_le h.lt hm.size, fun hx => by rcases hf x hx with h1 | h1; exact h.no h1; have := h.lt; omega⟩
theorem Out.up (h : Out w foot x) (hs : w.heap.size ≤ w'.heap.size) : Out w' foot x := ⟨Nat.lt_of_lt_of_le h.lt hs, h.no⟩
theorem Out.new (h : ∀ k, foot k → k < x) (hx : x < w.heap.size) : Out w foot x := ⟨hx, fun hf => Nat.lt_irrefl _ (h x hf)⟩
theorem Blk.md (h : Blk w x ty cs) (ho : Out w foot x) (hm : Md foot w w') : Blk w' x ty cs := h.keep (hm.block x ho.lt ho.no)
theorem Blk.bytes {xs : List UInt8} (h : Blk w x ty (u8s xs)) : Byt w (fun b => b = x) (some ⟨x, 0, none⟩) xs := Blk.byt (pre := []) (post := []) (by simpa using h) rfl
/-- A block that the call may write: what Write asks of it. -/
theorem Out.ok (h : Out w foot x) : ∀ k, k = x → k < w.heap.size ∧ ¬ foot k := by rintro k rfl; exact ⟨h.lt, h.no⟩
end
/-- 64 bytes: the first one x, then zeros. -/
def first (x : UInt8) : List UInt8 := x :: zb 63
theorem first_length (x : UInt8) : (first x).length = 64 := by simp [first, zb]
theorem set_first (x : UInt8) : (u8s (zb 64)).set 0 (.int .u8 (x.toNat : Int)) = u8s (first x) := by
  have : zb 64 = 0 :: zb 63 := by simp [zb, List.replicate_succ]
  rw [this]
  simp [u8s, first]
/-- Two slices of 64 zeros, in new memory. -/
def TwoZ (w : World) (x y : Value) (w' : World) : Prop :=
  ∃ ga gb, x = .slice (some ⟨ga, 0, none⟩) 64 64 ∧ y = .slice (some ⟨gb, 0, none⟩) 64 64 ∧ Blk w' ga 5 (u8s (zb 64)) ∧ Blk w' gb 5 (u8s (zb 64)) ∧ ga ≠ gb ∧ w.heap.size ≤ ga ∧ w.heap.size ≤ gb ∧ w.grownBy w' none
theorem twoZ_a (w : World) : TwoZ w (.slice (some ⟨w.heap.size, 0, none⟩) 64 64) (.slice (some ⟨w.heap.size + 1, 0, none⟩) 64 64) ((w.drew.alloc (.cells (u8s (zb 64)).toArray 5)).alloc (.cells (u8s (zb 64)).toArray 5)) :=
  ⟨_, _, rfl, rfl, heap_alloc2_old w.drew _ _, heap_alloc2_new w.drew _ _, by omega, Nat.le_refl _, by omega, ((grown_drewN 1 : w.grownBy w.drew none).trans (World.grownBy_alloc _ _ _)).trans (World.grownBy_alloc _ _ _)⟩
theorem twoZ_b (w : World) : TwoZ w (.slice (some ⟨w.heap.size + 1, 0, none⟩) 64 64) (.slice (some ⟨w.heap.size, 0, none⟩) 64 64) ((w.drew.alloc (.cells (u8s (zb 64)).toArray 5)).alloc (.cells (u8s (zb 64)).toArray 5)) :=
  ⟨_, _, rfl, rfl, heap_alloc2_new w.drew _ _, heap_alloc2_old w.drew _ _, by omega, by omega, Nat.le_refl _, ((grown_drewN 1 : w.grownBy w.drew none).trans (World.grownBy_alloc _ _ _)).trans (World.grownBy_alloc _ _ _)⟩
/-- The states of the example. -/
def s1 : St := (St.mk0 2).burn.write 0 (first 1)
def s2 : St := s1.burn.write 1 (first 2)
def s3 : St := s2.crash 1
def s4 : St := s3.fuse 1
def s5 : St := s4.burn.write 0 (first 2)
theorem goes0 : (St.mk0 2).goes = true := rfl
theorem goes1 : s1.goes = true := rfl
theorem goes4 : s4.goes = true := rfl
theorem sync5 : s5.syncE = 150 := rfl
theorem dead5 : s5.synced.dead = true := rfl
theorem read30 : blk (redo s3.K s3.L) 0 = first 1 := by decide +kernel
theorem read31 : blk (redo s3.K s3.L) 1 = zb 64 := by decide +kernel
set_option maxRecDepth 100000 in
set_option maxHeartbeats 4000000 in
theorem alive_any (w : World) : Calls Try.prog 7 #[] w fun e w' => e = .returned (.bool true) ∧ w.grownBy w' none := by
  have hN := new_any w 2
  rw [show nOf 2 = 2 from rfl] at hN
  have HN := Lib.hid hN
  clear hN
  have hmk := run_make64
  go_enter Try.func7, Try.ntmps7
  go_wp2_with (first | (go_at_call 8; refine HN.out.mono ?_; rintro e w1 ⟨p, foot, rfl, hd1, hf1, hg1⟩; have HD1 := Lib.hid hd1; have HF1 := Lib.hid hf1; have HG1 := Lib.hid hg1; clear hd1 hf1 hg1) | fail)
  go_cut [2, 3] from 13 to 14 (fun x y wx => TwoZ w1 x y wx)
  case first =>
    go_region
    all_goals
      go_wp2_with (fail)
      go_meet
      case rel => first | exact twoZ_a w1 | exact twoZ_b w1
  case rest =>
    obtain ⟨ga, gb, rfl, rfl, ha, hb, hab, hga, hgb, hg⟩ := hcut
    have HA := Lib.hid ha
    have HB := Lib.hid hb
    have HAB : Hid (ga ≠ gb ∧ w.heap.size ≤ ga ∧ w.heap.size ≤ gb) := ⟨hab, Nat.le_trans HG1.out.size hga, Nat.le_trans HG1.out.size hgb⟩
    have HD2 := Lib.hid (HD1.out.grown hg)
    have HOA := Lib.hid (Out.new (w := wc) (foot := foot) (fun k hk => Nat.lt_of_lt_of_le (HD1.out.lt k hk) hga) ha.lt)
    have HOB := Lib.hid (Out.new (w := wc) (foot := foot) (fun k hk => Nat.lt_of_lt_of_le (HD1.out.lt k hk) hgb) hb.lt)
    have HG2 := Lib.hid (HG1.out.trans hg)
    clear ha hb hab hga hgb hg HD1 HG1 hmk
    go_wp2_with (first
      | (refine wpList_store_cell rfl 5 _ _ rfl size5 ga 0 (.int .u8 1) rfl rfl rfl _ _ HA.out (by simp [u8s_length, zb_length]) ?_
         intro wa ka ra
         have HA3 : Hid (Blk wa ga 5 (u8s (first 1))) := by rw [← set_first]; exact ka.out
         have HB3 := Lib.hid (HB.out.grown ra.out.grown (by have := HAB.out.1; simp; omega))
         have HD3 := Lib.hid (HD2.out.md (Md.of_wr ra.out (foot := fun k => k = ga) rfl) (fun k hk e => HOA.out.no (e ▸ hk)))
         have HG3 : Hid (w.grownBy wa none) := World.grownBy.andThen HG2.out ra.out.grown (by have := HAB.out.2.1; rintro j ⟨⟩; exact .inl this)
         have HOA3 := Lib.hid (HOA.out.up (Nat.le_of_eq ra.out.size.symm))
         have HOB3 := Lib.hid (HOB.out.up (Nat.le_of_eq ra.out.size.symm))
         clear ka ra HA HB HD2 HG2 HOA HOB)
      | (refine wpList_store_cell rfl 5 _ _ rfl size5 gb 0 (.int .u8 2) rfl rfl rfl _ _ HB3.out (by simp [u8s_length, zb_length]) ?_
         intro wb kb rb
         have HB4 : Hid (Blk wb gb 5 (u8s (first 2))) := by rw [← set_first]; exact kb.out
         have HA4 := Lib.hid (HA3.out.grown rb.out.grown (by have := HAB.out.1; simp; omega))
         have HD4 := Lib.hid (HD3.out.md (Md.of_wr rb.out (foot := fun k => k = gb) rfl) (fun k hk e => HOB3.out.no (e ▸ hk)))
         have HG4 : Hid (w.grownBy wb none) := World.grownBy.andThen HG3.out rb.out.grown (by have := HAB.out.2.2; rintro j ⟨⟩; exact .inl this)
         have HOA4 := Lib.hid (HOA3.out.up (Nat.le_of_eq rb.out.size.symm))
         have HOB4 := Lib.hid (HOB3.out.up (Nat.le_of_eq rb.out.size.symm))
         have HW4 : Hid (Calls Try.prog 11 #[.pointer (some ⟨p, 0, none⟩), .int .i64 0, .slice (some ⟨ga, 0, none⟩) 64 64] wb fun e w' => e = .returned (.int .i64 0) ∧ Nxt wb foot p s1 w') := write_yes (i := 0) HD4.out (by decide) HA4.out.bytes (first_length 1) HOA4.out.ok goes0 (by decide)
         clear kb rb HA3 HB3 HD3 HG3 HOA3 HOB3)
      | (go_at_call 11
         with_reducible refine HW4.out.mono ?_
         rintro e wd ⟨rfl, foot5, hd5, hf5, hm5⟩
         have HD5 := Lib.hid hd5
         have HF5 : Hid (∀ k, foot5 k → w.heap.size ≤ k) := fun k hk => (hf5 k hk).elim (HF1.out k) (fun h => Nat.le_trans HG4.out.size h.1)
         have HG5 := Lib.hid (hm5.grown HG4.out HF1.out)
         have HOB5 := Lib.hid (HOB4.out.nxt hf5 hm5)
         have HB5 := Lib.hid (HB4.out.md HOB4.out hm5)
         have HW5 : Hid (Calls Try.prog 11 #[.pointer (some ⟨p, 0, none⟩), .int .i64 1, .slice (some ⟨gb, 0, none⟩) 64 64] wd fun e w' => e = .returned (.int .i64 0) ∧ Nxt wd foot5 p s2 w') := write_yes (i := 1) hd5 (by decide) HB5.out.bytes (first_length 2) HOB5.out.ok goes1 (by decide)
         clear hd5 hf5 hm5 HW4 HD4 HG4 HOA4 HOB4 HB4 HA4 HF1)
      | (go_at_call 11
         with_reducible refine HW5.out.mono ?_
         rintro e we ⟨rfl, foot6, hd6, hf6, hm6⟩
         have HF6 : Hid (∀ k, foot6 k → w.heap.size ≤ k) := fun k hk => (hf6 k hk).elim (HF5.out k) (fun h => Nat.le_trans HG5.out.size h.1)
         have HG6 := Lib.hid (hm6.grown HG5.out HF5.out)
         have HOB6 := Lib.hid (HOB5.out.nxt hf6 hm6)
         have HB6 := Lib.hid (HB5.out.md HOB5.out hm6)
         have HC6 : Hid (Calls Try.prog 20 #[.pointer (some ⟨p, 0, none⟩), .int .i64 1] we fun e w' => e = .returned (.tuple #[]) ∧ Dsk w' foot6 p s3 ∧ Md foot6 we w') := crash_any hd6 (by decide) 1
         clear hd6 hf6 hm6 HW5 HD5 HG5 HOB5 HB5 HF5)
      | (go_at_call 20
         with_reducible refine HC6.out.mono ?_
         rintro e wf ⟨rfl, hd7, hm7⟩
         have HG7 := Lib.hid (hm7.grown HG6.out HF6.out)
         have HOB7 := Lib.hid (HOB6.out.up hm7.size)
         have HB7 := Lib.hid (HB6.out.md HOB6.out hm7)
         have HD7 := Lib.hid hd7
         have hr7 : Calls Try.prog 16 #[.pointer (some ⟨p, 0, none⟩), .int .i64 0] wf (ReadOk wf (blk (redo s3.K s3.L) 0)) := read_yes (i := 0) hd7 (by decide) rfl
         rw [read30] at hr7
         have HR7 := Lib.hid hr7
         clear hd7 hm7 hr7 HC6 HG6 HOB6 HB6)
      | (go_at_call 16
         with_reducible refine HR7.out.mono ?_
         rintro e wg ⟨gx, rfl, hx8, hgx8, hg8⟩
         have HX8 := Lib.hid hx8
         have HG8 := Lib.hid (HG7.out.trans hg8)
         have HOB8 := Lib.hid (HOB7.out.up hg8.size)
         have HB8 := Lib.hid (HB7.out.grown hg8 (by simp))
         have hd8 := HD7.out.grown hg8
         have HD8 := Lib.hid hd8
         have HOX8 := Lib.hid (Out.new (w := wg) (foot := foot6) (fun k hk => Nat.lt_of_lt_of_le (HD7.out.lt k hk) hgx8) hx8.lt)
         have hr8 : Calls Try.prog 16 #[.pointer (some ⟨p, 0, none⟩), .int .i64 1] wg (ReadOk wg (blk (redo s3.K s3.L) 1)) := read_yes (i := 1) hd8 (by decide) rfl
         rw [read31] at hr8
         have HR8 := Lib.hid hr8
         clear hx8 hgx8 hg8 hd8 hr8 HR7 HG7 HOB7 HB7 HD7)
      | (go_at_call 16
         with_reducible refine HR8.out.mono ?_
         rintro e wh ⟨gy, rfl, hy9, hgy9, hg9⟩
         have HY9 := Lib.hid hy9
         have HX9 := Lib.hid (HX8.out.grown hg9 (by simp))
         have HG9 := Lib.hid (HG8.out.trans hg9)
         have HOB9 := Lib.hid (HOB8.out.up hg9.size)
         have HOX9 := Lib.hid (HOX8.out.up hg9.size)
         have HB9 := Lib.hid (HB8.out.grown hg9 (by simp))
         have HOY9 := Lib.hid (Out.new (w := wh) (foot := foot6) (fun k hk => Nat.lt_of_lt_of_le (HD8.out.lt k hk) hgy9) hy9.lt)
         have HU9 : Hid (Calls Try.prog 19 #[.pointer (some ⟨p, 0, none⟩), .int .i64 1] wh fun e w' => e = .returned (.tuple #[]) ∧ Dsk w' foot6 p s4 ∧ Md foot6 wh w') := fuse_any (HD8.out.grown hg9) 1 (by decide) (by decide)
         clear hy9 hgy9 hg9 HR8 HX8 HG8 HOB8 HB8 HD8 HOX8)
      | (go_at_call 19
         with_reducible refine HU9.out.mono ?_
         rintro e wi ⟨rfl, hd10, hm10⟩
         have HG10 := Lib.hid (hm10.grown HG9.out HF6.out)
         have HOB10 := Lib.hid (HOB9.out.up hm10.size)
         have HB10 := Lib.hid (HB9.out.md HOB9.out hm10)
         have hx10 := HX9.out.md HOX9.out hm10
         have hy10 := HY9.out.md HOY9.out hm10
         have cx : wi.cell? ⟨gx, 0, none⟩ = some (.int .u8 1) := hx10.get 0 _ rfl
         have cy : wi.cell? ⟨gy, 0, none⟩ = some (.int .u8 0) := hy10.get 0 _ rfl
         have HW10 : Hid (Calls Try.prog 11 #[.pointer (some ⟨p, 0, none⟩), .int .i64 0, .slice (some ⟨gb, 0, none⟩) 64 64] wi fun e w' => e = .returned (.int .i64 0) ∧ Nxt wi foot6 p s5 w') := write_yes (i := 0) hd10 (by decide) HB10.out.bytes (first_length 2) HOB10.out.ok goes4 (by decide)
         clear hd10 hm10 hx10 hy10 HU9 HX9 HY9 HG9 HOB9 HB9 HOX9 HOY9)
      | (go_at_call 11
         with_reducible refine HW10.out.mono ?_
         rintro e wj ⟨rfl, foot11, hd11, hf11, hm11⟩
         have HF11 : Hid (∀ k, foot11 k → w.heap.size ≤ k) := fun k hk => (hf11 k hk).elim (HF6.out k) (fun h => Nat.le_trans HG10.out.size h.1)
         have HG11 := Lib.hid (hm11.grown HG10.out HF6.out)
         have hs11 := sync_any hd11
         rw [sync5] at hs11
         have HS11 := Lib.hid hs11
         clear hd11 hf11 hm11 hs11 HW10 HG10 cx cy)
      | (go_at_call 14
         with_reducible refine HS11.out.mono ?_
         rintro e wk ⟨rfl, hd12, hm12⟩
         have HG12 := Lib.hid (hm12.grown HG11.out HF11.out)
         have hs12 := dead_any hd12
         rw [dead5] at hs12
         have HS12 := Lib.hid hs12
         clear hd12 hm12 hs12 HS11 HG11)
      | (go_at_call 22
         with_reducible refine HS12.out.mono ?_
         rintro e wl ⟨rfl, rfl⟩)
      | fail)
    go_ret
    exact ⟨rfl, HG12.out⟩
end Go.Proofs.Ytmdkpfogdbggoaa
