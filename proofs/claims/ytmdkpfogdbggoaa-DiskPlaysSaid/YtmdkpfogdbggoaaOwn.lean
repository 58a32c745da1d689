/- DiskOwn's walk: what is read is new memory, and what was written is kept as it was then. Conditions: none. -/
import Derived.Test.YtmdkpfogdbggoaaAli
namespace Go.Proofs.Ytmdkpfogdbggoaa
open Go.RowKit
theorem block64 (w : World) (kd at_ : Int) (f : UInt8) : Calls Try.prog 12 #[.agg #[.int .u8 kd, .int .i64 at_, .int .u8 (f.toNat : Int), .int .u8 64]] w (NewBytes w (fillB f 64) 64) := block_any w kd at_ f 64
theorem bytes_n {w : World} {ok ok' : Nat → Prop} {A B : Option Addr} {xs ys : List UInt8} {c d n m : Nat} (ha : Byt w ok A xs) (hb : Byt w ok' B ys) (hn : xs.length = n) (hm : ys.length = m) :
    Calls Try.prog 18 #[.slice A n c, .slice B m d] w fun e w' => e = .returned (.bool (decide (xs = ys))) ∧ w = w' := by
  subst hn hm
  exact bytes_any ha hb
theorem bytes_yes {w : World} {ok ok' : Nat → Prop} {A B : Option Addr} {xs : List UInt8} {c d n m : Nat} (ha : Byt w ok A xs) (hb : Byt w ok' B xs) (hn : xs.length = n) (hm : xs.length = m) :
    Calls Try.prog 18 #[.slice A n c, .slice B m d] w fun e w' => e = .returned (.bool true) ∧ w = w' :=
  (bytes_n ha hb hn hm).mono fun e w' ⟨he, hw⟩ => ⟨he.trans (bool_end (by simp)), hw⟩
/-- The state of the law's disk. -/
def so (f : UInt8) : St := (St.mk0 1).burn.write 0 (fillB f 64)
theorem so_read (f : UInt8) : blk (redo (so f).K (so f).L) 0 = fillB f 64 := blk_put (n := 1) (zb_length _) (by omega) (fillB_length f 64)
theorem fill_cell (f : UInt8) (n k : Nat) (hk : k < n) : (u8s (fillB f n))[k]? = some (.int .u8 ((f + UInt8.ofNat k).toNat : Int)) := by
  simp [u8s, fillB, hk]
set_option maxRecDepth 100000 in
set_option maxHeartbeats 4000000 in
theorem own_walk (w : World) (f : UInt8) : Calls Try.prog 6 #[.int .u8 (f.toNat : Int)] w fun e w' => e = .returned (.bool true) ∧ w.grownBy w' none := by
  have hf := f.toNat_lt
  have HA := Lib.hid (alive_any w)
  go_enter Try.func6, Try.ntmps6
  go_wp2_with (first
    | (go_at_call 7
       with_reducible refine HA.out.mono ?_
       rintro e w1 ⟨rfl, hg1⟩
       have HG1 := Lib.hid hg1
       have hn := new_any w1 1
       rw [show nOf 1 = 1 from rfl] at hn
       have HN := Lib.hid hn
       clear hg1 hn HA)
    | (go_at_call 8
       with_reducible refine HN.out.mono ?_
       rintro e w2 ⟨p, foot, rfl, hd2, hf2, hg2⟩
       have HD2 := Lib.hid hd2
       have HF2 : Hid (∀ k, foot k → w.heap.size ≤ k) := fun k hk => Nat.le_trans HG1.out.size (hf2 k hk)
       have HG2 := Lib.hid (HG1.out.trans hg2)
       have HB2 := Lib.hid (block64 w2 0 0 f)
       clear hd2 hf2 hg2 HN HG1)
    | (go_at_call 12
       with_reducible refine HB2.out.mono ?_
       rintro e w3 ⟨gb, rfl, hb3, hgb3, hg3⟩
       have HB3 := Lib.hid hb3
       have HD3 := Lib.hid (HD2.out.grown hg3)
       have HG3 := Lib.hid (HG2.out.trans hg3)
       have HO3 := Lib.hid (Out.new (w := w3) (foot := foot) (fun k hk => Nat.lt_of_lt_of_le (HD2.out.lt k hk) hgb3) hb3.lt)
       have HN3 : Hid (w.heap.size ≤ gb) := Nat.le_trans HG2.out.size hgb3
       have HW3 : Hid (Calls Try.prog 11 #[.pointer (some ⟨p, 0, none⟩), .int .i64 0, .slice (some ⟨gb, 0, none⟩) 64 64] w3 fun e w' => e = .returned (.int .i64 0) ∧ Nxt w3 foot p (so f) w') := write_yes (i := 0) HD3.out (by decide) hb3.bytes (fillB_length f 64) HO3.out.ok rfl (by decide)
       clear hb3 hgb3 hg3 HD2 HG2 HB2)
    | (go_at_call 11
       with_reducible refine HW3.out.mono ?_
       rintro e w4 ⟨rfl, foot4, hd4, hf4, hm4⟩
       have HD4 := Lib.hid hd4
       have HF4 : Hid (∀ k, foot4 k → w.heap.size ≤ k) := fun k hk => (hf4 k hk).elim (HF2.out k) (fun h => Nat.le_trans HG3.out.size h.1)
       have HG4 := Lib.hid (hm4.grown HG3.out HF2.out)
       have HO4 := Lib.hid (HO3.out.nxt hf4 hm4)
       have hb4 := HB3.out.md HO3.out hm4
       obtain ⟨v4, hv4, c4⟩ : ∃ v4 : Nat, v4 < 256 ∧ w4.cell? ⟨gb, 3, none⟩ = some (.int .u8 (v4 : Int)) := ⟨_, (f + UInt8.ofNat 3).toNat_lt, hb4.get 3 _ (fill_cell f 64 3 (by omega))⟩
       have HB4 := Lib.hid hb4
       clear hd4 hf4 hm4 hb4 HB3 HD3 HG3 HO3 HW3 HF2)
    | (refine wpList_store_cell rfl 5 _ _ rfl size5 gb 3 (.int .u8 (((v4 : Nat) + 1 : Int) % 256)) rfl rfl rfl _ _ HB4.out (by rw [u8s_length, fillB_length]; omega) ?_
       intro w5 k5 r5
       have HD5 := Lib.hid (HD4.out.md (Md.of_wr r5.out (foot := fun k => k = gb) rfl) (fun k hk e => HO4.out.no (e ▸ hk)))
       have HG5 : Hid (w.grownBy w5 none) := World.grownBy.andThen HG4.out r5.out.grown (by have := HN3.out; rintro j ⟨⟩; exact .inl this)
       have hr5 : Calls Try.prog 16 #[.pointer (some ⟨p, 0, none⟩), .int .i64 0] w5 (ReadOk w5 (blk (redo (so f).K (so f).L) 0)) := read_yes (i := 0) HD5.out (show 0 < 1 by omega) rfl
       rw [so_read] at hr5
       have HR5 := Lib.hid hr5
       clear k5 r5 hr5 c4 hv4 HB4 HD4 HG4 HO4 HN3)
    | (go_at_call 16
       with_reducible refine HR5.out.mono ?_
       rintro e w6 ⟨gx, rfl, hx6, hgx6, hg6⟩
       have HX6 := Lib.hid hx6
       have HD6 := Lib.hid (HD5.out.grown hg6)
       have HG6 := Lib.hid (HG5.out.trans hg6)
       have HO6 := Lib.hid (Out.new (w := w6) (foot := foot4) (fun k hk => Nat.lt_of_lt_of_le (HD5.out.lt k hk) hgx6) hx6.lt)
       have HN6 : Hid (w.heap.size ≤ gx) := Nat.le_trans HG5.out.size hgx6
       obtain ⟨v6, hv6, c6⟩ : ∃ v6 : Nat, v6 < 256 ∧ w6.cell? ⟨gx, 5, none⟩ = some (.int .u8 (v6 : Int)) := ⟨_, (f + UInt8.ofNat 5).toNat_lt, hx6.get 5 _ (fill_cell f 64 5 (by omega))⟩
       clear hx6 hgx6 hg6 HR5 HD5 HG5)
    | (refine wpList_store_cell rfl 5 _ _ rfl size5 gx 5 (.int .u8 (((v6 : Nat) + 1 : Int) % 256)) rfl rfl rfl _ _ HX6.out (by rw [u8s_length, fillB_length]; omega) ?_
       intro w7 k7 r7
       have HD7 := Lib.hid (HD6.out.md (Md.of_wr r7.out (foot := fun k => k = gx) rfl) (fun k hk e => HO6.out.no (e ▸ hk)))
       have HG7 : Hid (w.grownBy w7 none) := World.grownBy.andThen HG6.out r7.out.grown (by have := HN6.out; rintro j ⟨⟩; exact .inl this)
       have hk7 : Calls Try.prog 24 #[.pointer (some ⟨p, 0, none⟩)] w7 (NewBytes w7 (zb 64) 64) := kept_any HD7.out (show 1 ≤ 1048576 by omega)
       have HK7 := Lib.hid hk7
       clear k7 r7 hk7 c6 hv6 HX6 HD6 HG6 HO6 HN6)
    | (go_at_call 24
       with_reducible refine HK7.out.mono ?_
       rintro e w8 ⟨gk, rfl, hk8, hgk8, hg8⟩
       have HK8 := Lib.hid hk8
       have HD8 := Lib.hid (HD7.out.grown hg8)
       have HG8 := Lib.hid (HG7.out.trans hg8)
       have HO8 := Lib.hid (Out.new (w := w8) (foot := foot4) (fun k hk => Nat.lt_of_lt_of_le (HD7.out.lt k hk) hgk8) hk8.lt)
       have HN8 : Hid (w.heap.size ≤ gk) := Nat.le_trans HG7.out.size hgk8
       have c8 : w8.cell? ⟨gk, 0, none⟩ = some (.int .u8 0) := hk8.get 0 _ rfl
       clear hk8 hgk8 hg8 HK7 HD7 HG7)
    | (refine wpList_store_cell rfl 5 _ _ rfl size5 gk 0 (.int .u8 1) rfl rfl rfl _ _ HK8.out (by rw [u8s_length, zb_length]; omega) ?_
       intro w9 k9 r9
       have HD9 := Lib.hid (HD8.out.md (Md.of_wr r9.out (foot := fun k => k = gk) rfl) (fun k hk e => HO8.out.no (e ▸ hk)))
       have HG9 : Hid (w.grownBy w9 none) := World.grownBy.andThen HG8.out r9.out.grown (by have := HN8.out; rintro j ⟨⟩; exact .inl this)
       have hr9 : Calls Try.prog 16 #[.pointer (some ⟨p, 0, none⟩), .int .i64 0] w9 (ReadOk w9 (blk (redo (so f).K (so f).L) 0)) := read_yes (i := 0) HD9.out (show 0 < 1 by omega) rfl
       rw [so_read] at hr9
       have HR9 := Lib.hid hr9
       clear k9 r9 hr9 c8 HK8 HD8 HG8 HO8 HN8)
    | (go_at_call 16
       with_reducible refine HR9.out.mono ?_
       rintro e wa ⟨gy, rfl, hya, hgya, hga⟩
       have HYA := Lib.hid hya
       have HGA := Lib.hid (HG9.out.trans hga)
       have HBA := Lib.hid (block64 wa 0 0 f)
       clear hya hgya hga HR9 HD9 HG9)
    | (go_at_call 12
       with_reducible refine HBA.out.mono ?_
       rintro e wb ⟨gz, rfl, hzb, hgzb, hgb⟩
       have HGB := Lib.hid (HGA.out.trans hgb)
       have HYY := Lib.hid (bytes_yes (c := 64) (d := 64) (HYA.out.grown hgb (by simp)).bytes hzb.bytes (fillB_length f 64) (fillB_length f 64))
       clear hzb hgzb hgb HBA HYA HGA)
    | (go_at_call 18
       with_reducible refine HYY.out.mono ?_
       rintro e wc ⟨rfl, rfl⟩)
    | fail)
  go_ret
  exact ⟨rfl, HGB.out⟩
end Go.Proofs.Ytmdkpfogdbggoaa
