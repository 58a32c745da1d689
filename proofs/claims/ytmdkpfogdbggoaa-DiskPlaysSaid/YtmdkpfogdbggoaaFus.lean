/- DiskFuses' walk: behind a fuse of n just n calls that write or sync are done. Conditions: none. -/
import Derived.Test.YtmdkpfogdbggoaaOps
namespace Go.Proofs.Ytmdkpfogdbggoaa
open Go.RowKit
/-- The law's disk when k calls have come. -/
structure FI (most k : Nat) (s : St) : Prop where
  n : s.n = 4
  live : k ≤ most → s.f = (most : Int) - k ∧ s.dead = false
  gone : most < k → s.dead = true
  len : s.L.length ≤ k
theorem FI.goes {most k : Nat} {s : St} (h : FI most k s) : s.goes = decide (k < most) := by
  unfold St.goes
  by_cases h1 : k ≤ most
  · obtain ⟨h2, h3⟩ := h.live h1
    rw [h3, h2]
    by_cases h4 : k < most
    · have : ((most : Int) - k == 0) = false := by simp; omega
      simp [this, h4]
    · have : ((most : Int) - k == 0) = true := by simp; omega
      simp [this, h4]
  · rw [h.gone (by omega)]
    simp
    omega
theorem FI.burn_live {most k : Nat} {s : St} (h : FI most k s) (hk : k < most) : s.burn.f = (most : Int) - (k + 1 : Nat) ∧ s.burn.dead = false := by
  obtain ⟨h2, h3⟩ := h.live (by omega)
  have hg := h.goes
  constructor
  · show (if s.goes = true ∧ 0 < s.f then s.f - 1 else s.f) = _
    rw [if_pos ⟨by rw [hg]; simpa using hk, by omega⟩]
    omega
  · show (s.dead || s.f == 0) = false
    rw [h3]
    simp
    omega
theorem FI.burn_gone {most k : Nat} {s : St} (h : FI most k s) (hk : ¬ k < most) : s.burn.dead = true := by
  show (s.dead || s.f == 0) = true
  by_cases h1 : k ≤ most
  · obtain ⟨h2, h3⟩ := h.live h1
    rw [h2]
    have : ((most : Int) - k == 0) = true := by simp; omega
    simp [this]
  · rw [h.gone (by omega)]
    rfl
theorem FI.wrote {most k : Nat} {s : St} (h : FI most k s) (hk : k < most) (i : Nat) (b : List UInt8) : FI most (k + 1) (s.burn.write i b) :=
  ⟨h.n, fun _ => h.burn_live hk, fun hh => by omega, by have := h.len; simp [St.write, St.burn]; omega⟩
theorem FI.synced {most k : Nat} {s : St} (h : FI most k s) : FI most (k + 1) s.synced := by
  unfold St.synced
  by_cases hk : k < most
  · rw [if_pos (by rw [h.goes]; simpa using hk)]
    exact ⟨h.n, fun _ => h.burn_live hk, fun hh => by omega, by simp [St.sync]⟩
  · rw [if_neg (by rw [h.goes]; simpa using hk)]
    exact ⟨h.n, fun hh => by omega, fun _ => h.burn_gone hk, Nat.le_trans h.len (by omega)⟩
theorem FI.burnt {most k : Nat} {s : St} (h : FI most k s) (hk : ¬ k < most) : FI most (k + 1) s.burn :=
  ⟨h.n, fun hh => by omega, fun _ => h.burn_gone hk, Nat.le_trans h.len (by omega)⟩
theorem FI.syncE {most k : Nat} {s : St} (h : FI most k s) : s.syncE = if k < most then 0 else 150 := by
  unfold St.syncE
  rw [h.goes]
  by_cases hk : k < most <;> simp [hk]
theorem FI.start (most : Nat) : FI most 0 ((St.mk0 4).fuse most) := ⟨rfl, fun _ => ⟨by simp [St.fuse], rfl⟩, fun h => by omega, by simp [St.fuse, St.mk0]⟩
theorem run_index22 (w : World) (g o n c i : Nat) (hi : i < n) : (Instr.indexAt 22 (.slice (some ⟨g, o, none⟩) n c) (.int .i64 (i : Int))).run Try.prog w = .ok (.pointer (some ⟨g, o + 4 * i, none⟩)) w := by
  have h := run_indexAt_slice (P := Try.prog) w 22 ⟨g, o, none⟩ n c .i64 (i : Int) (by kernel_rfl)
  have hc : (0 : Int) ≤ (i : Int) ∧ (i : Int) < (n : Int) := by omega
  have hs : (sizeOf (Try.prog.elem 22)).run Try.prog w = .ok 4 w := by kernel_rfl
  rw [if_pos hc, hs] at h
  rw [h]
  simp [Addr.add_mid, Nat.mul_comm]
theorem fill_mod (f : UInt8) : ((f.toNat % 4 : Nat) : Int) = IntKind.i64.wrap ((f.toNat : Int).tmod 4) := by
  have h : (f.toNat : Int).tmod 4 = ((f.toNat % 4 : Nat) : Int) := by rw [Int.tmod_eq_emod_of_nonneg (by omega)]; omega
  rw [h, IntWalk.i64_in _ (by omega)]
/-- The result of a call that writes or syncs, and the state behind it. -/
def Goes (V : World) (ft : Nat → Prop) (p most k : Nat) (r : Int) (e : Ending) (w' : World) : Prop := e = .returned (.int .i64 r) ∧ ∃ s', FI most (k + 1) s' ∧ Nxt V ft p s' w'
theorem Nxt.of {V : World} {ft : Nat → Prop} {p : Nat} {s : St} {w' : World} (hd : Dsk w' ft p s) (hm : Md ft V w') : Nxt V ft p s w' := ⟨ft, hd, fun _ hk => .inl hk, hm⟩
theorem law_write {V : World} {ft : Nat → Prop} {p most k : Nat} {s : St} (hd : Dsk V ft p s) (hfi : FI most k s) (hk : k ≤ 40) {gq i : Nat} {b : List UInt8} (hb : Blk V gq 5 (u8s b)) (hl : b.length = 64) (hO : Out V ft gq) (hi : i < 4) {r : Int} (hr : (if k < most then 0 else 150) = r) {a : Int} (ha : (i : Int) = a) :
    Calls Try.prog 11 #[.pointer (some ⟨p, 0, none⟩), .int .i64 a, .slice (some ⟨gq, 0, none⟩) 64 64] V (Goes V ft p most k r) := by
  subst ha hr
  by_cases hkm : k < most
  · rw [if_pos hkm]
    exact (write_yes hd (by rw [hfi.n]; exact hi) hb.bytes hl hO.ok (by rw [hfi.goes]; simpa using hkm) (by have := hfi.len; omega)).mono fun e w' ⟨he, hn⟩ => ⟨he, _, hfi.wrote hkm i b, hn⟩
  · rw [if_neg hkm]
    exact (write_dead hd (by rw [hfi.n]; exact hi) (by rw [hfi.goes]; simpa using hkm)).mono fun e w' ⟨he, h1, h2⟩ => ⟨he, _, hfi.burnt hkm, Nxt.of h1 h2⟩
theorem law_sync {V : World} {ft : Nat → Prop} {p most k : Nat} {s : St} (hd : Dsk V ft p s) (hfi : FI most k s) {r : Int} (hr : (if k < most then 0 else 150) = r) :
    Calls Try.prog 14 #[.pointer (some ⟨p, 0, none⟩)] V (Goes V ft p most k r) := by
  subst hr
  exact (sync_any hd).mono fun e w' ⟨he, h1, h2⟩ => ⟨by rw [he, hfi.syncE], _, hfi.synced, Nxt.of h1 h2⟩
theorem FI.dead_of {most k : Nat} {s : St} (h : FI most (k + 1) s) (hk : ¬ k < most) : s.dead = true := h.gone (by omega)
theorem box_cells {W : World} {g : Nat} {ty : TypeId} {a b c d : Value} (h : Blk W g ty [a, b, c, d]) : W.cell? ⟨g, 0, none⟩ = some a ∧ W.cell? ⟨g, 1, none⟩ = some b ∧ W.cell? ⟨g, 2, none⟩ = some c ∧ W.cell? ⟨g, 3, none⟩ = some d :=
  ⟨h.get 0 _ rfl, h.get 1 _ rfl, h.get 2 _ rfl, h.get 3 _ rfl⟩
set_option maxRecDepth 100000 in
set_option maxHeartbeats 4000000 in
theorem fuses_walk (w : World) (n : Nat) (hn : n < 256) {A : Option Addr} {l : List OpR} {c : Nat} (hx : Ops w (fun b => b < w.heap.size) A l) (hm : l.length ≤ maxLen) :
    Calls Try.prog 5 #[.int .u8 (n : Int), .slice A l.length c] w fun e w' => e = .returned (.bool true) ∧ w.grownBy w' none := by
  unfold maxLen at hm
  have HA := Lib.hid (alive_any w)
  have HX := Lib.hid hx
  obtain ⟨most, hmost⟩ : ∃ most : Nat, most = n % 12 := ⟨_, rfl⟩
  have hm12 : most < 12 := by omega
  have hmi : (n : Int) % 12 = (most : Int) := by omega
  clear hx hmost
  go_enter Try.func5, Try.ntmps5
  go_wp2_with (first
    | (go_at_call 7
       with_reducible refine HA.out.mono ?_
       rintro e w1 ⟨rfl, hg1⟩
       have HG1 := Lib.hid hg1
       have hn := new_any w1 4
       rw [show nOf 4 = 4 from rfl] at hn
       have HN := Lib.hid hn
       clear hg1 hn HA)
    | (go_at_call 8
       with_reducible refine HN.out.mono ?_
       rintro e w2 ⟨p, foot, rfl, hd2, hf2, hg2⟩
       have HF2 : Hid (∀ k, foot k → w.heap.size ≤ k) := fun k hk => Nat.le_trans HG1.out.size (hf2 k hk)
       have HG2 := Lib.hid (HG1.out.trans hg2)
       have HU2 := Lib.hid (fuse_any hd2 (most : Int) (by omega) (by omega))
       clear hd2 hf2 hg2 HN HG1)
    | (go_at_call 19
       with_reducible refine HU2.out.mono ?_
       rintro e w3 ⟨rfl, hd3, hm3⟩
       have HD3 := Lib.hid hd3
       have HG3 := Lib.hid (hm3.grown HG2.out HF2.out)
       clear hd3 hm3 HU2 HG2)
    | fail)
  go_loopw [7, 8] (fun vd vi wr => ∃ (k dn : Nat) (s : St) (ft : Nat → Prop), k ≤ l.length ∧ k ≤ 40 ∧ vi = .int .i64 (k : Int) ∧ vd = .int .i64 (dn : Int) ∧ Hid (dn = min k most) ∧ Dsk wr ft p s ∧ FI most k s ∧ (∀ b, ft b → w.heap.size ≤ b) ∧ w.grownBy wr none) (fun _ vi _ => 40 - (intOf vi).toNat)
  case atStart => exact ⟨0, 0, _, foot, Nat.zero_le _, by omega, rfl, rfl, Lib.hid (by omega), HD3.out, FI.start most, HF2.out, HG3.out⟩
  case round =>
    clear HD3 HF2 HG3
    obtain ⟨k, dn, s, ft, hk, hk40, rfl, rfl, hdn, hd, hfi, hft, hgr⟩ := hrel
    obtain ⟨wo, rfl⟩ : ∃ wo : World, wo = wr := ⟨_, rfl⟩
    have HD := Lib.hid hd
    have HFI := Lib.hid hfi
    have HFT := Lib.hid hft
    have HGR := Lib.hid hgr
    have hdn40 : dn ≤ 40 := by have := hdn.out; omega
    by_cases hlt : k < l.length ∧ k < 40
    · obtain ⟨hl1, hl2⟩ := hlt
      have d1 : decide ((k : Int) < (l.length : Int)) = true := by simp; omega
      have d2 : decide ((k : Int) < 40) = true := by simp; omega
      obtain ⟨b, o, rfl, hbw, hrg⟩ := HX.out k hl1
      have hrg' : wo.rangeAt b (o + 4 * k) (opC l[k]) := fun q v hv => (World.cell?_of_block (hgr.block b hbw (by simp))).trans (hrg q v hv)
      have hix := fun w => run_index22 w b o l.length c k hl1
      obtain ⟨x, hx⟩ : ∃ x, x = l[k] := ⟨_, rfl⟩
      rw [← hx] at hrg'
      have a0 : wo.cell? ⟨b, o + 4 * k, none⟩ = some (.int .u8 (x.kd.toNat : Int)) := hrg' 0 _ rfl
      have a1 : wo.cell? ⟨b, o + 4 * k + 1, none⟩ = some (.int .i64 x.at_) := hrg' 1 _ rfl
      have a2 : wo.cell? ⟨b, o + 4 * k + 2, none⟩ = some (.int .u8 (x.f.toNat : Int)) := hrg' 2 _ rfl
      have a3 : wo.cell? ⟨b, o + 4 * k + 3, none⟩ = some (.int .u8 (x.sz.toNat : Int)) := hrg' 3 _ rfl
      have hkd := x.kd.toNat_lt
      have hf := x.f.toNat_lt
      have hsz := x.sz.toNat_lt
      have hlo := x.lo
      have hhi := x.hi
      have HB4 : Hid (Blk (wo.alloc (.cells #[.int .u8 (x.kd.toNat : Int), .int .i64 x.at_, .int .u8 (x.f.toNat : Int), .int .u8 64] 30)) wo.heap.size 30 [.int .u8 (x.kd.toNat : Int), .int .i64 x.at_, .int .u8 (x.f.toNat : Int), .int .u8 64]) := Blk.of_alloc _ _ _
      have HD4 := Lib.hid (hd.grown (World.grownBy_alloc wo (.cells #[.int .u8 (x.kd.toNat : Int), .int .i64 x.at_, .int .u8 (x.f.toNat : Int), .int .u8 64] 30) none))
      have HGR4 := Lib.hid (hgr.trans (World.grownBy_alloc wo (.cells #[.int .u8 (x.kd.toNat : Int), .int .i64 x.at_, .int .u8 (x.f.toNat : Int), .int .u8 64] 30) none))
      have HO4 : Hid (Out (wo.alloc (.cells #[.int .u8 (x.kd.toNat : Int), .int .i64 x.at_, .int .u8 (x.f.toNat : Int), .int .u8 64] 30)) ft wo.heap.size) := Out.new hd.lt (by simp)
      clear hx hrg hrg' hd hfi hft hgr HD HGR
      by_cases hkm : k < most
      · have d4 : decide ((k : Int) < (most : Int)) = true := by simp; omega
        by_cases hkk : x.kd.toNat % 2 = 0
        · have d3 : ((x.kd.toNat : Int) % 2 == 0) = true := by simp; omega
          go_wp2
          obtain ⟨W4, hW4⟩ : ∃ W4, wo.alloc (.cells #[.int .u8 (x.kd.toNat : Int), .int .i64 x.at_, .int .u8 (x.f.toNat : Int), .int .u8 64] 30) = W4 := ⟨_, rfl⟩
          obtain ⟨gx, hgx⟩ : ∃ gx, gx = wo.heap.size := ⟨_, rfl⟩
          rw [hW4] at HB4 HD4 HGR4 HO4 ⊢
          rw [← hgx] at HB4 HO4 ⊢
          clear hW4 hgx a0 a1 a2 a3 hix
          have hq4 : ((x.f.toNat % 4 : Nat) : Int) = IntKind.i64.wrap ((x.f.toNat : Int).tmod 4) := fill_mod x.f
          have HQ4 := Lib.hid hq4
          clear hq4
          go_region_held3 (fun W => W.cell? ⟨gx, 0, none⟩ = some (.int .u8 (x.kd.toNat : Int)) ∧ W.cell? ⟨gx, 1, none⟩ = some (.int .i64 x.at_) ∧ W.cell? ⟨gx, 2, none⟩ = some (.int .u8 (x.f.toNat : Int)) ∧ W.cell? ⟨gx, 3, none⟩ = some (.int .u8 64))
            (first | exact box_cells B6.out | exact box_cells B5.out | exact box_cells HB4.out | go_keep)
            (first
              | (go_at_call 12
                 with_reducible refine (block64 _ (x.kd.toNat : Int) x.at_ x.f).mono ?_
                 rintro _ w5 ⟨gq, rfl, hb5, hgq, hg5⟩
                 have hg5' : W4.grownBy w5 none := (grown_drewN 1 : W4.grownBy W4.drew none).trans hg5
                 have B5 := Lib.hid (HB4.out.grown hg5' (by simp))
                 have HG5 := Lib.hid (HGR4.out.trans hg5')
                 have HO5 := Lib.hid (HO4.out.up hg5'.size)
                 have HW5 := Lib.hid (law_write (HD4.out.grown hg5') HFI.out hk40 hb5 (fillB_length x.f 64) (Out.new (w := w5) (foot := ft) (fun k hk => Nat.lt_of_lt_of_le (HD4.out.lt k hk) hgq) hb5.lt) (i := x.f.toNat % 4) (by omega) (r := 0) (by simp [hkm]) HQ4.out)
                 clear hb5 hgq hg5 hg5')
              | (go_at_call 11
                 with_reducible refine HW5.out.mono ?_
                 rintro _ w6 ⟨rfl, s6, hfi6, ft6, hd6, hf6, hm6⟩
                 have B6 := Lib.hid (B5.out.md HO5.out hm6)
                 have HFI6 := Lib.hid hfi6
                 have HD6 := Lib.hid hd6
                 have HF6 : Hid (∀ b, ft6 b → w.heap.size ≤ b) := fun b hb => (hf6 b hb).elim (HFT.out b) (fun h => Nat.le_trans HG5.out.size h.1)
                 have HG6 := Lib.hid (hm6.grown HG5.out HFT.out)
                 clear hfi6 hd6 hf6 hm6)
              | fail)
          go_wp2
          go_roundw
          case rel => exact ⟨k + 1, dn + 1, s6, ft6, by omega, by omega, by go_num, by go_num, Lib.hid (by have := hdn.out; omega), HD6.out, HFI6.out, HF6.out, HG6.out⟩
          case measure => simp [intOf]; omega
        · have d3 : ((x.kd.toNat : Int) % 2 == 0) = false := by simp; omega
          have HS5 := Lib.hid (law_sync HD4.out HFI.out (r := 0) (by simp [hkm]))
          go_wp2_with (first
            | (go_at_call 14
               with_reducible refine HS5.out.mono ?_
               rintro _ w6 ⟨rfl, s6, hfi6, ft6, hd6, hf6, hm6⟩
               have HFI6 := Lib.hid hfi6
               have HD6 := Lib.hid hd6
               have HF6 : Hid (∀ b, ft6 b → w.heap.size ≤ b) := fun b hb => (hf6 b hb).elim (HFT.out b) (fun h => Nat.le_trans HGR4.out.size h.1)
               have HG6 := Lib.hid (hm6.grown HGR4.out HFT.out)
               clear hfi6 hd6 hf6 hm6)
            | fail)
          go_roundw
          case rel => exact ⟨k + 1, dn + 1, s6, ft6, by omega, by omega, by go_num, by go_num, Lib.hid (by have := hdn.out; omega), HD6.out, HFI6.out, HF6.out, HG6.out⟩
          case measure => simp [intOf]; omega
      · have d4 : decide ((k : Int) < (most : Int)) = false := by simp; omega
        by_cases hkk : x.kd.toNat % 2 = 0
        · have d3 : ((x.kd.toNat : Int) % 2 == 0) = true := by simp; omega
          go_wp2
          obtain ⟨W4, hW4⟩ : ∃ W4, wo.alloc (.cells #[.int .u8 (x.kd.toNat : Int), .int .i64 x.at_, .int .u8 (x.f.toNat : Int), .int .u8 64] 30) = W4 := ⟨_, rfl⟩
          obtain ⟨gx, hgx⟩ : ∃ gx, gx = wo.heap.size := ⟨_, rfl⟩
          rw [hW4] at HB4 HD4 HGR4 HO4 ⊢
          rw [← hgx] at HB4 HO4 ⊢
          clear hW4 hgx a0 a1 a2 a3 hix
          have hq4 : ((x.f.toNat % 4 : Nat) : Int) = IntKind.i64.wrap ((x.f.toNat : Int).tmod 4) := fill_mod x.f
          have HQ4 := Lib.hid hq4
          clear hq4
          go_region_held3 (fun W => W.cell? ⟨gx, 0, none⟩ = some (.int .u8 (x.kd.toNat : Int)) ∧ W.cell? ⟨gx, 1, none⟩ = some (.int .i64 x.at_) ∧ W.cell? ⟨gx, 2, none⟩ = some (.int .u8 (x.f.toNat : Int)) ∧ W.cell? ⟨gx, 3, none⟩ = some (.int .u8 64))
            (first | exact box_cells B6.out | exact box_cells B5.out | exact box_cells HB4.out | go_keep)
            (first
              | (go_at_call 12
                 with_reducible refine (block64 _ (x.kd.toNat : Int) x.at_ x.f).mono ?_
                 rintro _ w5 ⟨gq, rfl, hb5, hgq, hg5⟩
                 have hg5' : W4.grownBy w5 none := (grown_drewN 1 : W4.grownBy W4.drew none).trans hg5
                 have B5 := Lib.hid (HB4.out.grown hg5' (by simp))
                 have HG5 := Lib.hid (HGR4.out.trans hg5')
                 have HO5 := Lib.hid (HO4.out.up hg5'.size)
                 have HW5 := Lib.hid (law_write (HD4.out.grown hg5') HFI.out hk40 hb5 (fillB_length x.f 64) (Out.new (w := w5) (foot := ft) (fun k hk => Nat.lt_of_lt_of_le (HD4.out.lt k hk) hgq) hb5.lt) (i := x.f.toNat % 4) (by omega) (r := 150) (by simp [hkm]) HQ4.out)
                 clear hb5 hgq hg5 hg5')
              | (go_at_call 11
                 with_reducible refine HW5.out.mono ?_
                 rintro _ w6 ⟨rfl, s6, hfi6, ft6, hd6, hf6, hm6⟩
                 have B6 := Lib.hid (B5.out.md HO5.out hm6)
                 have HFI6 := Lib.hid hfi6
                 have HD6 := Lib.hid hd6
                 have HF6 : Hid (∀ b, ft6 b → w.heap.size ≤ b) := fun b hb => (hf6 b hb).elim (HFT.out b) (fun h => Nat.le_trans HG5.out.size h.1)
                 have HG6 := Lib.hid (hm6.grown HG5.out HFT.out)
                 clear hfi6 hd6 hf6 hm6)
              | fail)
          have hdd := dead_any HD6.out
          rw [HFI6.out.dead_of hkm] at hdd
          have HDD := Lib.hid hdd
          clear hdd
          go_wp2_with (first
            | (go_at_call 22
               with_reducible refine HDD.out.mono ?_
               rintro _ w7 ⟨rfl, rfl⟩)
            | fail)
          go_roundw
          case rel => exact ⟨k + 1, dn, s6, ft6, by omega, by omega, by go_num, rfl, Lib.hid (by have := hdn.out; omega), HD6.out, HFI6.out, HF6.out, HG6.out⟩
          case measure => simp [intOf]; omega
        · have d3 : ((x.kd.toNat : Int) % 2 == 0) = false := by simp; omega
          have HS5 := Lib.hid (law_sync HD4.out HFI.out (r := 150) (by simp [hkm]))
          go_wp2_with (first
            | (go_at_call 14
               with_reducible refine HS5.out.mono ?_
               rintro _ w6 ⟨rfl, s6, hfi6, ft6, hd6, hf6, hm6⟩
               have HFI6 := Lib.hid hfi6
               have HD6 := Lib.hid hd6
               have HF6 : Hid (∀ b, ft6 b → w.heap.size ≤ b) := fun b hb => (hf6 b hb).elim (HFT.out b) (fun h => Nat.le_trans HGR4.out.size h.1)
               have HG6 := Lib.hid (hm6.grown HGR4.out HFT.out)
               have hdd := dead_any hd6
               rw [hfi6.dead_of hkm] at hdd
               have HDD := Lib.hid hdd
               clear hdd
               clear hfi6 hd6 hf6 hm6)
            | (go_at_call 22
               with_reducible refine HDD.out.mono ?_
               rintro _ w7 ⟨rfl, rfl⟩)
            | fail)
          go_roundw
          case rel => exact ⟨k + 1, dn, s6, ft6, by omega, by omega, by go_num, rfl, Lib.hid (by have := hdn.out; omega), HD6.out, HFI6.out, HF6.out, HG6.out⟩
          case measure => simp [intOf]; omega
    · have HDN : Hid ((dn : Int) = min (min (most : Int) (l.length : Int)) 40) := by show _ = _; have := hdn.out; omega
      clear hd hfi hft hgr HX HD HFI HFT hdn40
      by_cases hl1 : k < l.length
      · have d1 : decide ((k : Int) < (l.length : Int)) = true := by simp; omega
        have d2 : decide ((k : Int) < 40) = false := by simp; omega
        go_wp2
        all_goals
          go_ret
          exact ⟨bool_end (by have := HDN.out; simp; omega), HGR.out⟩
      · have d1 : decide ((k : Int) < (l.length : Int)) = false := by simp; omega
        go_wp2
        all_goals
          go_ret
          exact ⟨bool_end (by have := HDN.out; simp; omega), HGR.out⟩
end Go.Proofs.Ytmdkpfogdbggoaa
