/- DiskPlays' walk: whatever is done, a disk answers as the document's, and keeps what that keeps. Conditions: none. -/
import Derived.Test.YtmdkpfogdbggoaaPl2
namespace Go.Proofs.Ytmdkpfogdbggoaa
open Go.RowKit
/-- What either Read of two disks in one state answers. -/
theorem Two.read {w V : World} {kp : Nat → Prop} {d r : Nat} {s1 s2 : St} (h : Two w V kp d r s1 s2) (a : Int) : Calls Try.prog 16 #[.pointer (some ⟨d, 0, none⟩), .int .i64 a] V (ReadA V s1 a) := by
  obtain ⟨f1, f2, h1, h2, h3, h4, h5, h6⟩ := h
  exact read_all h1 a
theorem Two.rread {w V : World} {kp : Nat → Prop} {d r : Nat} {s1 s2 : St} (h : Two w V kp d r s1 s2) (hL : s2.L.length ≤ 1048576) (a : Int) : Calls Try.prog 17 #[.pointer (some ⟨r, 0, none⟩), .int .i64 a] V (ReadA V s2 a) := by
  obtain ⟨f1, f2, h1, h2, h3, h4, h5, h6⟩ := h
  exact rread_all h2 hL a
set_option maxRecDepth 100000 in
set_option maxHeartbeats 8000000 in
theorem plays_walk (w : World) (b0 : Int) (hb1 : -9223372036854775808 ≤ b0) (hb2 : b0 ≤ 9223372036854775807) {A : Option Addr} {l : List OpR} {c : Nat} (hx : Ops w (fun b => b < w.heap.size) A l) :
    Calls Try.prog 3 #[.int .i64 b0, .slice A l.length c] w fun e w' => e = .returned (.bool true) ∧ w.grownBy w' none := by
  have HA := Lib.hid (alive_any w)
  have HX := Lib.hid hx
  clear hx
  by_cases hbig : 64 < b0
  · have d1 : decide (64 < b0) = true := by simpa using hbig
    have hnc := nOf_cast b0
    obtain ⟨N, hN⟩ : ∃ N, N = nOf b0 := ⟨_, rfl⟩
    rw [← hN] at hnc
    have HNC := Lib.hid hnc
    have HN := Lib.hid hN
    clear hnc hN
    go_enter Try.func3, Try.ntmps3
    go_wp2_with (first
      | (go_at_call 7
         with_reducible refine HA.out.mono ?_
         rintro e w1 ⟨rfl, hg1⟩
         have HG1 := Lib.hid hg1
         have hn := new_any w1 b0
         rw [← HN.out] at hn
         have HNW := Lib.hid hn
         clear hg1 hn HA)
      | (go_at_call 8
         with_reducible refine HNW.out.mono ?_
         rintro e w2 ⟨p, foot, rfl, hd2, hf2, hg2⟩
         have HG2 := Lib.hid (HG1.out.trans hg2)
         have hbl : Calls Try.prog 9 #[.pointer (some ⟨p, 0, none⟩)] w2 fun e w' => e = .returned (.int .i64 (N : Int)) ∧ w2 = w' := blocks_any hd2
         have HB2 := Lib.hid hbl
         clear hd2 hf2 hg2 hbl HNW HG1)
      | (go_at_call 9
         with_reducible refine HB2.out.mono ?_
         rintro e w3 ⟨rfl, rfl⟩)
      | fail)
    go_ret
    exact ⟨bool_end (by have := HNC.out; simp; omega), HG2.out⟩
  · have d1 : decide (64 < b0) = false := by simpa using hbig
    obtain ⟨N, hN⟩ : ∃ N, N = nOf b0 := ⟨_, rfl⟩
    have HN := Lib.hid hN
    clear hN hbig
    go_enter Try.func3, Try.ntmps3
    go_wp2_with (first
      | (go_at_call 7
         with_reducible refine HA.out.mono ?_
         rintro e w1 ⟨rfl, hg1⟩
         have HG1 := Lib.hid hg1
         have hn := new_any w1 b0
         rw [← HN.out] at hn
         have HNW := Lib.hid hn
         clear hg1 hn HA)
      | (go_at_call 8
         with_reducible refine HNW.out.mono ?_
         rintro e w2 ⟨d, f1, rfl, hd2, hf2, hg2⟩
         have HG2 := Lib.hid hg2
         have HD2 := Lib.hid hd2
         have HF2 := Lib.hid hf2
         have hn := rnew_any w2 b0
         rw [← HN.out] at hn
         have HRW := Lib.hid hn
         clear hd2 hf2 hg2 hn HNW)
      | (go_at_call 10
         with_reducible refine HRW.out.mono ?_
         rintro e w3 ⟨r, f2, rfl, hd3, hf3, hg3⟩
         have HT3 := Lib.hid (Two.start HD2.out HF2.out hd3 hf3 HG1.out HG2.out hg3)
         clear hd3 hf3 hg3 HRW HD2 HF2 HG1 HG2)
      | fail)
    go_loopw [7] (fun vi wr => ∃ (k : Nat) (s : St), k ≤ l.length ∧ k ≤ 120 ∧ vi = .int .i64 (k : Int) ∧ s.L.length ≤ k ∧ Two w wr (fun _ => False) d r s s) (fun vi _ => 120 - (intOf vi).toNat)
    case atStart => exact ⟨0, _, Nat.zero_le _, by omega, rfl, Nat.le_refl _, HT3.out⟩
    case round =>
      clear HT3
      obtain ⟨k, s, hk, hk120, rfl, hsl, ht⟩ := hrel
      obtain ⟨wo, rfl⟩ : ∃ wo : World, wo = wr := ⟨_, rfl⟩
      by_cases hlt : k < l.length ∧ k < 120
      · obtain ⟨hl1, hl2⟩ := hlt
        have d2 : decide ((k : Int) < (l.length : Int)) = true := by simp; omega
        have d3 : decide ((k : Int) < 120) = true := by simp; omega
        obtain ⟨b, o, rfl, hbw, hrg⟩ := HX.out k hl1
        have hrg' : wo.rangeAt b (o + 4 * k) (opC l[k]) := fun q v hv => (World.cell?_of_block (ht.gr.block b hbw (by simp))).trans (hrg q v hv)
        have hix := fun w => run_index22 w b o l.length c k hl1
        obtain ⟨x, hx⟩ : ∃ x, x = l[k] := ⟨_, rfl⟩
        rw [← hx] at hrg'
        have a0 : wo.cell? ⟨b, o + 4 * k, none⟩ = some (.int .u8 (x.kd.toNat : Int)) := hrg' 0 _ rfl
        have a1 : wo.cell? ⟨b, o + 4 * k + 1, none⟩ = some (.int .i64 x.at_) := hrg' 1 _ rfl
        have a2 : wo.cell? ⟨b, o + 4 * k + 2, none⟩ = some (.int .u8 (x.f.toNat : Int)) := hrg' 2 _ rfl
        have a3 : wo.cell? ⟨b, o + 4 * k + 3, none⟩ = some (.int .u8 (x.sz.toNat : Int)) := hrg' 3 _ rfl
        have hkd := x.kd.toNat_lt
        have hf := x.f.toNat_lt
        have hsz := x.sz.toNat_lt
        have hlo := x.lo
        have hhi := x.hi
        have HB4 : Hid (Blk (wo.alloc (.cells #[.int .u8 (x.kd.toNat : Int), .int .i64 x.at_, .int .u8 (x.f.toNat : Int), .int .u8 (x.sz.toNat : Int)] 30)) wo.heap.size 30 [.int .u8 (x.kd.toNat : Int), .int .i64 x.at_, .int .u8 (x.f.toNat : Int), .int .u8 (x.sz.toNat : Int)]) := Blk.of_alloc _ _ _
        have HT4 : Hid (Two w (wo.alloc (.cells #[.int .u8 (x.kd.toNat : Int), .int .i64 x.at_, .int .u8 (x.f.toNat : Int), .int .u8 (x.sz.toNat : Int)] 30)) (fun b => b = wo.heap.size) d r s s) := ht.grown (World.grownBy_alloc wo (.cells #[.int .u8 (x.kd.toNat : Int), .int .i64 x.at_, .int .u8 (x.f.toNat : Int), .int .u8 (x.sz.toNat : Int)] 30) none) (fun b hb => .inr (by subst hb; simp))
        have hsb : s.L.length ≤ 1048576 := by omega
        clear hx hrg hrg' ht
        obtain hk5 | hk5 | hk5 | hk5 | hk5 : x.kd.toNat % 5 = 0 ∨ x.kd.toNat % 5 = 1 ∨ x.kd.toNat % 5 = 2 ∨ x.kd.toNat % 5 = 3 ∨ x.kd.toNat % 5 = 4 := by omega
        · have e0 : ((x.kd.toNat : Int) % 5 == 0) = true := by simp; omega
          go_wp2_with fail
          obtain ⟨W4, hW4⟩ : ∃ W4, wo.alloc (.cells #[.int .u8 (x.kd.toNat : Int), .int .i64 x.at_, .int .u8 (x.f.toNat : Int), .int .u8 (x.sz.toNat : Int)] 30) = W4 := ⟨_, rfl⟩
          obtain ⟨gx, hgx⟩ : ∃ gx, gx = wo.heap.size := ⟨_, rfl⟩
          rw [hW4] at HB4 HT4 ⊢
          rw [← hgx] at HB4 HT4 ⊢
          clear hW4 hgx a0 a1 a2 a3 hix
          obtain ⟨m, hm80⟩ : ∃ m, m = x.sz.toNat % 80 := ⟨_, rfl⟩
          obtain ⟨ew, hew⟩ : ∃ ew, ew = s.writeE x.at_ m := ⟨_, rfl⟩
          have HM80 := Lib.hid hm80
          have HEW := Lib.hid hew
          clear hm80 hew
          go_region_held3 (fun W => W.cell? ⟨gx, 0, none⟩ = some (.int .u8 (x.kd.toNat : Int)) ∧ W.cell? ⟨gx, 1, none⟩ = some (.int .i64 x.at_) ∧ W.cell? ⟨gx, 2, none⟩ = some (.int .u8 (x.f.toNat : Int)) ∧ W.cell? ⟨gx, 3, none⟩ = some (.int .u8 (x.sz.toNat : Int)))
            (first | exact box_cells B8.out | exact box_cells B7.out | exact box_cells B6.out | exact box_cells B5.out | exact box_cells HB4.out | go_keep)
            (first
              | (go_at_call 12
                 with_reducible refine (block_any _ (x.kd.toNat : Int) x.at_ x.f x.sz).mono ?_
                 rw [← HM80.out]
                 rintro _ w5 ⟨gq, rfl, hb5, hgq, hg5⟩
                 have hg5' : W4.grownBy w5 none := (grown_drewN 1 : W4.grownBy W4.drew none).trans hg5
                 have B5 := Lib.hid (HB4.out.grown hg5' (by simp))
                 have HT5 : Hid (Two w w5 (fun b => b = gx ∨ b = gq) d r s s) := HT4.out.grown hg5' (fun b hb => hb.elim .inl (fun h => .inr ⟨h ▸ hgq, h ▸ hb5.lt⟩))
                 have hw5 := HT5.out.code (fn := 11) (args := #[.pointer (some ⟨d, 0, none⟩), .int .i64 x.at_, .slice (some ⟨gq, 0, none⟩) m m]) (R := fun e => e = .returned (.int .i64 ew)) (s' := s.written x.at_ (fillB x.f m)) (fun f1 hd ho => by rw [HEW.out]; exact write_all hd hsb x.at_ hb5 (fillB_length x.f m) (ho gq (.inr rfl)))
                 have HW5 := Lib.hid hw5
                 clear hb5 hgq hg5 hg5' hw5 HB4 HT4)
              | (go_at_call 11
                 with_reducible refine HW5.out.mono ?_
                 rintro _ w6 ⟨rfl, ht6, hk6, _⟩
                 have B6 := Lib.hid (B5.out.keep (hk6 gx (.inl rfl)))
                 have HT6 := Lib.hid ht6
                 clear ht6 hk6 B5 HT5 HW5)
              | (go_at_call 12
                 with_reducible refine (block_any w6 (x.kd.toNat : Int) x.at_ x.f x.sz).mono ?_
                 rw [← HM80.out]
                 rintro _ w7 ⟨gp, rfl, hb7, hgp, hg7⟩
                 have B7 := Lib.hid (B6.out.grown hg7 (by simp))
                 have HT7 : Hid (Two w w7 (fun b => b = gx ∨ b = gp) d r (s.written x.at_ (fillB x.f m)) s) := HT6.out.grown hg7 (fun b hb => hb.elim (fun h => .inl (.inl h)) (fun h => .inr ⟨h ▸ hgp, h ▸ hb7.lt⟩))
                 have hw7 := HT7.out.ref (fn := 13) (args := #[.pointer (some ⟨r, 0, none⟩), .int .i64 x.at_, .slice (some ⟨gp, 0, none⟩) m m]) (R := fun e => e = .returned (.int .i64 ew)) (s' := s.written x.at_ (fillB x.f m)) (fun f2 hd ho => by rw [HEW.out]; exact rwrite_all hd hsb x.at_ hb7 (fillB_length x.f m) (ho gp (.inr rfl)))
                 have HW7 := Lib.hid hw7
                 clear hb7 hgp hg7 hw7 B6 HT6)
              | (go_at_call 13
                 with_reducible refine HW7.out.mono ?_
                 rintro _ w8 ⟨rfl, ht8, hk8, _⟩
                 have B8 := Lib.hid (B7.out.keep (hk8 gx (.inl rfl)))
                 have HT8 := Lib.hid ht8
                 clear ht8 hk8 B7 HT7 HW7)
              | fail)
          obtain ⟨dd, m9, n9, A9, c9, q1, q2, q3, z1, z2, z3⟩ := HT8.out.look
          have Q1 := Lib.hid q1
          have Q2 := Lib.hid q2
          have Q3 := Lib.hid q3
          clear q1 q2 q3
          go_wp2_with fail
          go_quiet (first | (go_at_call 22; exact Q1.out _) | (go_at_call 23; exact Q2.out _) | (go_at_call 9; exact Q3.out _))
          go_wp2
          go_roundw
          case rel => exact ⟨k + 1, s.written x.at_ (fillB x.f m), by omega, by omega, by go_num, by have := s.written_len x.at_ (fillB x.f m); omega, HT8.out.grown (grown_drewN nq) (fun _ (h : False) => h.elim)⟩
          case measure => simp [intOf]; omega
        · have e0 : ((x.kd.toNat : Int) % 5 == 0) = false := by simp; omega
          have e1 : ((x.kd.toNat : Int) % 5 == 1) = true := by simp; omega
          have HS4 := Lib.hid (HT4.out.code (fn := 14) (args := #[.pointer (some ⟨d, 0, none⟩)]) (R := fun e => e = .returned (.int .i64 s.syncE)) (s' := s.synced) (fun f1 hd _ => (sync_any hd).mono fun e w' ⟨he, h1, h2⟩ => ⟨he, Nxt.of h1 h2⟩))
          obtain ⟨es, hes⟩ : ∃ es, es = s.syncE := ⟨_, rfl⟩
          have HES := Lib.hid hes
          rw [← hes] at HS4
          clear hes
          go_wp2_with (first
            | (go_at_call 14
               with_reducible refine HS4.out.mono ?_
               rintro _ w5 ⟨rfl, ht5, _, _⟩
               have HS5 := Lib.hid (ht5.ref (fn := 15) (args := #[.pointer (some ⟨r, 0, none⟩)]) (R := fun e => e = .returned (.int .i64 es)) (s' := s.synced) (fun f2 hd _ => (rsync_any hd hsb).mono fun e w' ⟨he, h1, h2⟩ => ⟨by rw [HES.out]; exact he, NxtR.of h1 h2⟩))
               clear ht5 HS4)
            | (go_at_call 15
               with_reducible refine HS5.out.mono ?_
               rintro _ w6 ⟨rfl, ht6, _, _⟩
               have HT6 := Lib.hid ht6
               clear ht6 HS5)
            | fail)
          obtain ⟨dd, m9, n9, A9, c9, q1, q2, q3, z1, z2, z3⟩ := HT6.out.look
          have Q1 := Lib.hid q1
          have Q2 := Lib.hid q2
          have Q3 := Lib.hid q3
          clear q1 q2 q3
          go_wp2_with fail
          go_quiet (first | (go_at_call 22; exact Q1.out _) | (go_at_call 23; exact Q2.out _) | (go_at_call 9; exact Q3.out _))
          go_wp2
          go_roundw
          case rel => exact ⟨k + 1, s.synced, by omega, by omega, by go_num, by have := s.synced_len; omega, HT6.out.grown (grown_drewN nq) (fun _ (h : False) => h.elim)⟩
          case measure => simp [intOf]; omega
        · have e0 : ((x.kd.toNat : Int) % 5 == 0) = false := by simp; omega
          have e1 : ((x.kd.toNat : Int) % 5 == 1) = false := by simp; omega
          have e2 : ((x.kd.toNat : Int) % 5 == 2) = true := by simp; omega
          obtain ⟨er, her⟩ : ∃ er, er = s.readE x.at_ := ⟨_, rfl⟩
          have HER := Lib.hid her
          clear her
          have HRD : Hid (Calls Try.prog 16 #[.pointer (some ⟨d, 0, none⟩), .int .i64 x.at_] (wo.alloc (.cells #[.int .u8 (x.kd.toNat : Int), .int .i64 x.at_, .int .u8 (x.f.toNat : Int), .int .u8 (x.sz.toNat : Int)] 30)) (ReadA (wo.alloc (.cells #[.int .u8 (x.kd.toNat : Int), .int .i64 x.at_, .int .u8 (x.f.toNat : Int), .int .u8 (x.sz.toNat : Int)] 30)) s x.at_)) := HT4.out.read x.at_
          go_wp2_with (first
            | (go_at_call 16
               with_reducible refine HRD.out.mono ?_
               rintro _ w5 ⟨A5, n5, c5, ok5, rfl, hy5, hn5, ho5, hg5⟩
               have HT5 : Hid (Two w w5 (fun b => b = wo.heap.size) d r s s) := HT4.out.grown hg5 (fun b hb => .inl hb)
               rw [← HER.out]
               have b5 := HB4.out.grown hg5 (by simp)
               have b51 : w5.cell? ⟨wo.heap.size, 1, none⟩ = some (.int .i64 x.at_) := b5.get 1 _ rfl
               have HY5 := Lib.hid hy5
               have HN5 := Lib.hid hn5
               have HO5 := Lib.hid ho5
               have HRR := Lib.hid (HT5.out.rread hsb x.at_)
               clear hy5 hn5 ho5 hg5 b5 HRD HT4 HB4)
            | (go_at_call 17
               with_reducible refine HRR.out.mono ?_
               rintro _ w6 ⟨A6, n6, c6, ok6, rfl, hy6, hn6, ho6, hg6⟩
               have HT6 : Hid (Two w w6 (fun b => b = wo.heap.size) d r s s) := HT5.out.grown hg6 (fun b hb => .inl hb)
               rw [← HER.out]
               have HYY := Lib.hid (bytes_yes (c := c5) (d := c6) (HY5.out.grown hg6 (fun b hb => ⟨HO5.out b hb, by simp⟩)) hy6 HN5.out hn6)
               clear hy6 hn6 ho6 hg6 HRR HT5 HY5 HN5 HO5 b51)
            | (go_at_call 18
               with_reducible refine HYY.out.mono ?_
               rintro _ w7 ⟨rfl, rfl⟩
               clear HYY)
            | fail)
          obtain ⟨dd, m9, n9, A9, c9, q1, q2, q3, z1, z2, z3⟩ := HT6.out.look
          have Q1 := Lib.hid q1
          have Q2 := Lib.hid q2
          have Q3 := Lib.hid q3
          clear q1 q2 q3
          go_wp2_with fail
          go_quiet (first | (go_at_call 22; exact Q1.out _) | (go_at_call 23; exact Q2.out _) | (go_at_call 9; exact Q3.out _))
          go_wp2
          go_roundw
          case rel => exact ⟨k + 1, s, by omega, by omega, by go_num, by omega, HT6.out.grown (grown_drewN nq) (fun _ (h : False) => h.elim)⟩
          case measure => simp [intOf]; omega
        · have e0 : ((x.kd.toNat : Int) % 5 == 0) = false := by simp; omega
          have e1 : ((x.kd.toNat : Int) % 5 == 1) = false := by simp; omega
          have e2 : ((x.kd.toNat : Int) % 5 == 2) = false := by simp; omega
          have e3 : ((x.kd.toNat : Int) % 5 == 3) = true := by simp; omega
          have HU4 := Lib.hid (HT4.out.code (fn := 19) (args := #[.pointer (some ⟨d, 0, none⟩), .int .i64 x.at_]) (R := fun e => e = .returned (.tuple #[])) (s' := s.fuse x.at_) (fun f1 hd _ => (fuse_any hd x.at_ hlo hhi).mono fun e w' ⟨he, h1, h2⟩ => ⟨he, Nxt.of h1 h2⟩))
          go_wp2_with (first
            | (go_at_call 19
               with_reducible refine HU4.out.mono ?_
               rintro _ w5 ⟨rfl, ht5, hk5, _⟩
               have b5 := HB4.out.keep (hk5 _ rfl)
               have b51 : w5.cell? ⟨wo.heap.size, 1, none⟩ = some (.int .i64 x.at_) := b5.get 1 _ rfl
               obtain ⟨cs, hcs, hcl, hset⟩ := ht5.cells
               have HCS := Lib.hid hcs
               have HCL := Lib.hid hcl
               have HSET := Lib.hid hset
               clear ht5 hk5 b5 hcs hcl hset HU4 HB4 HT4)
            | (refine wpList_store_cell rfl 3 _ _ rfl size3 r 4 (.int .i64 (max x.at_ (-1))) rfl rfl rfl _ _ HCS.out HCL.out ?_
               intro w6 k6 r6
               have HT6 := Lib.hid (HSET.out x.at_ w6 hlo hhi k6.out r6.out.grown)
               clear k6 r6 HCS HCL HSET b51)
            | fail)
          obtain ⟨dd, m9, n9, A9, c9, q1, q2, q3, z1, z2, z3⟩ := HT6.out.look
          have Q1 := Lib.hid q1
          have Q2 := Lib.hid q2
          have Q3 := Lib.hid q3
          clear q1 q2 q3
          go_wp2_with fail
          go_quiet (first | (go_at_call 22; exact Q1.out _) | (go_at_call 23; exact Q2.out _) | (go_at_call 9; exact Q3.out _))
          go_wp2
          go_roundw
          case rel => exact ⟨k + 1, s.fuse x.at_, by omega, by omega, by go_num, Nat.le_trans hsl (Nat.le_succ k), HT6.out.grown (grown_drewN nq) (fun _ (h : False) => h.elim)⟩
          case measure => simp [intOf]; omega
        · have e0 : ((x.kd.toNat : Int) % 5 == 0) = false := by simp; omega
          have e1 : ((x.kd.toNat : Int) % 5 == 1) = false := by simp; omega
          have e2 : ((x.kd.toNat : Int) % 5 == 2) = false := by simp; omega
          have e3 : ((x.kd.toNat : Int) % 5 == 3) = false := by simp; omega
          have HC4 := Lib.hid (HT4.out.code (fn := 20) (args := #[.pointer (some ⟨d, 0, none⟩), .int .i64 x.at_]) (R := fun e => e = .returned (.tuple #[])) (s' := s.crash x.at_) (fun f1 hd _ => (crash_any hd hsb x.at_).mono fun e w' ⟨he, h1, h2⟩ => ⟨he, Nxt.of h1 h2⟩))
          go_wp2_with (first
            | (go_at_call 20
               with_reducible refine HC4.out.mono ?_
               rintro _ w5 ⟨rfl, ht5, hk5, _⟩
               have b5 := HB4.out.keep (hk5 _ rfl)
               have b51 : w5.cell? ⟨wo.heap.size, 1, none⟩ = some (.int .i64 x.at_) := b5.get 1 _ rfl
               have HC5 := Lib.hid (ht5.ref (fn := 21) (args := #[.pointer (some ⟨r, 0, none⟩), .int .i64 x.at_]) (R := fun e => e = .returned (.tuple #[])) (s' := s.crash x.at_) (fun f2 hd _ => (rcrash_any hd hsb x.at_).mono fun e w' ⟨he, h1, h2⟩ => ⟨he, NxtR.of h1 h2⟩))
               clear ht5 hk5 b5 HC4 HB4 HT4)
            | (go_at_call 21
               with_reducible refine HC5.out.mono ?_
               rintro _ w6 ⟨rfl, ht6, _, _⟩
               have HT6 := Lib.hid ht6
               clear ht6 HC5 b51)
            | fail)
          obtain ⟨dd, m9, n9, A9, c9, q1, q2, q3, z1, z2, z3⟩ := HT6.out.look
          have Q1 := Lib.hid q1
          have Q2 := Lib.hid q2
          have Q3 := Lib.hid q3
          clear q1 q2 q3
          go_wp2_with fail
          go_quiet (first | (go_at_call 22; exact Q1.out _) | (go_at_call 23; exact Q2.out _) | (go_at_call 9; exact Q3.out _))
          go_wp2
          go_roundw
          case rel => exact ⟨k + 1, s.crash x.at_, by omega, by omega, by go_num, Nat.zero_le _, HT6.out.grown (grown_drewN nq) (fun _ (h : False) => h.elim)⟩
          case measure => simp [intOf]; omega
      · by_cases hl1 : k < l.length
        · have d2 : decide ((k : Int) < (l.length : Int)) = true := by simp; omega
          have d3 : decide ((k : Int) < 120) = false := by simp; omega
          go_wp2_with fail
          obtain ⟨K9, m9, gk9, cs9, q9, b9, hc9, hk9, hl9⟩ := ht.ends (by omega)
          have Q9 := Lib.hid q9
          have B9 := Lib.hid b9
          have C9 := Lib.hid hc9
          have K9H := Lib.hid hk9
          have L9 := Lib.hid hl9
          have HT9 := Lib.hid ht
          clear q9 b9 hc9 hk9 hl9 ht HX hsl
          go_region_held3 (fun W => W.cell? ⟨r, 1, none⟩ = some (.slice (some ⟨gk9, 0, none⟩) m9 m9))
            (first | exact (B9.out.grown hg9 (by simp)).get 1 _ C9.out | exact B9.out.get 1 _ C9.out | go_keep)
            (first
              | (go_at_call 24
                 with_reducible refine Q9.out.mono ?_
                 rintro _ wk ⟨gn, rfl, hbn, hgn, hgk⟩
                 have hg9 : wo.grownBy wk none := (grown_drewN 1 : wo.grownBy wo.drew none).trans hgk
                 have HYY := Lib.hid (bytes_yes (c := m9) (d := m9) hbn.bytes (K9H.out.grown hg9 (by simp)).bytes L9.out L9.out)
                 clear hbn hgn hgk Q9)
              | (go_at_call 18
                 with_reducible refine HYY.out.mono ?_
                 rintro _ wy ⟨rfl, rfl⟩)
              | fail)
          go_wp2
          go_ret
          exact ⟨rfl, HT9.out.gr.trans hg9⟩
        · have d2 : decide ((k : Int) < (l.length : Int)) = false := by simp; omega
          go_wp2_with fail
          obtain ⟨K9, m9, gk9, cs9, q9, b9, hc9, hk9, hl9⟩ := ht.ends (by omega)
          have Q9 := Lib.hid q9
          have B9 := Lib.hid b9
          have C9 := Lib.hid hc9
          have K9H := Lib.hid hk9
          have L9 := Lib.hid hl9
          have HT9 := Lib.hid ht
          clear q9 b9 hc9 hk9 hl9 ht HX hsl
          go_region_held3 (fun W => W.cell? ⟨r, 1, none⟩ = some (.slice (some ⟨gk9, 0, none⟩) m9 m9))
            (first | exact (B9.out.grown hg9 (by simp)).get 1 _ C9.out | exact B9.out.get 1 _ C9.out | go_keep)
            (first
              | (go_at_call 24
                 with_reducible refine Q9.out.mono ?_
                 rintro _ wk ⟨gn, rfl, hbn, hgn, hgk⟩
                 have hg9 : wo.grownBy wk none := (grown_drewN 1 : wo.grownBy wo.drew none).trans hgk
                 have HYY := Lib.hid (bytes_yes (c := m9) (d := m9) hbn.bytes (K9H.out.grown hg9 (by simp)).bytes L9.out L9.out)
                 clear hbn hgn hgk Q9)
              | (go_at_call 18
                 with_reducible refine HYY.out.mono ?_
                 rintro _ wy ⟨rfl, rfl⟩)
              | fail)
          go_wp2
          go_ret
          exact ⟨rfl, HT9.out.gr.trans hg9⟩
end Go.Proofs.Ytmdkpfogdbggoaa
