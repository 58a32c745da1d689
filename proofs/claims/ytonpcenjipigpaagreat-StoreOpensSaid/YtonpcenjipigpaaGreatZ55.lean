/- StoreOpens' walk. Conditions: none. -/
import Derived.Test.YtonpcenjipigpaaGreatZ52
namespace Go.Proofs.YtonpcenjipigpaaGreat
open Go.RowKit
theorem bytdrop {w : World} {ok : Nat → Prop} {g o : Nat} {xs : List UInt8} (h : Byt w ok (some ⟨g, o, none⟩) xs) (k : Nat) : Byt w ok (some ⟨g, o + k, none⟩) (xs.drop k) := fun j hj => by
  rw [List.length_drop] at hj
  obtain ⟨ad, e, h1, h2⟩ := h (k + j) (by omega)
  cases e
  refine ⟨_, rfl, h1, ?_⟩
  rw [List.getElem_drop, ← h2, Addr.add_mid, Addr.add_mid]
  congr 2
  omega
theorem byt_some {w : World} {ok : Nat → Prop} {A : Option Addr} {xs : List UInt8} (h : Byt w ok A xs) (h0 : 0 < xs.length) : ∃ g o, A = some ⟨g, o, none⟩ := by
  obtain ⟨ad, e, h1, h2⟩ := h 0 h0
  obtain ⟨b, o, sp⟩ := ad
  have hsp : sp = none := by
    have := World.cell?_spot h2
    simpa [Addr.add] using this
  subst hsp
  exact ⟨b, o, e⟩
set_option maxRecDepth 100000 in
set_option maxHeartbeats 8000000 in
theorem opens_walk (w : World) {A : Option Addr} {xs : List UInt8} {cap : Nat} (b0 : Int) (dead : Bool) (hx : Byt w (fun b => b < w.heap.size) A xs) (hxc : xs.length ≤ cap) :
    Calls Tryz.prog 4 #[.int .i64 b0, .slice A xs.length cap, .bool dead] w fun e w' => e = .returned (.bool true) ∧ w.grownBy w' none := by
  have HA := Lib.hid (alive_any w)
  have HX := Lib.hid hx
  obtain ⟨b, hb⟩ : ∃ b : Int, b = max 0 (min b0 40) := ⟨_, rfl⟩
  have hbr : 0 ≤ b ∧ b ≤ 40 := by omega
  obtain ⟨n, hn⟩ : ∃ n, n = nOf b := ⟨_, rfl⟩
  have hn64 : 1 ≤ n ∧ n ≤ 40 := by rw [hn]; unfold nOf; omega
  have kN : Hid (∀ W, Calls Tryz.prog 7 #[.int .i64 b] W (NewD W n)) := Lib.hid fun W => by rw [hn]; exact new_any W b
  have kR : Hid (∀ W, Calls Tryz.prog 8 #[.int .i64 b] W (NewR W n)) := Lib.hid fun W => by rw [hn]; exact rnew_any W b
  have hmk : ∀ w, (Instr.makeSlice 40 (.int .i64 64) (.int .i64 64)).run Tryz.prog w = .ok (.slice (some ⟨w.heap.size, 0, none⟩) 64 64) (w.alloc (.cells (u8s (zb 64)).toArray 5)) := fun w => by kernel_rfl
  have HB := Lib.hid hb
  clear hx hn hb
  go_enter Tryz.func4, Tryz.ntmps4
  go_wp2_with (first
    | (go_at_call 6
       refine HA.out.mono ?_
       rintro _ w1 ⟨rfl, hg1⟩
       clear HA)
    | (go_at_call 7
       try rw [← HB.out]
       refine (kN.out w1).mono ?_
       rintro _ w2 ⟨dp, f2, rfl, hd2, hf2, hg2⟩)
    | (go_at_call 8
       try rw [← HB.out]
       refine (kR.out w2).mono ?_
       rintro _ w3 ⟨rdp, rf3, rfl, hr3, hf3, hg3⟩
       have hbd := Bd.of hd2 (fun k hk => Nat.le_trans hg1.size (hf2 k hk)) (hg1.trans hg2) hr3 hf3 hg3
       clear hd2 hf2 hr3 hf3 hg1 hg2 hg3)
    | fail)
  have HBD0 := Lib.hid hbd
  clear hbd
  go_loopw [9, 10] (fun x _ wr => ∃ (k : Nat) (s : St) (f rf : Nat → Prop), k ≤ n ∧ x = .int .i64 (k : Int) ∧ Hid (Bd w wr f dp s rf rdp s) ∧ Hid (s.n = n ∧ s.L.length ≤ k)) (fun x _ _ => n - (intOf x).toNat)
  case atStart => exact ⟨0, _, _, _, Nat.zero_le _, rfl, HBD0.out, ⟨rfl, Nat.le_refl _⟩⟩
  case round =>
    clear HBD0
    obtain ⟨k, s, f, rf, hk, rfl, HBD, HSN⟩ := hrel
    have hbl := blocks_any HBD.out.d
    rw [HSN.out.1] at hbl
    by_cases hlt : k < n ∧ 64 * k < xs.length
    · obtain ⟨hl1, hl2⟩ := hlt
      obtain ⟨gi, oi, rfl⟩ := byt_some HX.out (by omega)
      have d1 : decide ((k : Int) < (n : Int)) = true := decide_eq_true (by omega)
      have d2 : decide (64 * (k : Int) < (xs.length : Int)) = true := decide_eq_true (by omega)
      have q0 : (0 : Int) ≤ 64 * (k : Int) := by omega
      have q1 : 64 * (k : Int) ≤ (xs.length : Int) := by omega
      have q2 : (64 * (k : Int)).toNat = 64 * k := by omega
      have q3 : ¬ cap = 64 * k := by omega
      have q4 : 64 * k ≤ cap := by omega
      have q5 : IntKind.i64.wrap (64 * (k : Int)) = 64 * (k : Int) := IntWalk.i64_in _ (by omega)
      have hxd := bytdrop (HX.out.keep fun b hb => HBD.out.g.block b hb (by simp)) (64 * k)
      have hdl : (xs.drop (64 * k)).length = xs.length - 64 * k := by rw [List.length_drop]
      have HXD := Lib.hid hxd
      have HDL := Lib.hid hdl
      obtain ⟨gb, hgb⟩ : ∃ gb, gb = wr.heap.size := ⟨_, rfl⟩
      obtain ⟨m, hm⟩ : ∃ m, m = Nat.min (xs.drop (64 * k)).length (zb 64).length := ⟨_, rfl⟩
      have HGBb := Lib.hid hgb
      have HM := Lib.hid hm
      clear hxd hdl hgb hm
      go_wp2_with (first
        | (go_at_call 23; (with_reducible refine hbl.mono ?_); rintro _ _ ⟨rfl, rfl⟩)
        | (refine wpList_copy_blk rfl _ _ rfl wr.heap.size 0 64 64 (xs.length - 64 * k) (cap - 64 * k) (some ⟨gi, oi + 64 * k, none⟩) (xs.drop (64 * k)) (zb 64) rfl rfl HDL.out (by simp [zb]) 5 [] [] (by have := Blk.of_alloc wr (u8s (zb 64)).toArray 5; simpa using this) rfl (fun b => b < w.heap.size) (HXD.out.keep fun b hb => (World.grownBy_alloc wr _ none).block b (Nat.lt_of_lt_of_le hb HBD.out.g.size) (by simp)) m HM.out.symm ?_
           intro wc hbc hgc hzc)
        | fail)
      have hb64 : (lay (xs.drop (64 * k)) (zb 64)).length = 64 := by rw [lay_length, zb_length]
      obtain ⟨bb, hbb⟩ : ∃ bb, bb = lay (xs.drop (64 * k)) (zb 64) := ⟨_, rfl⟩
      rw [← hbb] at hb64 hbc
      have hgwc : wr.grownBy wc none := World.grownBy.andThen (row' := some wr.heap.size) (World.grownBy_alloc wr _ none) hgc (by rintro j ⟨⟩; exact .inl (Nat.le_refl _))
      have hbdc := HBD.out.grown hgwc
      have hgbl : wr.heap.size < wc.heap.size := hbc.lt
      have hyb : Byt wc (fun b => b = wr.heap.size) (some ⟨wr.heap.size, 0, none⟩) bb := Blk.byt (pre := []) (post := []) hbc rfl
      have hwr := write_bd (c := 64) hbdc (i := k) (by rw [HSN.out.1]; exact hl1) hyb hb64 (fun j hj => by rw [hj]; exact ⟨hgbl, fun h => by have := HBD.out.d.lt _ h; omega⟩) (by have := HSN.out.2; omega)
      have HYB := Lib.hid hyb
      have HB64 := Lib.hid hb64
      have HS2 : Hid ((s.wrote k bb).n = n ∧ (s.wrote k bb).L.length ≤ k + 1) := by
        have h1 := (St.wrote_n s k bb)
        have h2 := HSN.out.2
        refine ⟨h1.trans HSN.out.1, ?_⟩
        unfold St.wrote
        split
        · simp [St.write, St.burn]; omega
        · simp [St.burn]; omega
      clear hbb hbc hgc hzc hyb hb64 hbl d1 d2 hbdc
      go_wp2_with (first
        | (go_at_call 24
           (with_reducible refine hwr.mono ?_)
           rintro _ wd ⟨rfl, fd, hbdd, hfd, hmd⟩
           have hyd := HYB.out.keep (w' := wd) fun b hb => by rw [hb]; exact hmd.block wr.heap.size hgbl fun h => by have := HBD.out.d.lt _ h; omega
           have hrw := rwrite_bd (c := 64) hbdd (i := k) (by rw [HSN.out.1]; exact hl1) hyd HB64.out (fun j hj => by rw [hj]; exact ⟨Nat.lt_of_lt_of_le hgbl hmd.size, fun h => by have := HBD.out.rd.lt _ h; omega⟩) (by have := HSN.out.2; omega)
           clear hwr hfd hmd hyd)
        | (go_at_call 25
           (with_reducible refine hrw.mono ?_)
           rintro _ we ⟨rfl, rfe, hbde⟩
           clear hrw)
        | fail)
      go_roundw
      case rel => exact ⟨k + 1, s.wrote k bb, fd, rfe, by omega, by go_num, hbde, HS2⟩
      case measure => simp [intOf]; omega
    · have hor : (k < n ∧ ¬ 64 * k < xs.length) ∨ ¬ k < n := by
        by_cases h1 : k < n
        · exact .inl ⟨h1, fun h2 => hlt ⟨h1, h2⟩⟩
        · exact .inr h1
      have hsn40 : s.n ≤ 40 := by rw [HSN.out.1]; exact hn64.2
      have hsl40 : s.L.length ≤ 100 := by have := HSN.out.2; omega
      clear hlt
      rcases hor with ⟨h1, h2⟩ | h1
      · have d1 : decide (64 * (k : Int) < (xs.length : Int)) = decide (64 * k < xs.length) := decide_eq_decide.2 (by omega)
        cases dead with
        | true =>
          have hfu := fuse_bd HBD.out 0 (by decide) (by decide)
          have hS1 : ((s.fuse 0).synced).n = s.n := St.synced_n _
          have hS2 : ((s.fuse 0).synced).L.length ≤ s.L.length := by
            unfold St.synced
            split
            · simp [St.sync]
            · simp [St.burn, St.fuse]
          obtain ⟨s2, hs2⟩ : ∃ s2, s2 = (s.fuse 0).synced := ⟨_, rfl⟩
          rw [← hs2] at hS1 hS2
          have hL0 : (s.fuse 0).L.length ≤ 1048576 := by show s.L.length ≤ 1048576; omega
          have HS2 := Lib.hid hs2
          clear hs2
          go_wp2_with (first
            | (go_at_call 23; (with_reducible refine hbl.mono ?_); rintro _ _ ⟨rfl, rfl⟩; clear hbl)
            | (go_at_call 12
               refine hfu.mono ?_
               rintro _ wd ⟨rfl, hbdd⟩
               obtain ⟨cs, hb44, hcs, hset⟩ := hbdd.cells
               clear hfu hbdd)
            | (refine wpList_store_cell rfl 3 _ _ rfl size3 rdp 4 (.int .i64 0) rfl rfl rfl _ _ hb44 hcs ?_
               intro we ke re
               have hbde := hset 0 we (by decide) (by decide) ke.out re.out
               have hsy := sync_bd hbde
               clear hset hb44)
            | (go_at_call 26
               refine hsy.mono ?_
               rintro _ wf ⟨rfl, hbdf⟩
               have hrs := rsync_bd hbdf hL0
               clear hsy hbde)
            | (go_at_call 27
               refine hrs.mono ?_
               rintro _ wg ⟨rfl, hbdg⟩
               rw [← HS2.out] at hbdg
               have HBG := Lib.hid hbdg
               clear hrs hbdf hbdg)
            | fail)
          obtain ⟨⟨e, S2, o⟩, hT⟩ : ∃ T, s2.openT = T := ⟨_, rfl⟩
          cases o with
          | none =>
            have hE := openT_none hT
            have heI : ¬ (e : Int) = 0 := by omega
            have heN : ((e : Int) != 0) = true := by simpa using heI
            have kO := open_any HBG.out.d (by omega)
            have kR2 := fun (W : World) (f' : Nat → Prop) (h : Bd w W f' dp S2 rf rdp s2) => ropen_any h.rd (by omega) (by omega)
            rw [hT] at kO kR2
            have HK2 := Lib.hid kR2
            clear hT hE kR2
            go_at_call 9
            refine kO.mono ?_
            rintro _ wa ⟨fa, hda, hfa, hma, rfl⟩
            have hba := HBG.out.code hda hfa hma
            have kR3 := HK2.out wa fa hba
            clear kO hda hfa hma
            go_wp2_with (first
              | (go_at_call 10
                 refine kR3.mono ?_
                 rintro _ wb ⟨rfb, hdb, hfb, hmb, vb, rfl⟩
                 have hbb := hba.ref hdb hfb hmb
                 have hnil := open_nil wb
                 clear kR3 hdb hfb hmb)
              | (go_at_call 9
                 refine hnil.mono ?_
                 rintro _ _ ⟨rfl, rfl⟩)
              | fail)
            go_quiet (fail)
            go_wp2
            go_ret
            exact ⟨rfl, hbb.g.trans (grown_drewN _)⟩
          | some u =>
            obtain rfl := openT_some hT
            have kO := open_beside HBG.out.d HBG.out.fn HBG.out.g HBG.out.rd HBG.out.ap (by omega) hT
            have kR2 := fun (W : World) (f' fs' : Nat → Prop) (sp : Nat) (h : Lv w W f' fs' sp dp S2 u) (hr : RDsk W rf rdp s2) (hap : ∀ k, rf k → ¬ f' k ∧ ¬ fs' k) => ropen_beside h hr HBG.out.rfn hap (by omega) (by omega) hT
            have HK2 := Lib.hid kR2
            clear hT kR2
            go_at_call 9
            refine kO.mono ?_
            rintro _ wa ⟨sp, fa, fsa, rfl, hva, hoka, hra, hapa⟩
            have kR3 := HK2.out wa fa fsa sp hva hra hapa
            have HOK := Lib.hid hoka
            clear kO hva hra hapa hoka
            go_wp2_with (first
              | (go_at_call 10
                 refine kR3.mono ?_
                 rintro _ wb ⟨rsp, rfb, rfsb, rfl, htw⟩
                 have hnil := open_nil wb
                 clear kR3)
              | (go_at_call 9
                 refine hnil.mono ?_
                 rintro _ _ ⟨rfl, rfl⟩)
              | fail)
            have hgb := htw.cv.g
            have hal := all_sto (htw.cv.grown (w' := wb.drew) (grown_drewN 1)).st HOK.out.len
            have hrs := htw.rs
            obtain ⟨Ar, cr, r1, r2, r3, r4⟩ := hrs
            have s0 : wb.drew.cell? ⟨rsp, 5, none⟩ = some (.slice Ar u.L.length cr) ∧ wb.drew.cell? ⟨rsp, 2, none⟩ = some (.int .u64 (u.e : Int)) := ⟨r1.get 5 _ rfl, r1.get 2 _ rfl⟩
            have hlc : (chgs u.L).length = u.L.length := by simp [chgs]
            have HR2 := Lib.hid r2
            have HR4 := Lib.hid r4
            have HCV := Lib.hid htw.cv
            have HGB := Lib.hid hgb
            clear r1 r2 r3 r4 htw hgb
            go_region_held3 (fun W => W.cell? ⟨rsp, 5, none⟩ = some (.slice Ar u.L.length cr) ∧ W.cell? ⟨rsp, 2, none⟩ = some (.int .u64 (u.e : Int))) (first | exact s0 | exact s1 | exact s2 | exact s3) (first
              | (go_at_call 16
                 (with_reducible refine hal.mono ?_)
                 rintro _ wc ⟨gW, cW, rfl, -, -, hx5, hg5⟩
                 have s1 : wc.cell? ⟨rsp, 5, none⟩ = some (.slice Ar u.L.length cr) ∧ wc.cell? ⟨rsp, 2, none⟩ = some (.int .u64 (u.e : Int)) := ⟨hg5.cell s0.1 (by simp), hg5.cell s0.2 (by simp)⟩
                 have hgc : wb.grownBy wc none := (grown_drewN 1).trans hg5
                 have hsm := same_any (ca := cW) (cb := cr) hx5 (HR2.out.keep fun b hb => hgc.block b (HR4.out b hb) (by simp)) (fun b hb => hb.2) (fun b hb => Nat.lt_of_lt_of_le (HR4.out b hb) hgc.size) (by rw [hlc]; have := HOK.out.len; omega)
                 rw [hlc] at hsm ⊢)
              | (go_at_call 15
                 (with_reducible refine hsm.mono ?_)
                 rintro _ we ⟨r_, rfl, hr_, hg6⟩
                 have hr1 : r_ = true := hr_ rfl
                 subst hr1
                 have s2 : we.cell? ⟨rsp, 5, none⟩ = some (.slice Ar u.L.length cr) ∧ we.cell? ⟨rsp, 2, none⟩ = some (.int .u64 (u.e : Int)) := ⟨hg6.cell s1.1 (by simp), hg6.cell s1.2 (by simp)⟩
                 have hep := epoch_any (HCV.out.grown (hgc.trans hg6)).st)
              | (go_at_call 17
                 (with_reducible refine hep.mono ?_)
                 rintro _ _ ⟨rfl, rfl⟩
                 have s3 := s2)
              | fail)
            all_goals
              go_wp2
              go_ret
              exact ⟨rfl, HGB.out.trans (hgc.trans hg6)⟩
        | false =>
          go_wp2_with (first
            | (go_at_call 23; (with_reducible refine hbl.mono ?_); rintro _ _ ⟨rfl, rfl⟩; clear hbl)
            | fail)
          obtain ⟨⟨e, S2, o⟩, hT⟩ : ∃ T, s.openT = T := ⟨_, rfl⟩
          cases o with
          | none =>
            have hE := openT_none hT
            have heI : ¬ (e : Int) = 0 := by omega
            have heN : ((e : Int) != 0) = true := by simpa using heI
            have kO := open_any HBD.out.d (by omega)
            have kR2 := fun (W : World) (f' : Nat → Prop) (h : Bd w W f' dp S2 rf rdp s) => ropen_any h.rd (by omega) (by omega)
            rw [hT] at kO kR2
            have HK2 := Lib.hid kR2
            clear hT hE kR2
            go_at_call 9
            refine kO.mono ?_
            rintro _ wa ⟨fa, hda, hfa, hma, rfl⟩
            have hba := HBD.out.code hda hfa hma
            have kR3 := HK2.out wa fa hba
            clear kO hda hfa hma
            go_wp2_with (first
              | (go_at_call 10
                 refine kR3.mono ?_
                 rintro _ wb ⟨rfb, hdb, hfb, hmb, vb, rfl⟩
                 have hbb := hba.ref hdb hfb hmb
                 have hnil := open_nil wb
                 clear kR3 hdb hfb hmb)
              | (go_at_call 9
                 refine hnil.mono ?_
                 rintro _ _ ⟨rfl, rfl⟩)
              | fail)
            go_quiet (fail)
            go_wp2
            go_ret
            exact ⟨rfl, hbb.g.trans (grown_drewN _)⟩
          | some u =>
            obtain rfl := openT_some hT
            have kO := open_beside HBD.out.d HBD.out.fn HBD.out.g HBD.out.rd HBD.out.ap (by omega) hT
            have kR2 := fun (W : World) (f' fs' : Nat → Prop) (sp : Nat) (h : Lv w W f' fs' sp dp S2 u) (hr : RDsk W rf rdp s) (hap : ∀ k, rf k → ¬ f' k ∧ ¬ fs' k) => ropen_beside h hr HBD.out.rfn hap (by omega) (by omega) hT
            have HK2 := Lib.hid kR2
            clear hT kR2
            go_at_call 9
            refine kO.mono ?_
            rintro _ wa ⟨sp, fa, fsa, rfl, hva, hoka, hra, hapa⟩
            have kR3 := HK2.out wa fa fsa sp hva hra hapa
            have HOK := Lib.hid hoka
            clear kO hva hra hapa hoka
            go_wp2_with (first
              | (go_at_call 10
                 refine kR3.mono ?_
                 rintro _ wb ⟨rsp, rfb, rfsb, rfl, htw⟩
                 have hnil := open_nil wb
                 clear kR3)
              | (go_at_call 9
                 refine hnil.mono ?_
                 rintro _ _ ⟨rfl, rfl⟩)
              | fail)
            have hgb := htw.cv.g
            have hal := all_sto (htw.cv.grown (w' := wb.drew) (grown_drewN 1)).st HOK.out.len
            have hrs := htw.rs
            obtain ⟨Ar, cr, r1, r2, r3, r4⟩ := hrs
            have s0 : wb.drew.cell? ⟨rsp, 5, none⟩ = some (.slice Ar u.L.length cr) ∧ wb.drew.cell? ⟨rsp, 2, none⟩ = some (.int .u64 (u.e : Int)) := ⟨r1.get 5 _ rfl, r1.get 2 _ rfl⟩
            have hlc : (chgs u.L).length = u.L.length := by simp [chgs]
            have HR2 := Lib.hid r2
            have HR4 := Lib.hid r4
            have HCV := Lib.hid htw.cv
            have HGB := Lib.hid hgb
            clear r1 r2 r3 r4 htw hgb
            go_region_held3 (fun W => W.cell? ⟨rsp, 5, none⟩ = some (.slice Ar u.L.length cr) ∧ W.cell? ⟨rsp, 2, none⟩ = some (.int .u64 (u.e : Int))) (first | exact s0 | exact s1 | exact s2 | exact s3) (first
              | (go_at_call 16
                 (with_reducible refine hal.mono ?_)
                 rintro _ wc ⟨gW, cW, rfl, -, -, hx5, hg5⟩
                 have s1 : wc.cell? ⟨rsp, 5, none⟩ = some (.slice Ar u.L.length cr) ∧ wc.cell? ⟨rsp, 2, none⟩ = some (.int .u64 (u.e : Int)) := ⟨hg5.cell s0.1 (by simp), hg5.cell s0.2 (by simp)⟩
                 have hgc : wb.grownBy wc none := (grown_drewN 1).trans hg5
                 have hsm := same_any (ca := cW) (cb := cr) hx5 (HR2.out.keep fun b hb => hgc.block b (HR4.out b hb) (by simp)) (fun b hb => hb.2) (fun b hb => Nat.lt_of_lt_of_le (HR4.out b hb) hgc.size) (by rw [hlc]; have := HOK.out.len; omega)
                 rw [hlc] at hsm ⊢)
              | (go_at_call 15
                 (with_reducible refine hsm.mono ?_)
                 rintro _ we ⟨r_, rfl, hr_, hg6⟩
                 have hr1 : r_ = true := hr_ rfl
                 subst hr1
                 have s2 : we.cell? ⟨rsp, 5, none⟩ = some (.slice Ar u.L.length cr) ∧ we.cell? ⟨rsp, 2, none⟩ = some (.int .u64 (u.e : Int)) := ⟨hg6.cell s1.1 (by simp), hg6.cell s1.2 (by simp)⟩
                 have hep := epoch_any (HCV.out.grown (hgc.trans hg6)).st)
              | (go_at_call 17
                 (with_reducible refine hep.mono ?_)
                 rintro _ _ ⟨rfl, rfl⟩
                 have s3 := s2)
              | fail)
            all_goals
              go_wp2
              go_ret
              exact ⟨rfl, HGB.out.trans (hgc.trans hg6)⟩
      · have d1 : decide (64 * (k : Int) < (xs.length : Int)) = decide (64 * k < xs.length) := decide_eq_decide.2 (by omega)
        cases dead with
        | true =>
          have hfu := fuse_bd HBD.out 0 (by decide) (by decide)
          have hS1 : ((s.fuse 0).synced).n = s.n := St.synced_n _
          have hS2 : ((s.fuse 0).synced).L.length ≤ s.L.length := by
            unfold St.synced
            split
            · simp [St.sync]
            · simp [St.burn, St.fuse]
          obtain ⟨s2, hs2⟩ : ∃ s2, s2 = (s.fuse 0).synced := ⟨_, rfl⟩
          rw [← hs2] at hS1 hS2
          have hL0 : (s.fuse 0).L.length ≤ 1048576 := by show s.L.length ≤ 1048576; omega
          have HS2 := Lib.hid hs2
          clear hs2
          go_wp2_with (first
            | (go_at_call 23; (with_reducible refine hbl.mono ?_); rintro _ _ ⟨rfl, rfl⟩; clear hbl)
            | (go_at_call 12
               refine hfu.mono ?_
               rintro _ wd ⟨rfl, hbdd⟩
               obtain ⟨cs, hb44, hcs, hset⟩ := hbdd.cells
               clear hfu hbdd)
            | (refine wpList_store_cell rfl 3 _ _ rfl size3 rdp 4 (.int .i64 0) rfl rfl rfl _ _ hb44 hcs ?_
               intro we ke re
               have hbde := hset 0 we (by decide) (by decide) ke.out re.out
               have hsy := sync_bd hbde
               clear hset hb44)
            | (go_at_call 26
               refine hsy.mono ?_
               rintro _ wf ⟨rfl, hbdf⟩
               have hrs := rsync_bd hbdf hL0
               clear hsy hbde)
            | (go_at_call 27
               refine hrs.mono ?_
               rintro _ wg ⟨rfl, hbdg⟩
               rw [← HS2.out] at hbdg
               have HBG := Lib.hid hbdg
               clear hrs hbdf hbdg)
            | fail)
          obtain ⟨⟨e, S2, o⟩, hT⟩ : ∃ T, s2.openT = T := ⟨_, rfl⟩
          cases o with
          | none =>
            have hE := openT_none hT
            have heI : ¬ (e : Int) = 0 := by omega
            have heN : ((e : Int) != 0) = true := by simpa using heI
            have kO := open_any HBG.out.d (by omega)
            have kR2 := fun (W : World) (f' : Nat → Prop) (h : Bd w W f' dp S2 rf rdp s2) => ropen_any h.rd (by omega) (by omega)
            rw [hT] at kO kR2
            have HK2 := Lib.hid kR2
            clear hT hE kR2
            go_at_call 9
            refine kO.mono ?_
            rintro _ wa ⟨fa, hda, hfa, hma, rfl⟩
            have hba := HBG.out.code hda hfa hma
            have kR3 := HK2.out wa fa hba
            clear kO hda hfa hma
            go_wp2_with (first
              | (go_at_call 10
                 refine kR3.mono ?_
                 rintro _ wb ⟨rfb, hdb, hfb, hmb, vb, rfl⟩
                 have hbb := hba.ref hdb hfb hmb
                 have hnil := open_nil wb
                 clear kR3 hdb hfb hmb)
              | (go_at_call 9
                 refine hnil.mono ?_
                 rintro _ _ ⟨rfl, rfl⟩)
              | fail)
            go_quiet (fail)
            go_wp2
            go_ret
            exact ⟨rfl, hbb.g.trans (grown_drewN _)⟩
          | some u =>
            obtain rfl := openT_some hT
            have kO := open_beside HBG.out.d HBG.out.fn HBG.out.g HBG.out.rd HBG.out.ap (by omega) hT
            have kR2 := fun (W : World) (f' fs' : Nat → Prop) (sp : Nat) (h : Lv w W f' fs' sp dp S2 u) (hr : RDsk W rf rdp s2) (hap : ∀ k, rf k → ¬ f' k ∧ ¬ fs' k) => ropen_beside h hr HBG.out.rfn hap (by omega) (by omega) hT
            have HK2 := Lib.hid kR2
            clear hT kR2
            go_at_call 9
            refine kO.mono ?_
            rintro _ wa ⟨sp, fa, fsa, rfl, hva, hoka, hra, hapa⟩
            have kR3 := HK2.out wa fa fsa sp hva hra hapa
            have HOK := Lib.hid hoka
            clear kO hva hra hapa hoka
            go_wp2_with (first
              | (go_at_call 10
                 refine kR3.mono ?_
                 rintro _ wb ⟨rsp, rfb, rfsb, rfl, htw⟩
                 have hnil := open_nil wb
                 clear kR3)
              | (go_at_call 9
                 refine hnil.mono ?_
                 rintro _ _ ⟨rfl, rfl⟩)
              | fail)
            have hgb := htw.cv.g
            have hal := all_sto (htw.cv.grown (w' := wb.drew) (grown_drewN 1)).st HOK.out.len
            have hrs := htw.rs
            obtain ⟨Ar, cr, r1, r2, r3, r4⟩ := hrs
            have s0 : wb.drew.cell? ⟨rsp, 5, none⟩ = some (.slice Ar u.L.length cr) ∧ wb.drew.cell? ⟨rsp, 2, none⟩ = some (.int .u64 (u.e : Int)) := ⟨r1.get 5 _ rfl, r1.get 2 _ rfl⟩
            have hlc : (chgs u.L).length = u.L.length := by simp [chgs]
            have HR2 := Lib.hid r2
            have HR4 := Lib.hid r4
            have HCV := Lib.hid htw.cv
            have HGB := Lib.hid hgb
            clear r1 r2 r3 r4 htw hgb
            go_region_held3 (fun W => W.cell? ⟨rsp, 5, none⟩ = some (.slice Ar u.L.length cr) ∧ W.cell? ⟨rsp, 2, none⟩ = some (.int .u64 (u.e : Int))) (first | exact s0 | exact s1 | exact s2 | exact s3) (first
              | (go_at_call 16
                 (with_reducible refine hal.mono ?_)
                 rintro _ wc ⟨gW, cW, rfl, -, -, hx5, hg5⟩
                 have s1 : wc.cell? ⟨rsp, 5, none⟩ = some (.slice Ar u.L.length cr) ∧ wc.cell? ⟨rsp, 2, none⟩ = some (.int .u64 (u.e : Int)) := ⟨hg5.cell s0.1 (by simp), hg5.cell s0.2 (by simp)⟩
                 have hgc : wb.grownBy wc none := (grown_drewN 1).trans hg5
                 have hsm := same_any (ca := cW) (cb := cr) hx5 (HR2.out.keep fun b hb => hgc.block b (HR4.out b hb) (by simp)) (fun b hb => hb.2) (fun b hb => Nat.lt_of_lt_of_le (HR4.out b hb) hgc.size) (by rw [hlc]; have := HOK.out.len; omega)
                 rw [hlc] at hsm ⊢)
              | (go_at_call 15
                 (with_reducible refine hsm.mono ?_)
                 rintro _ we ⟨r_, rfl, hr_, hg6⟩
                 have hr1 : r_ = true := hr_ rfl
                 subst hr1
                 have s2 : we.cell? ⟨rsp, 5, none⟩ = some (.slice Ar u.L.length cr) ∧ we.cell? ⟨rsp, 2, none⟩ = some (.int .u64 (u.e : Int)) := ⟨hg6.cell s1.1 (by simp), hg6.cell s1.2 (by simp)⟩
                 have hep := epoch_any (HCV.out.grown (hgc.trans hg6)).st)
              | (go_at_call 17
                 (with_reducible refine hep.mono ?_)
                 rintro _ _ ⟨rfl, rfl⟩
                 have s3 := s2)
              | fail)
            all_goals
              go_wp2
              go_ret
              exact ⟨rfl, HGB.out.trans (hgc.trans hg6)⟩
        | false =>
          go_wp2_with (first
            | (go_at_call 23; (with_reducible refine hbl.mono ?_); rintro _ _ ⟨rfl, rfl⟩; clear hbl)
            | fail)
          obtain ⟨⟨e, S2, o⟩, hT⟩ : ∃ T, s.openT = T := ⟨_, rfl⟩
          cases o with
          | none =>
            have hE := openT_none hT
            have heI : ¬ (e : Int) = 0 := by omega
            have heN : ((e : Int) != 0) = true := by simpa using heI
            have kO := open_any HBD.out.d (by omega)
            have kR2 := fun (W : World) (f' : Nat → Prop) (h : Bd w W f' dp S2 rf rdp s) => ropen_any h.rd (by omega) (by omega)
            rw [hT] at kO kR2
            have HK2 := Lib.hid kR2
            clear hT hE kR2
            go_at_call 9
            refine kO.mono ?_
            rintro _ wa ⟨fa, hda, hfa, hma, rfl⟩
            have hba := HBD.out.code hda hfa hma
            have kR3 := HK2.out wa fa hba
            clear kO hda hfa hma
            go_wp2_with (first
              | (go_at_call 10
                 refine kR3.mono ?_
                 rintro _ wb ⟨rfb, hdb, hfb, hmb, vb, rfl⟩
                 have hbb := hba.ref hdb hfb hmb
                 have hnil := open_nil wb
                 clear kR3 hdb hfb hmb)
              | (go_at_call 9
                 refine hnil.mono ?_
                 rintro _ _ ⟨rfl, rfl⟩)
              | fail)
            go_quiet (fail)
            go_wp2
            go_ret
            exact ⟨rfl, hbb.g.trans (grown_drewN _)⟩
          | some u =>
            obtain rfl := openT_some hT
            have kO := open_beside HBD.out.d HBD.out.fn HBD.out.g HBD.out.rd HBD.out.ap (by omega) hT
            have kR2 := fun (W : World) (f' fs' : Nat → Prop) (sp : Nat) (h : Lv w W f' fs' sp dp S2 u) (hr : RDsk W rf rdp s) (hap : ∀ k, rf k → ¬ f' k ∧ ¬ fs' k) => ropen_beside h hr HBD.out.rfn hap (by omega) (by omega) hT
            have HK2 := Lib.hid kR2
            clear hT kR2
            go_at_call 9
            refine kO.mono ?_
            rintro _ wa ⟨sp, fa, fsa, rfl, hva, hoka, hra, hapa⟩
            have kR3 := HK2.out wa fa fsa sp hva hra hapa
            have HOK := Lib.hid hoka
            clear kO hva hra hapa hoka
            go_wp2_with (first
              | (go_at_call 10
                 refine kR3.mono ?_
                 rintro _ wb ⟨rsp, rfb, rfsb, rfl, htw⟩
                 have hnil := open_nil wb
                 clear kR3)
              | (go_at_call 9
                 refine hnil.mono ?_
                 rintro _ _ ⟨rfl, rfl⟩)
              | fail)
            have hgb := htw.cv.g
            have hal := all_sto (htw.cv.grown (w' := wb.drew) (grown_drewN 1)).st HOK.out.len
            have hrs := htw.rs
            obtain ⟨Ar, cr, r1, r2, r3, r4⟩ := hrs
            have s0 : wb.drew.cell? ⟨rsp, 5, none⟩ = some (.slice Ar u.L.length cr) ∧ wb.drew.cell? ⟨rsp, 2, none⟩ = some (.int .u64 (u.e : Int)) := ⟨r1.get 5 _ rfl, r1.get 2 _ rfl⟩
            have hlc : (chgs u.L).length = u.L.length := by simp [chgs]
            have HR2 := Lib.hid r2
            have HR4 := Lib.hid r4
            have HCV := Lib.hid htw.cv
            have HGB := Lib.hid hgb
            clear r1 r2 r3 r4 htw hgb
            go_region_held3 (fun W => W.cell? ⟨rsp, 5, none⟩ = some (.slice Ar u.L.length cr) ∧ W.cell? ⟨rsp, 2, none⟩ = some (.int .u64 (u.e : Int))) (first | exact s0 | exact s1 | exact s2 | exact s3) (first
              | (go_at_call 16
                 (with_reducible refine hal.mono ?_)
                 rintro _ wc ⟨gW, cW, rfl, -, -, hx5, hg5⟩
                 have s1 : wc.cell? ⟨rsp, 5, none⟩ = some (.slice Ar u.L.length cr) ∧ wc.cell? ⟨rsp, 2, none⟩ = some (.int .u64 (u.e : Int)) := ⟨hg5.cell s0.1 (by simp), hg5.cell s0.2 (by simp)⟩
                 have hgc : wb.grownBy wc none := (grown_drewN 1).trans hg5
                 have hsm := same_any (ca := cW) (cb := cr) hx5 (HR2.out.keep fun b hb => hgc.block b (HR4.out b hb) (by simp)) (fun b hb => hb.2) (fun b hb => Nat.lt_of_lt_of_le (HR4.out b hb) hgc.size) (by rw [hlc]; have := HOK.out.len; omega)
                 rw [hlc] at hsm ⊢)
              | (go_at_call 15
                 (with_reducible refine hsm.mono ?_)
                 rintro _ we ⟨r_, rfl, hr_, hg6⟩
                 have hr1 : r_ = true := hr_ rfl
                 subst hr1
                 have s2 : we.cell? ⟨rsp, 5, none⟩ = some (.slice Ar u.L.length cr) ∧ we.cell? ⟨rsp, 2, none⟩ = some (.int .u64 (u.e : Int)) := ⟨hg6.cell s1.1 (by simp), hg6.cell s1.2 (by simp)⟩
                 have hep := epoch_any (HCV.out.grown (hgc.trans hg6)).st)
              | (go_at_call 17
                 (with_reducible refine hep.mono ?_)
                 rintro _ _ ⟨rfl, rfl⟩
                 have s3 := s2)
              | fail)
            all_goals
              go_wp2
              go_ret
              exact ⟨rfl, HGB.out.trans (hgc.trans hg6)⟩
end Go.Proofs.YtonpcenjipigpaaGreat
