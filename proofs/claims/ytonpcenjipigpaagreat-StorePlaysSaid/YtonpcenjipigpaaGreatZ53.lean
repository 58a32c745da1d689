/- StorePlays' walk. Conditions: none. -/
import Derived.Test.YtonpcenjipigpaaGreatZ52
namespace Go.Proofs.YtonpcenjipigpaaGreat
open Go.RowKit
set_option maxRecDepth 100000 in
set_option maxHeartbeats 16000000 in
theorem plays_walk (w : World) {A : Option Addr} {l : List StpR} {cl : Nat} (b0 : Int) (hst : Stps w (fun b => b < w.heap.size) A l) :
    Calls Tryz.prog 3 #[.int .i64 b0, .slice A l.length cl] w fun e w' => e = .returned (.bool true) ∧ w.grownBy w' none := by
  have HA := Lib.hid (alive_any w)
  have HST := Lib.hid hst
  obtain ⟨b, hb⟩ : ∃ b : Int, b = max 0 (min b0 64) := ⟨_, rfl⟩
  have hbr : 0 ≤ b ∧ b ≤ 64 := by omega
  obtain ⟨n, hn⟩ : ∃ n, n = nOf b := ⟨_, rfl⟩
  have hn64 : 1 ≤ n ∧ n ≤ 64 := by rw [hn]; unfold nOf; omega
  have kN : Hid (∀ W, Calls Tryz.prog 7 #[.int .i64 b] W (NewD W n)) := Lib.hid fun W => by rw [hn]; exact new_any W b
  have kR : Hid (∀ W, Calls Tryz.prog 8 #[.int .i64 b] W (NewR W n)) := Lib.hid fun W => by rw [hn]; exact rnew_any W b
  have HB := Lib.hid hb
  clear hst hn hb
  go_enter Tryz.func3, Tryz.ntmps3
  go_wp2_with (first
    | (go_at_call 6
       refine HA.out.mono ?_
       rintro _ w1 ⟨rfl, hg1⟩
       clear HA)
    | (go_at_call 7
       try rw [← HB.out]
       refine (kN.out w1).mono ?_
       rintro _ w2 ⟨dp, f2, rfl, hd2, hf2, hg2⟩)
    | (go_at_call 8
       try rw [← HB.out]
       refine (kR.out w2).mono ?_
       rintro _ w3 ⟨rdp, rf3, rfl, hr3, hf3, hg3⟩
       have hbd := Bd.of hd2 (fun k hk => Nat.le_trans hg1.size (hf2 k hk)) (hg1.trans hg2) hr3 hf3 hg3
       clear hd2 hf2 hr3 hf3 hg1 hg2 hg3)
    | fail)
  have HBD := Lib.hid hbd
  clear hbd
  by_cases h4 : n < 4
  · have hT : (St.mk0 n).openT = (1, St.mk0 n, none) := by rw [St.openT, if_pos (show (St.mk0 n).n < 4 from h4)]
    have kO := open_any HBD.out.d (by show (0 : Nat) ≤ 1000000; decide)
    have kR2 := fun (W : World) (f' : Nat → Prop) (h : Bd w W f' dp (St.mk0 n) rf3 rdp (St.mk0 n)) => ropen_any h.rd (by show n ≤ 4096; omega) (by show (0 : Nat) ≤ 1000000; decide)
    rw [hT] at kO kR2
    have HK2 := Lib.hid kR2
    clear hT kR2
    go_at_call 9
    refine kO.mono ?_
    rintro _ wa ⟨fa, hda, hfa, hma, rfl⟩
    have hba := HBD.out.code hda hfa hma
    have kR3 := HK2.out wa fa hba
    clear kO hda hfa hma
    go_wp2_with (first
      | (go_at_call 10
         refine kR3.mono ?_
         rintro _ wb ⟨rfb, hdb, hfb, hmb, vb, rfl⟩
         have hbb := hba.ref hdb hfb hmb
         clear kR3 hdb hfb hmb)
      | fail)
    go_ret
    exact ⟨rfl, hbb.g⟩
  obtain ⟨s1, t1, hT, hP1, -⟩ := Pst.start (n := n) (by omega) (by omega)
  have kO := open_beside HBD.out.d HBD.out.fn HBD.out.g HBD.out.rd HBD.out.ap (by show (0 : Nat) ≤ 1000000; decide) hT
  have kR2 := fun (W : World) (f' fs' : Nat → Prop) (sp : Nat) (h : Lv w W f' fs' sp dp s1 t1) (hr : RDsk W rf3 rdp (St.mk0 n)) (hap : ∀ k, rf3 k → ¬ f' k ∧ ¬ fs' k) => ropen_beside h hr HBD.out.rfn hap (by show n ≤ 4096; omega) (by show (0 : Nat) ≤ 1000000; decide) hT
  have HK2 := Lib.hid kR2
  have HP1 := Lib.hid hP1
  clear hT kR2 hP1
  go_at_call 9
  refine kO.mono ?_
  rintro _ wa ⟨sp, fa, fsa, rfl, hva, hoka, hra, hapa⟩
  have kR3 := HK2.out wa fa fsa sp hva hra hapa
  clear kO hva hra hapa hoka HBD HK2
  go_wp2_with (first
    | (go_at_call 10
       refine kR3.mono ?_
       rintro _ wb ⟨rsp, rfb, rfsb, rfl, htw⟩
       clear kR3)
    | fail)
  have HTW := Lib.hid htw
  clear htw
  go_loopw [7, 8, 9, 10, 11] (fun x7 x8 x9 x10 x11 wr => ∃ (k sp rsp : Nat) (s : St) (t : Ste) (f fs rf rfs : Nat → Prop), k ≤ l.length ∧ k ≤ 40 ∧ x11 = .int .i64 (k : Int) ∧ x7 = .pointer (some ⟨sp, 0, none⟩) ∧ x9 = .pointer (some ⟨rsp, 0, none⟩) ∧ x8 = .int .i64 0 ∧ x10 = .int .i64 0 ∧ Hid (Tw w wr f fs sp dp s t rf rfs rsp rdp s t s.dead) ∧ Hid (Pst n s t)) (fun _ _ _ _ x11 _ => l.length - (intOf x11).toNat)
  case atStart => exact ⟨0, sp, rsp, s1, t1, fa, fsa, rfb, rfsb, Nat.zero_le _, Nat.zero_le _, rfl, rfl, rfl, rfl, rfl, HTW.out, HP1.out⟩
  case round =>
    clear HTW HP1
    obtain ⟨k, sp, rsp, s, t, f, fs, rf, rfs, hk, hk40, rfl, rfl, rfl, rfl, rfl, HTW, HP⟩ := hrel
    by_cases hlt : k < l.length ∧ k < 40
    · have d1 : decide ((k : Int) < (l.length : Int)) = true := decide_eq_true (by omega)
      have d2 : decide ((k : Int) < 40) = true := decide_eq_true (by omega)
      obtain ⟨bb, o, A', c', rfl, hokb, z0, z1, z2, z3, hcl, hf64, hk64, hch⟩ := HST.out.at hlt.1
      obtain ⟨x, hx⟩ : ∃ x, x = l[k]'hlt.1 := ⟨_, rfl⟩
      rw [← hx] at z0 z1 z2 z3 hcl hf64 hk64 hch
      obtain ⟨ch, fz, cr, kp⟩ := x
      dsimp only at z0 z1 z2 z3 hcl hf64 hk64 hch
      unfold In64 at hf64 hk64
      have kQ : Hid (∀ W, w.grownBy W none → W.cell? ⟨bb, o + k * 4, none⟩ = some (.slice A' ch.length c') ∧ W.cell? ⟨bb, o + k * 4 + 1, none⟩ = some (.int .i64 fz) ∧ W.cell? ⟨bb, o + k * 4 + 2, none⟩ = some (.bool cr) ∧ W.cell? ⟨bb, o + k * 4 + 3, none⟩ = some (.int .i64 kp)) := Lib.hid fun W hW => ⟨hW.cell z0 (by simp), hW.cell z1 (by simp), hW.cell z2 (by simp), hW.cell z3 (by simp)⟩
      have kch : Hid (∀ W, w.grownBy W none → Chs W (fun b => b < w.heap.size) A' ch) := Lib.hid fun W hW => hch.keep fun b hb => hW.block b hb (by simp)
      obtain ⟨q0, q1, q2, q3⟩ := kQ.out wr HTW.out.cv.g
      have hsm := small_any (cl := c') (kch.out wr HTW.out.cv.g) (fun b hb => Nat.lt_of_lt_of_le hb HTW.out.cv.g.size) hcl
      clear hx z0 z1 z2 z3 hch
      go_wp2_with fail
      go_at_call 11
      refine hsm.mono ?_
      rintro _ w5 ⟨sb, rfl, hg5, hsb⟩
      have htw5 := HTW.out.grown hg5
      obtain ⟨q0, q1, q2, q3⟩ := kQ.out w5 htw5.cv.g
      have HT5 := Lib.hid htw5
      clear hsm hg5 htw5 HTW
      cases sb with
      | false =>
        go_wp2
        go_ret
        exact ⟨rfl, HT5.out.cv.g⟩
      | true =>
        have h30 : ch.length ≤ 30000 := hsb rfl
        clear hsb
        go_upto_if 70 with fail
        go_cut [] from 48 to 166 (fun wx => ∃ (s' : St), Hid (Tw w wx f fs sp dp s' t rf rfs rsp rdp s' t s'.dead) ∧ Hid (Pst n s' t))
        case first =>
          by_cases hf0 : 0 < fz
          · have df : decide (0 < fz) = true := decide_eq_true hf0
            have wf : IntKind.i64.wrap (fz - 1) = fz - 1 := IntWalk.i64_in _ (by omega)
            have hfu := fuse_tw HT5.out (fz - 1) (by omega) (by omega)
            go_wp2_with (first
              | (go_at_call 12
                 refine hfu.mono ?_
                 rintro _ w6 ⟨rfl, htw6⟩
                 obtain ⟨cs, hb44, hcs, hset⟩ := htw6.cells
                 obtain ⟨q0, q1, q2, q3⟩ := kQ.out w6 htw6.cv.g
                 clear hfu htw6)
              | (refine wpList_store_cell rfl 3 _ _ rfl size3 rdp 4 (.int .i64 (fz - 1)) rfl rfl rfl _ _ hb44 hcs ?_
                 intro w7 k7 r7
                 have htw7 := hset (fz - 1) w7 (by omega) (by omega) k7.out r7.out)
              | fail)
            go_meet
            case rel => exact ⟨s.fuse (fz - 1), htw7, HP.out.fuse _⟩
          · have df : decide (0 < fz) = false := decide_eq_false hf0
            go_wp2_with fail
            go_meet
            case rel => exact ⟨s, HT5.out, HP.out⟩
        case rest =>
          obtain ⟨s6, HT6, HP6⟩ := hcut
          obtain ⟨⟨e, s7, t7⟩, hcm⟩ : ∃ r, s6.commitT t ch = r := ⟨_, rfl⟩
          have hp7 := HP6.out.commit (by omega) ch hcm
          obtain ⟨q0, q1, q2, q3⟩ := kQ.out wc HT6.out.cv.g
          have HP7 := Lib.hid hp7
          have HCM := Lib.hid hcm
          clear hp7 hcm HT5 HP
          go_upto_region 18 with fail
          have hc13 := commit_tw (cl := c') (HT6.out.grown (w' := wc.drew) (grown_drewN 1)) (by rw [HP6.out.nn]; exact HP6.out.ok) HP6.out.gd (kch.out wc.drew (HT6.out.cv.g.trans (grown_drewN 1))) rfl h30 (by have := HP6.out.len; omega) HCM.out
          have hlc7 : (chgs t7.L).length = t7.L.length := by simp [chgs]
          have hlt0 := hlt.1
          go_cut [121] from 48 to 166 (fun v wx => v = .bool false ∧ ∃ f fs rf rfs, Hid (Tw w wx f fs sp dp s7 t7 rf rfs rsp rdp s7 t7 s7.dead))
          case first =>
            refine wp_region_held_drew (S := fun W => W.cell? ⟨bb, o + k * 4, none⟩ = some (.slice A' ch.length c')) (by kernel_rfl) (kQ.out wc.drew (HT6.out.cv.g.trans (grown_drewN 1))).1 (fun hHeld => ?_)
            refine' wpAnyH_take (i := 0) (oi := { dst := some 88, op := Op.move (Operand.tmp 7), type := 28, pos := "law.go:68", after := #[], guard := none }) (v := .pointer (some ⟨sp, 0, none⟩)) rfl (by kernel_rfl) (by kernel_rfl) (by kernel_rfl) (fun _ _ _ h => h) (Or.inl ⟨by rfl, fun w' hSw => by go_simp⟩) (by assumption) ?qz1
            try simp only [Act.put, List.setIfInBounds_toArray, List.set_cons_zero, List.set_cons_succ]
            refine' wpAnyH_take (i := 1) (oi := { dst := some 89, op := Op.move (Operand.tmp 1), type := 22, pos := "law.go:68", after := #[], guard := none }) (v := .slice (some ⟨bb, o, none⟩) l.length cl) rfl (by kernel_rfl) (by kernel_rfl) (by kernel_rfl) (fun _ _ _ h => h) (Or.inl ⟨by rfl, fun w' hSw => by go_simp⟩) (by assumption) ?qz2
            try simp only [Act.put, List.setIfInBounds_toArray, List.set_cons_zero, List.set_cons_succ]
            refine' wpAnyH_take (i := 2) (oi := { dst := some 90, op := Op.move (Operand.tmp 11), type := 3, pos := "law.go:68", after := #[], guard := none }) (v := .int .i64 (k : Int)) rfl (by kernel_rfl) (by kernel_rfl) (by kernel_rfl) (fun _ _ _ h => h) (Or.inl ⟨by rfl, fun w' hSw => by go_simp⟩) (by assumption) ?qz3
            try simp only [Act.put, List.setIfInBounds_toArray, List.set_cons_zero, List.set_cons_succ]
            refine' wpAnyH_take (i := 3) (oi := { dst := some 91, op := Op.indexAddr 22 (Operand.tmp 89) (Operand.tmp 90), type := 0, pos := "law.go:68", after := #[{ on := 1, ground := Ground.data }, { on := 2, ground := Ground.data }], guard := none }) (v := .pointer (some ⟨bb, o + k * 4, none⟩)) rfl (by kernel_rfl) (by kernel_rfl) (by kernel_rfl) (fun _ _ _ h => h) (Or.inl ⟨by rfl, fun w' hSw => by go_simp⟩) (by assumption) ?qz4
            try simp only [Act.put, List.setIfInBounds_toArray, List.set_cons_zero, List.set_cons_succ]
            refine' wpAnyH_take (i := 4) (oi := { dst := some 92, op := Op.fieldAddr 38 (Operand.tmp 91) 0, type := 0, pos := "law.go:68", after := #[{ on := 3, ground := Ground.data }], guard := none }) (v := .pointer (some ⟨bb, o + k * 4, none⟩)) rfl (by kernel_rfl) (by kernel_rfl) (by kernel_rfl) (fun _ _ _ h => h) (Or.inl ⟨by rfl, fun w' hSw => by go_simp⟩) (by assumption) ?qz5
            try simp only [Act.put, List.setIfInBounds_toArray, List.set_cons_zero, List.set_cons_succ]
            refine' wpAnyH_take (i := 5) (oi := { dst := some 93, op := Op.load 36 (Operand.tmp 92), type := 36, pos := "law.go:68", after := #[{ on := 4, ground := Ground.data }], guard := none }) (v := .slice A' ch.length c') rfl (by kernel_rfl) (by kernel_rfl) (by kernel_rfl) (fun _ _ _ h => h) (Or.inl ⟨by rfl, fun w' hSw => by (have hSw : w'.cell? ⟨bb, o + k * 4, none⟩ = some (.slice A' ch.length c') := hSw; go_simp)⟩) (by assumption) ?qz6
            try simp only [Act.put, List.setIfInBounds_toArray, List.set_cons_zero, List.set_cons_succ]
            refine' wpAnyH_take (i := 7) (oi := { dst := some 95, op := Op.move (Operand.tmp 9), type := 32, pos := "law.go:68", after := #[], guard := none }) (v := .pointer (some ⟨rsp, 0, none⟩)) rfl (by kernel_rfl) (by kernel_rfl) (by kernel_rfl) (fun _ _ _ h => h) (Or.inl ⟨by rfl, fun w' hSw => by go_simp⟩) (by assumption) ?qz7
            try simp only [Act.put, List.setIfInBounds_toArray, List.set_cons_zero, List.set_cons_succ]
            refine' wpAnyH_take (i := 8) (oi := { dst := some 96, op := Op.move (Operand.tmp 1), type := 22, pos := "law.go:68", after := #[], guard := none }) (v := .slice (some ⟨bb, o, none⟩) l.length cl) rfl (by kernel_rfl) (by kernel_rfl) (by kernel_rfl) (fun _ _ _ h => h) (Or.inl ⟨by rfl, fun w' hSw => by go_simp⟩) (by assumption) ?qz8
            try simp only [Act.put, List.setIfInBounds_toArray, List.set_cons_zero, List.set_cons_succ]
            refine' wpAnyH_take (i := 9) (oi := { dst := some 97, op := Op.move (Operand.tmp 11), type := 3, pos := "law.go:68", after := #[], guard := none }) (v := .int .i64 (k : Int)) rfl (by kernel_rfl) (by kernel_rfl) (by kernel_rfl) (fun _ _ _ h => h) (Or.inl ⟨by rfl, fun w' hSw => by go_simp⟩) (by assumption) ?qz9
            try simp only [Act.put, List.setIfInBounds_toArray, List.set_cons_zero, List.set_cons_succ]
            refine' wpAnyH_take (i := 10) (oi := { dst := some 98, op := Op.indexAddr 22 (Operand.tmp 96) (Operand.tmp 97), type := 0, pos := "law.go:68", after := #[{ on := 8, ground := Ground.data }, { on := 9, ground := Ground.data }], guard := none }) (v := .pointer (some ⟨bb, o + k * 4, none⟩)) rfl (by kernel_rfl) (by kernel_rfl) (by kernel_rfl) (fun _ _ _ h => h) (Or.inl ⟨by rfl, fun w' hSw => by go_simp⟩) (by assumption) ?qz10
            try simp only [Act.put, List.setIfInBounds_toArray, List.set_cons_zero, List.set_cons_succ]
            refine' wpAnyH_take (i := 11) (oi := { dst := some 99, op := Op.fieldAddr 38 (Operand.tmp 98) 0, type := 0, pos := "law.go:68", after := #[{ on := 10, ground := Ground.data }], guard := none }) (v := .pointer (some ⟨bb, o + k * 4, none⟩)) rfl (by kernel_rfl) (by kernel_rfl) (by kernel_rfl) (fun _ _ _ h => h) (Or.inl ⟨by rfl, fun w' hSw => by go_simp⟩) (by assumption) ?qz11
            try simp only [Act.put, List.setIfInBounds_toArray, List.set_cons_zero, List.set_cons_succ]
            refine' wpAnyH_take (i := 12) (oi := { dst := some 100, op := Op.load 36 (Operand.tmp 99), type := 36, pos := "law.go:68", after := #[{ on := 11, ground := Ground.data }], guard := none }) (v := .slice A' ch.length c') rfl (by kernel_rfl) (by kernel_rfl) (by kernel_rfl) (fun _ _ _ h => h) (Or.inl ⟨by rfl, fun w' hSw => by (have hSw : w'.cell? ⟨bb, o + k * 4, none⟩ = some (.slice A' ch.length c') := hSw; go_simp)⟩) (by assumption) ?qz12
            try simp only [Act.put, List.setIfInBounds_toArray, List.set_cons_zero, List.set_cons_succ]
            refine wpAnyH_ready (rs := [6]) (by kernel_rfl) (by simp) ?_
            refine AllReadyH.cons (o := { dst := some 94, op := Op.call { callee := Callee.value (Operand.func 13), args := #[Operand.tmp 88, Operand.tmp 93], argTypes := #[28, 36] }, type := 29, pos := "law.go:68", after := #[{ on := 0, ground := Ground.data }, { on := 5, ground := Ground.data }], guard := none }) rfl (fun K hK => ?_) AllReadyH.nil
            rw [if_pos (by rfl)]
            go_simp
            with_reducible refine hc13.mono ?_
            rintro _ w7 ⟨rfl, f7, fs7, htw7⟩
            have hc14 := rcommit_tw (cl := c') htw7 (by rw [HP6.out.nn]; exact HP6.out.ok) HP6.out.gd (kch.out w7 htw7.cv.g) rfl h30 (by rw [HP6.out.nn]; omega) (by have := HP6.out.len; omega) HCM.out
            clear hc13
            refine hK.out _ _ (kQ.out w7 htw7.cv.g).1 (fun hHeld => ?_)
            clear hK K
            try simp only [Act.put, List.setIfInBounds_toArray, List.set_cons_zero, List.set_cons_succ]
            refine wpAnyH_ready (rs := [13]) (by kernel_rfl) (by simp) ?_
            refine AllReadyH.cons (o := { dst := some 101, op := Op.call { callee := Callee.value (Operand.func 14), args := #[Operand.tmp 95, Operand.tmp 100], argTypes := #[32, 36] }, type := 3, pos := "law.go:68", after := #[{ on := 7, ground := Ground.data }, { on := 12, ground := Ground.data }, { on := 6, ground := Ground.chain }], guard := none }) rfl (fun K hK => ?_) AllReadyH.nil
            rw [if_pos (by rfl)]
            go_simp
            with_reducible refine hc14.mono ?_
            rintro _ w8 ⟨rfl, rf8, rfs8, htw8⟩
            have hrs8 := htw8.rs
            obtain ⟨Ar, cr8, r1, r2, r3, r4⟩ := hrs8
            have y5 : w8.cell? ⟨rsp, 5, none⟩ = some (.slice Ar t7.L.length cr8) := r1.get 5 _ rfl
            have y2 : w8.cell? ⟨rsp, 2, none⟩ = some (.int .u64 (t7.e : Int)) := r1.get 2 _ rfl
            have hal := all_sto htw8.cv.st HP7.out.ok.len
            clear hc14
            refine hK.out _ _ (kQ.out w8 htw8.cv.g).1 (fun hHeld => ?_)
            clear hK K
            try simp only [Act.put, List.setIfInBounds_toArray, List.set_cons_zero, List.set_cons_succ]
            refine' wpAnyH_take (i := 14) (oi := { dst := some 102, op := Op.binOp BinOp.neq 3 (Operand.tmp 94) (Operand.tmp 101) 3, type := 4, pos := "law.go:68", after := #[{ on := 6, ground := Ground.data }, { on := 13, ground := Ground.data }], guard := none }) (v := .bool false) rfl (by kernel_rfl) (by kernel_rfl) (by kernel_rfl) (fun _ _ _ h => h) (Or.inl ⟨by rfl, fun w' hSw => by go_simp⟩) (by assumption) ?qz13
            try simp only [Act.put, List.setIfInBounds_toArray, List.set_cons_zero, List.set_cons_succ]
            refine' wpAnyH_take (i := 15) (oi := { dst := some 103, op := Op.move (Operand.tmp 102), type := 4, pos := "law.go:68", after := #[{ on := 14, ground := Ground.data }, { on := 13, ground := Ground.chain }], guard := none }) (v := .bool false) rfl (by kernel_rfl) (by kernel_rfl) (by kernel_rfl) (fun _ _ _ h => h) (Or.inl ⟨by rfl, fun w' hSw => by go_simp⟩) (by assumption) ?qz14
            try simp only [Act.put, List.setIfInBounds_toArray, List.set_cons_zero, List.set_cons_succ]
            refine' wpAnyH_take (i := 16) (oi := { dst := some 104, op := Op.move (Operand.tmp 7), type := 28, pos := "law.go:68", after := #[{ on := 15, ground := Ground.guard }], guard := some (15, false) }) (v := .pointer (some ⟨sp, 0, none⟩)) rfl (by kernel_rfl) (by kernel_rfl) (by kernel_rfl) (fun _ _ _ h => h) (Or.inl ⟨by rfl, fun w' hSw => by go_simp⟩) (by assumption) ?qz15
            try simp only [Act.put, List.setIfInBounds_toArray, List.set_cons_zero, List.set_cons_succ]
            refine' wpAnyH_take (i := 18) (oi := { dst := some 106, op := Op.move (Operand.tmp 9), type := 32, pos := "law.go:68", after := #[{ on := 15, ground := Ground.guard }], guard := some (15, false) }) (v := .pointer (some ⟨rsp, 0, none⟩)) rfl (by kernel_rfl) (by kernel_rfl) (by kernel_rfl) (fun _ _ _ h => h) (Or.inl ⟨by rfl, fun w' hSw => by go_simp⟩) (by assumption) ?qz16
            try simp only [Act.put, List.setIfInBounds_toArray, List.set_cons_zero, List.set_cons_succ]
            refine' wpAnyH_take (i := 19) (oi := { dst := some 107, op := Op.nilCheck (Operand.tmp 106), type := 0, pos := "law.go:68", after := #[{ on := 18, ground := Ground.data }, { on := 15, ground := Ground.guard }], guard := some (15, false) }) (v := .pointer (some ⟨rsp, 0, none⟩)) rfl (by kernel_rfl) (by kernel_rfl) (by kernel_rfl) (fun _ _ _ h => h) (Or.inl ⟨by rfl, fun w' hSw => by go_simp⟩) (by assumption) ?qz17
            try simp only [Act.put, List.setIfInBounds_toArray, List.set_cons_zero, List.set_cons_succ]
            refine' wpAnyH_take (i := 20) (oi := { dst := some 108, op := Op.fieldAddr 51 (Operand.tmp 107) 5, type := 0, pos := "law.go:68", after := #[{ on := 19, ground := Ground.data }, { on := 15, ground := Ground.guard }], guard := some (15, false) }) (v := .pointer (some ⟨rsp, 5, none⟩)) rfl (by kernel_rfl) (by kernel_rfl) (by kernel_rfl) (fun _ _ _ h => h) (Or.inl ⟨by rfl, fun w' hSw => by go_simp⟩) (by assumption) ?qz18
            try simp only [Act.put, List.setIfInBounds_toArray, List.set_cons_zero, List.set_cons_succ]
            refine wpAnyH_ready (rs := [17, 21]) (by kernel_rfl) (by simp) ?_
            refine AllReadyH.cons (o := { dst := some 105, op := Op.call { callee := Callee.value (Operand.func 16), args := #[Operand.tmp 104], argTypes := #[28] }, type := 36, pos := "law.go:68", after := #[{ on := 16, ground := Ground.data }, { on := 15, ground := Ground.chain }, { on := 15, ground := Ground.guard }], guard := some (15, false) }) rfl (fun K hK => ?_) (AllReadyH.cons (o := { dst := some 109, op := Op.load 36 (Operand.tmp 108), type := 36, pos := "law.go:68", after := #[{ on := 20, ground := Ground.data }, { on := 15, ground := Ground.guard }], guard := some (15, false) }) rfl (fun K hK => ?_) AllReadyH.nil)
            · rw [if_pos (by rfl)]
              go_simp
              with_reducible refine hal.mono ?_
              rintro _ w9 ⟨gW, cW, rfl, -, -, hx9, hg9⟩
              rw [hlc7]
              have htw9 := htw8.grown hg9
              have y5 : w9.cell? ⟨rsp, 5, none⟩ = some (.slice Ar t7.L.length cr8) := hg9.cell y5 (by simp)
              have y2 : w9.cell? ⟨rsp, 2, none⟩ = some (.int .u64 (t7.e : Int)) := hg9.cell y2 (by simp)
              have hsm := same_any (ca := cW) (cb := cr8) hx9 (r2.keep fun b hb => hg9.block b (r4 b hb) (by simp)) (fun b hb => hb.2) (fun b hb => Nat.lt_of_lt_of_le (r4 b hb) hg9.size) (by rw [hlc7]; have := HP7.out.ok.len; omega)
              rw [hlc7] at hsm
              clear hal
              refine hK.out _ _ (kQ.out w9 htw9.cv.g).1 (fun hHeld => ?_)
              clear hK K
              try simp only [Act.put, List.setIfInBounds_toArray, List.set_cons_zero, List.set_cons_succ]
              refine wpAnyH_ready (rs := [21]) (by kernel_rfl) (by simp) ?_
              refine AllReadyH.cons (o := { dst := some 109, op := Op.load 36 (Operand.tmp 108), type := 36, pos := "law.go:68", after := #[{ on := 20, ground := Ground.data }, { on := 15, ground := Ground.guard }], guard := some (15, false) }) rfl (fun K hK => ?_) AllReadyH.nil
              rw [if_pos (by rfl)]
              go_simp
              refine hK.out _ _ (kQ.out w9 htw9.cv.g).1 (fun hHeld => ?_)
              clear hK K
              try simp only [Act.put, List.setIfInBounds_toArray, List.set_cons_zero, List.set_cons_succ]
              refine wpAnyH_ready (rs := [22]) (by kernel_rfl) (by simp) ?_
              refine AllReadyH.cons (o := { dst := some 110, op := Op.call { callee := Callee.value (Operand.func 15), args := #[Operand.tmp 105, Operand.tmp 109], argTypes := #[36, 36] }, type := 4, pos := "law.go:68", after := #[{ on := 17, ground := Ground.data }, { on := 21, ground := Ground.data }, { on := 17, ground := Ground.chain }, { on := 15, ground := Ground.guard }], guard := some (15, false) }) rfl (fun K hK => ?_) AllReadyH.nil
              rw [if_pos (by rfl)]
              go_simp
              with_reducible refine hsm.mono ?_
              rintro _ w10 ⟨rr, rfl, hrr, hg10⟩
              obtain rfl : rr = true := hrr rfl
              have htw10 := htw9.grown hg10
              have y2 : w10.cell? ⟨rsp, 2, none⟩ = some (.int .u64 (t7.e : Int)) := hg10.cell y2 (by simp)
              have hep := epoch_any htw10.cv.st
              clear hsm y5
              refine hK.out _ _ (kQ.out w10 htw10.cv.g).1 (fun hHeld => ?_)
              clear hK K
              try simp only [Act.put, List.setIfInBounds_toArray, List.set_cons_zero, List.set_cons_succ]
              refine' wpAnyH_take (i := 23) (oi := { dst := some 111, op := Op.unOp UnOp.not 4 (Operand.tmp 110), type := 4, pos := "law.go:68", after := #[{ on := 22, ground := Ground.data }, { on := 15, ground := Ground.guard }], guard := some (15, false) }) (v := .bool false) rfl (by kernel_rfl) (by kernel_rfl) (by kernel_rfl) (fun _ _ _ h => h) (Or.inl ⟨by rfl, fun w' hSw => by go_simp⟩) (by assumption) ?qz19
              try simp only [Act.put, List.setIfInBounds_toArray, List.set_cons_zero, List.set_cons_succ]
              refine' wpAnyH_take (i := 24) (oi := { dst := some 112, op := Op.pick (Operand.tmp 103) (Operand.const (Value.bool true)) (Operand.tmp 111), type := 4, pos := "law.go:68", after := #[{ on := 15, ground := Ground.data }, { on := 23, ground := Ground.data }], guard := none }) (v := .bool false) rfl (by kernel_rfl) (by kernel_rfl) (by kernel_rfl) (fun _ _ _ h => h) (Or.inl ⟨by rfl, fun w' hSw => by go_simp⟩) (by assumption) ?qz20
              try simp only [Act.put, List.setIfInBounds_toArray, List.set_cons_zero, List.set_cons_succ]
              refine' wpAnyH_take (i := 25) (oi := { dst := some 113, op := Op.move (Operand.tmp 112), type := 4, pos := "law.go:68", after := #[{ on := 24, ground := Ground.data }, { on := 22, ground := Ground.chain }], guard := none }) (v := .bool false) rfl (by kernel_rfl) (by kernel_rfl) (by kernel_rfl) (fun _ _ _ h => h) (Or.inl ⟨by rfl, fun w' hSw => by go_simp⟩) (by assumption) ?qz21
              try simp only [Act.put, List.setIfInBounds_toArray, List.set_cons_zero, List.set_cons_succ]
              refine' wpAnyH_take (i := 26) (oi := { dst := some 114, op := Op.move (Operand.tmp 7), type := 28, pos := "law.go:68", after := #[{ on := 25, ground := Ground.guard }], guard := some (25, false) }) (v := .pointer (some ⟨sp, 0, none⟩)) rfl (by kernel_rfl) (by kernel_rfl) (by kernel_rfl) (fun _ _ _ h => h) (Or.inl ⟨by rfl, fun w' hSw => by go_simp⟩) (by assumption) ?qz22
              try simp only [Act.put, List.setIfInBounds_toArray, List.set_cons_zero, List.set_cons_succ]
              refine' wpAnyH_take (i := 28) (oi := { dst := some 116, op := Op.move (Operand.tmp 9), type := 32, pos := "law.go:68", after := #[{ on := 25, ground := Ground.guard }], guard := some (25, false) }) (v := .pointer (some ⟨rsp, 0, none⟩)) rfl (by kernel_rfl) (by kernel_rfl) (by kernel_rfl) (fun _ _ _ h => h) (Or.inl ⟨by rfl, fun w' hSw => by go_simp⟩) (by assumption) ?qz23
              try simp only [Act.put, List.setIfInBounds_toArray, List.set_cons_zero, List.set_cons_succ]
              refine' wpAnyH_take (i := 29) (oi := { dst := some 117, op := Op.nilCheck (Operand.tmp 116), type := 0, pos := "law.go:68", after := #[{ on := 28, ground := Ground.data }, { on := 25, ground := Ground.guard }], guard := some (25, false) }) (v := .pointer (some ⟨rsp, 0, none⟩)) rfl (by kernel_rfl) (by kernel_rfl) (by kernel_rfl) (fun _ _ _ h => h) (Or.inl ⟨by rfl, fun w' hSw => by go_simp⟩) (by assumption) ?qz24
              try simp only [Act.put, List.setIfInBounds_toArray, List.set_cons_zero, List.set_cons_succ]
              refine' wpAnyH_take (i := 30) (oi := { dst := some 118, op := Op.fieldAddr 51 (Operand.tmp 117) 2, type := 0, pos := "law.go:68", after := #[{ on := 29, ground := Ground.data }, { on := 25, ground := Ground.guard }], guard := some (25, false) }) (v := .pointer (some ⟨rsp, 2, none⟩)) rfl (by kernel_rfl) (by kernel_rfl) (by kernel_rfl) (fun _ _ _ h => h) (Or.inl ⟨by rfl, fun w' hSw => by go_simp⟩) (by assumption) ?qz25
              try simp only [Act.put, List.setIfInBounds_toArray, List.set_cons_zero, List.set_cons_succ]
              refine wpAnyH_ready (rs := [27, 31]) (by kernel_rfl) (by simp) ?_
              refine AllReadyH.cons (o := { dst := some 115, op := Op.call { callee := Callee.value (Operand.func 17), args := #[Operand.tmp 114], argTypes := #[28] }, type := 49, pos := "law.go:68", after := #[{ on := 26, ground := Ground.data }, { on := 25, ground := Ground.chain }, { on := 25, ground := Ground.guard }], guard := some (25, false) }) rfl (fun K hK => ?_) (AllReadyH.cons (o := { dst := some 119, op := Op.load 49 (Operand.tmp 118), type := 49, pos := "law.go:68", after := #[{ on := 30, ground := Ground.data }, { on := 25, ground := Ground.guard }], guard := some (25, false) }) rfl (fun K hK => ?_) AllReadyH.nil)
              · rw [if_pos (by rfl)]
                go_simp
                with_reducible refine hep.mono ?_
                rintro _ _ ⟨rfl, rfl⟩
                refine hK.out _ _ (kQ.out w10 htw10.cv.g).1 (fun hHeld => ?_)
                clear hK K
                try simp only [Act.put, List.setIfInBounds_toArray, List.set_cons_zero, List.set_cons_succ]
                refine wpAnyH_ready (rs := [31]) (by kernel_rfl) (by simp) ?_
                refine AllReadyH.cons (o := { dst := some 119, op := Op.load 49 (Operand.tmp 118), type := 49, pos := "law.go:68", after := #[{ on := 30, ground := Ground.data }, { on := 25, ground := Ground.guard }], guard := some (25, false) }) rfl (fun K hK => ?_) AllReadyH.nil
                rw [if_pos (by rfl)]
                go_simp
                refine hK.out _ _ (kQ.out w10 htw10.cv.g).1 (fun hHeld => ?_)
                clear hK K
                try simp only [Act.put, List.setIfInBounds_toArray, List.set_cons_zero, List.set_cons_succ]
                refine' wpAnyH_take (i := 32) (oi := { dst := some 120, op := Op.binOp BinOp.neq 49 (Operand.tmp 115) (Operand.tmp 119) 49, type := 4, pos := "law.go:68", after := #[{ on := 27, ground := Ground.data }, { on := 31, ground := Ground.data }, { on := 25, ground := Ground.guard }], guard := some (25, false) }) (v := .bool false) rfl (by kernel_rfl) (by kernel_rfl) (by kernel_rfl) (fun _ _ _ h => h) (Or.inl ⟨by rfl, fun w' hSw => by go_simp⟩) (by assumption) ?qz26
                try simp only [Act.put, List.setIfInBounds_toArray, List.set_cons_zero, List.set_cons_succ]
                refine' wpAnyH_take (i := 33) (oi := { dst := some 121, op := Op.pick (Operand.tmp 113) (Operand.const (Value.bool true)) (Operand.tmp 120), type := 4, pos := "law.go:68", after := #[{ on := 25, ground := Ground.data }, { on := 32, ground := Ground.data }], guard := none }) (v := .bool false) rfl (by kernel_rfl) (by kernel_rfl) (by kernel_rfl) (fun _ _ _ h => h) (Or.inl ⟨by rfl, fun w' hSw => by go_simp⟩) (by assumption) ?qz27
                try simp only [Act.put, List.setIfInBounds_toArray, List.set_cons_zero, List.set_cons_succ]
                refine wpAnyH_done (by kernel_rfl) ?_ _
                go_wp2
                go_meet
                case rel => exact ⟨rfl, _, _, _, _, htw10⟩
              · rw [if_pos (by rfl)]
                go_simp
                refine hK.out _ _ (kQ.out w10 htw10.cv.g).1 (fun hHeld => ?_)
                clear hK K
                try simp only [Act.put, List.setIfInBounds_toArray, List.set_cons_zero, List.set_cons_succ]
                refine wpAnyH_ready (rs := [27]) (by kernel_rfl) (by simp) ?_
                refine AllReadyH.cons (o := { dst := some 115, op := Op.call { callee := Callee.value (Operand.func 17), args := #[Operand.tmp 114], argTypes := #[28] }, type := 49, pos := "law.go:68", after := #[{ on := 26, ground := Ground.data }, { on := 25, ground := Ground.chain }, { on := 25, ground := Ground.guard }], guard := some (25, false) }) rfl (fun K hK => ?_) AllReadyH.nil
                rw [if_pos (by rfl)]
                go_simp
                with_reducible refine hep.mono ?_
                rintro _ _ ⟨rfl, rfl⟩
                refine hK.out _ _ (kQ.out w10 htw10.cv.g).1 (fun hHeld => ?_)
                clear hK K
                try simp only [Act.put, List.setIfInBounds_toArray, List.set_cons_zero, List.set_cons_succ]
                refine' wpAnyH_take (i := 32) (oi := { dst := some 120, op := Op.binOp BinOp.neq 49 (Operand.tmp 115) (Operand.tmp 119) 49, type := 4, pos := "law.go:68", after := #[{ on := 27, ground := Ground.data }, { on := 31, ground := Ground.data }, { on := 25, ground := Ground.guard }], guard := some (25, false) }) (v := .bool false) rfl (by kernel_rfl) (by kernel_rfl) (by kernel_rfl) (fun _ _ _ h => h) (Or.inl ⟨by rfl, fun w' hSw => by go_simp⟩) (by assumption) ?qz28
                try simp only [Act.put, List.setIfInBounds_toArray, List.set_cons_zero, List.set_cons_succ]
                refine' wpAnyH_take (i := 33) (oi := { dst := some 121, op := Op.pick (Operand.tmp 113) (Operand.const (Value.bool true)) (Operand.tmp 120), type := 4, pos := "law.go:68", after := #[{ on := 25, ground := Ground.data }, { on := 32, ground := Ground.data }], guard := none }) (v := .bool false) rfl (by kernel_rfl) (by kernel_rfl) (by kernel_rfl) (fun _ _ _ h => h) (Or.inl ⟨by rfl, fun w' hSw => by go_simp⟩) (by assumption) ?qz29
                try simp only [Act.put, List.setIfInBounds_toArray, List.set_cons_zero, List.set_cons_succ]
                refine wpAnyH_done (by kernel_rfl) ?_ _
                go_wp2
                go_meet
                case rel => exact ⟨rfl, _, _, _, _, htw10⟩
            · rw [if_pos (by rfl)]
              go_simp
              refine hK.out _ _ (kQ.out w8 htw8.cv.g).1 (fun hHeld => ?_)
              clear hK K
              try simp only [Act.put, List.setIfInBounds_toArray, List.set_cons_zero, List.set_cons_succ]
              refine wpAnyH_ready (rs := [17]) (by kernel_rfl) (by simp) ?_
              refine AllReadyH.cons (o := { dst := some 105, op := Op.call { callee := Callee.value (Operand.func 16), args := #[Operand.tmp 104], argTypes := #[28] }, type := 36, pos := "law.go:68", after := #[{ on := 16, ground := Ground.data }, { on := 15, ground := Ground.chain }, { on := 15, ground := Ground.guard }], guard := some (15, false) }) rfl (fun K hK => ?_) AllReadyH.nil
              rw [if_pos (by rfl)]
              go_simp
              with_reducible refine hal.mono ?_
              rintro _ w9 ⟨gW, cW, rfl, -, -, hx9, hg9⟩
              rw [hlc7]
              have htw9 := htw8.grown hg9
              have y5 : w9.cell? ⟨rsp, 5, none⟩ = some (.slice Ar t7.L.length cr8) := hg9.cell y5 (by simp)
              have y2 : w9.cell? ⟨rsp, 2, none⟩ = some (.int .u64 (t7.e : Int)) := hg9.cell y2 (by simp)
              have hsm := same_any (ca := cW) (cb := cr8) hx9 (r2.keep fun b hb => hg9.block b (r4 b hb) (by simp)) (fun b hb => hb.2) (fun b hb => Nat.lt_of_lt_of_le (r4 b hb) hg9.size) (by rw [hlc7]; have := HP7.out.ok.len; omega)
              rw [hlc7] at hsm
              clear hal
              refine hK.out _ _ (kQ.out w9 htw9.cv.g).1 (fun hHeld => ?_)
              clear hK K
              try simp only [Act.put, List.setIfInBounds_toArray, List.set_cons_zero, List.set_cons_succ]
              refine wpAnyH_ready (rs := [22]) (by kernel_rfl) (by simp) ?_
              refine AllReadyH.cons (o := { dst := some 110, op := Op.call { callee := Callee.value (Operand.func 15), args := #[Operand.tmp 105, Operand.tmp 109], argTypes := #[36, 36] }, type := 4, pos := "law.go:68", after := #[{ on := 17, ground := Ground.data }, { on := 21, ground := Ground.data }, { on := 17, ground := Ground.chain }, { on := 15, ground := Ground.guard }], guard := some (15, false) }) rfl (fun K hK => ?_) AllReadyH.nil
              rw [if_pos (by rfl)]
              go_simp
              with_reducible refine hsm.mono ?_
              rintro _ w10 ⟨rr, rfl, hrr, hg10⟩
              obtain rfl : rr = true := hrr rfl
              have htw10 := htw9.grown hg10
              have y2 : w10.cell? ⟨rsp, 2, none⟩ = some (.int .u64 (t7.e : Int)) := hg10.cell y2 (by simp)
              have hep := epoch_any htw10.cv.st
              clear hsm y5
              refine hK.out _ _ (kQ.out w10 htw10.cv.g).1 (fun hHeld => ?_)
              clear hK K
              try simp only [Act.put, List.setIfInBounds_toArray, List.set_cons_zero, List.set_cons_succ]
              refine' wpAnyH_take (i := 23) (oi := { dst := some 111, op := Op.unOp UnOp.not 4 (Operand.tmp 110), type := 4, pos := "law.go:68", after := #[{ on := 22, ground := Ground.data }, { on := 15, ground := Ground.guard }], guard := some (15, false) }) (v := .bool false) rfl (by kernel_rfl) (by kernel_rfl) (by kernel_rfl) (fun _ _ _ h => h) (Or.inl ⟨by rfl, fun w' hSw => by go_simp⟩) (by assumption) ?qz30
              try simp only [Act.put, List.setIfInBounds_toArray, List.set_cons_zero, List.set_cons_succ]
              refine' wpAnyH_take (i := 24) (oi := { dst := some 112, op := Op.pick (Operand.tmp 103) (Operand.const (Value.bool true)) (Operand.tmp 111), type := 4, pos := "law.go:68", after := #[{ on := 15, ground := Ground.data }, { on := 23, ground := Ground.data }], guard := none }) (v := .bool false) rfl (by kernel_rfl) (by kernel_rfl) (by kernel_rfl) (fun _ _ _ h => h) (Or.inl ⟨by rfl, fun w' hSw => by go_simp⟩) (by assumption) ?qz31
              try simp only [Act.put, List.setIfInBounds_toArray, List.set_cons_zero, List.set_cons_succ]
              refine' wpAnyH_take (i := 25) (oi := { dst := some 113, op := Op.move (Operand.tmp 112), type := 4, pos := "law.go:68", after := #[{ on := 24, ground := Ground.data }, { on := 22, ground := Ground.chain }], guard := none }) (v := .bool false) rfl (by kernel_rfl) (by kernel_rfl) (by kernel_rfl) (fun _ _ _ h => h) (Or.inl ⟨by rfl, fun w' hSw => by go_simp⟩) (by assumption) ?qz32
              try simp only [Act.put, List.setIfInBounds_toArray, List.set_cons_zero, List.set_cons_succ]
              refine' wpAnyH_take (i := 26) (oi := { dst := some 114, op := Op.move (Operand.tmp 7), type := 28, pos := "law.go:68", after := #[{ on := 25, ground := Ground.guard }], guard := some (25, false) }) (v := .pointer (some ⟨sp, 0, none⟩)) rfl (by kernel_rfl) (by kernel_rfl) (by kernel_rfl) (fun _ _ _ h => h) (Or.inl ⟨by rfl, fun w' hSw => by go_simp⟩) (by assumption) ?qz33
              try simp only [Act.put, List.setIfInBounds_toArray, List.set_cons_zero, List.set_cons_succ]
              refine' wpAnyH_take (i := 28) (oi := { dst := some 116, op := Op.move (Operand.tmp 9), type := 32, pos := "law.go:68", after := #[{ on := 25, ground := Ground.guard }], guard := some (25, false) }) (v := .pointer (some ⟨rsp, 0, none⟩)) rfl (by kernel_rfl) (by kernel_rfl) (by kernel_rfl) (fun _ _ _ h => h) (Or.inl ⟨by rfl, fun w' hSw => by go_simp⟩) (by assumption) ?qz34
              try simp only [Act.put, List.setIfInBounds_toArray, List.set_cons_zero, List.set_cons_succ]
              refine' wpAnyH_take (i := 29) (oi := { dst := some 117, op := Op.nilCheck (Operand.tmp 116), type := 0, pos := "law.go:68", after := #[{ on := 28, ground := Ground.data }, { on := 25, ground := Ground.guard }], guard := some (25, false) }) (v := .pointer (some ⟨rsp, 0, none⟩)) rfl (by kernel_rfl) (by kernel_rfl) (by kernel_rfl) (fun _ _ _ h => h) (Or.inl ⟨by rfl, fun w' hSw => by go_simp⟩) (by assumption) ?qz35
              try simp only [Act.put, List.setIfInBounds_toArray, List.set_cons_zero, List.set_cons_succ]
              refine' wpAnyH_take (i := 30) (oi := { dst := some 118, op := Op.fieldAddr 51 (Operand.tmp 117) 2, type := 0, pos := "law.go:68", after := #[{ on := 29, ground := Ground.data }, { on := 25, ground := Ground.guard }], guard := some (25, false) }) (v := .pointer (some ⟨rsp, 2, none⟩)) rfl (by kernel_rfl) (by kernel_rfl) (by kernel_rfl) (fun _ _ _ h => h) (Or.inl ⟨by rfl, fun w' hSw => by go_simp⟩) (by assumption) ?qz36
              try simp only [Act.put, List.setIfInBounds_toArray, List.set_cons_zero, List.set_cons_succ]
              refine wpAnyH_ready (rs := [27, 31]) (by kernel_rfl) (by simp) ?_
              refine AllReadyH.cons (o := { dst := some 115, op := Op.call { callee := Callee.value (Operand.func 17), args := #[Operand.tmp 114], argTypes := #[28] }, type := 49, pos := "law.go:68", after := #[{ on := 26, ground := Ground.data }, { on := 25, ground := Ground.chain }, { on := 25, ground := Ground.guard }], guard := some (25, false) }) rfl (fun K hK => ?_) (AllReadyH.cons (o := { dst := some 119, op := Op.load 49 (Operand.tmp 118), type := 49, pos := "law.go:68", after := #[{ on := 30, ground := Ground.data }, { on := 25, ground := Ground.guard }], guard := some (25, false) }) rfl (fun K hK => ?_) AllReadyH.nil)
              · rw [if_pos (by rfl)]
                go_simp
                with_reducible refine hep.mono ?_
                rintro _ _ ⟨rfl, rfl⟩
                refine hK.out _ _ (kQ.out w10 htw10.cv.g).1 (fun hHeld => ?_)
                clear hK K
                try simp only [Act.put, List.setIfInBounds_toArray, List.set_cons_zero, List.set_cons_succ]
                refine wpAnyH_ready (rs := [31]) (by kernel_rfl) (by simp) ?_
                refine AllReadyH.cons (o := { dst := some 119, op := Op.load 49 (Operand.tmp 118), type := 49, pos := "law.go:68", after := #[{ on := 30, ground := Ground.data }, { on := 25, ground := Ground.guard }], guard := some (25, false) }) rfl (fun K hK => ?_) AllReadyH.nil
                rw [if_pos (by rfl)]
                go_simp
                refine hK.out _ _ (kQ.out w10 htw10.cv.g).1 (fun hHeld => ?_)
                clear hK K
                try simp only [Act.put, List.setIfInBounds_toArray, List.set_cons_zero, List.set_cons_succ]
                refine' wpAnyH_take (i := 32) (oi := { dst := some 120, op := Op.binOp BinOp.neq 49 (Operand.tmp 115) (Operand.tmp 119) 49, type := 4, pos := "law.go:68", after := #[{ on := 27, ground := Ground.data }, { on := 31, ground := Ground.data }, { on := 25, ground := Ground.guard }], guard := some (25, false) }) (v := .bool false) rfl (by kernel_rfl) (by kernel_rfl) (by kernel_rfl) (fun _ _ _ h => h) (Or.inl ⟨by rfl, fun w' hSw => by go_simp⟩) (by assumption) ?qz37
                try simp only [Act.put, List.setIfInBounds_toArray, List.set_cons_zero, List.set_cons_succ]
                refine' wpAnyH_take (i := 33) (oi := { dst := some 121, op := Op.pick (Operand.tmp 113) (Operand.const (Value.bool true)) (Operand.tmp 120), type := 4, pos := "law.go:68", after := #[{ on := 25, ground := Ground.data }, { on := 32, ground := Ground.data }], guard := none }) (v := .bool false) rfl (by kernel_rfl) (by kernel_rfl) (by kernel_rfl) (fun _ _ _ h => h) (Or.inl ⟨by rfl, fun w' hSw => by go_simp⟩) (by assumption) ?qz38
                try simp only [Act.put, List.setIfInBounds_toArray, List.set_cons_zero, List.set_cons_succ]
                refine wpAnyH_done (by kernel_rfl) ?_ _
                go_wp2
                go_meet
                case rel => exact ⟨rfl, _, _, _, _, htw10⟩
              · rw [if_pos (by rfl)]
                go_simp
                refine hK.out _ _ (kQ.out w10 htw10.cv.g).1 (fun hHeld => ?_)
                clear hK K
                try simp only [Act.put, List.setIfInBounds_toArray, List.set_cons_zero, List.set_cons_succ]
                refine wpAnyH_ready (rs := [27]) (by kernel_rfl) (by simp) ?_
                refine AllReadyH.cons (o := { dst := some 115, op := Op.call { callee := Callee.value (Operand.func 17), args := #[Operand.tmp 114], argTypes := #[28] }, type := 49, pos := "law.go:68", after := #[{ on := 26, ground := Ground.data }, { on := 25, ground := Ground.chain }, { on := 25, ground := Ground.guard }], guard := some (25, false) }) rfl (fun K hK => ?_) AllReadyH.nil
                rw [if_pos (by rfl)]
                go_simp
                with_reducible refine hep.mono ?_
                rintro _ _ ⟨rfl, rfl⟩
                refine hK.out _ _ (kQ.out w10 htw10.cv.g).1 (fun hHeld => ?_)
                clear hK K
                try simp only [Act.put, List.setIfInBounds_toArray, List.set_cons_zero, List.set_cons_succ]
                refine' wpAnyH_take (i := 32) (oi := { dst := some 120, op := Op.binOp BinOp.neq 49 (Operand.tmp 115) (Operand.tmp 119) 49, type := 4, pos := "law.go:68", after := #[{ on := 27, ground := Ground.data }, { on := 31, ground := Ground.data }, { on := 25, ground := Ground.guard }], guard := some (25, false) }) (v := .bool false) rfl (by kernel_rfl) (by kernel_rfl) (by kernel_rfl) (fun _ _ _ h => h) (Or.inl ⟨by rfl, fun w' hSw => by go_simp⟩) (by assumption) ?qz39
                try simp only [Act.put, List.setIfInBounds_toArray, List.set_cons_zero, List.set_cons_succ]
                refine' wpAnyH_take (i := 33) (oi := { dst := some 121, op := Op.pick (Operand.tmp 113) (Operand.const (Value.bool true)) (Operand.tmp 120), type := 4, pos := "law.go:68", after := #[{ on := 25, ground := Ground.data }, { on := 32, ground := Ground.data }], guard := none }) (v := .bool false) rfl (by kernel_rfl) (by kernel_rfl) (by kernel_rfl) (fun _ _ _ h => h) (Or.inl ⟨by rfl, fun w' hSw => by go_simp⟩) (by assumption) ?qz40
                try simp only [Act.put, List.setIfInBounds_toArray, List.set_cons_zero, List.set_cons_succ]
                refine wpAnyH_done (by kernel_rfl) ?_ _
                go_wp2
                go_meet
                case rel => exact ⟨rfl, _, _, _, _, htw10⟩
          case rest =>
            obtain ⟨rfl, f7, fs7, rf7, rfs7, HT7⟩ := hcut
            obtain ⟨q0, q1, q2, q3⟩ := kQ.out wc HT7.out.cv.g
            clear hc13 HT6
            cases cr with
            | false =>
              go_wp2
              go_roundw
              case rel => exact ⟨k + 1, sp, rsp, s7, t7, f7, fs7, rf7, rfs7, by omega, by omega, by go_num, rfl, rfl, rfl, rfl, HT7.out, HP7.out⟩
              case measure => simp [intOf]; omega
            | true =>
              obtain ⟨u, hop, hpu⟩ := HP7.out.crash kp
              have hcr := crash_tw HT7.out (by have := HP7.out.len; omega) kp
              have HPU := Lib.hid hpu
              have HOP := Lib.hid hop
              have hlcu : (chgs u.L).length = u.L.length := by simp [chgs]
              clear hpu hop
              go_wp2_with (first
                | (go_at_call 18
                   refine hcr.mono ?_
                   rintro _ wd ⟨rfl, htwd⟩
                   obtain ⟨q0, q1, q2, q3⟩ := kQ.out wd htwd.cv.g
                   have hrc := rcrash_tw htwd (by have := HP7.out.len; omega) kp
                   clear hcr)
                | (go_at_call 19
                   refine hrc.mono ?_
                   rintro _ we ⟨rfl, htwe⟩
                   have hopn := open_tw htwe (by show (0 : Nat) ≤ 1000000; decide) HOP.out
                   clear hrc htwd)
                | (go_at_call 9
                   refine hopn.mono ?_
                   rintro _ wf ⟨sp2, ff, fsf, rfl, htwf⟩
                   have hopr := ropen_tw htwf (by show s7.n ≤ 4096; rw [HP7.out.nn]; omega) (by show (0 : Nat) ≤ 1000000; decide) HOP.out
                   clear hopn htwe)
                | (go_at_call 10
                   refine hopr.mono ?_
                   rintro _ wg ⟨rsp2, rfg, rfsg, rfl, htwg⟩
                   clear hopr htwf)
                | fail)
              have hrs := htwg.rs
              obtain ⟨Ar, crr, r1, r2, r3, r4⟩ := hrs
              have s0 : wg.drew.cell? ⟨rsp2, 5, none⟩ = some (.slice Ar u.L.length crr) := r1.get 5 _ rfl
              have hal := all_sto (htwg.cv.grown (w' := wg.drew) (grown_drewN 1)).st HPU.out.ok.len
              have HR2 := Lib.hid r2
              have HR4 := Lib.hid r4
              have HTG := Lib.hid htwg
              clear r1 r2 r3 r4 htwg
              go_region_held3 (fun W => W.cell? ⟨rsp2, 5, none⟩ = some (.slice Ar u.L.length crr)) (first | exact s0 | exact s1 | exact s2) (first
                | (go_at_call 16
                   (with_reducible refine hal.mono ?_)
                   rintro _ wh ⟨gW, cW, rfl, -, -, hx5, hg5⟩
                   have s1 : wh.cell? ⟨rsp2, 5, none⟩ = some (.slice Ar u.L.length crr) := hg5.cell s0 (by simp)
                   have hgc : wg.grownBy wh none := (grown_drewN 1).trans hg5
                   have hsm := same_any (ca := cW) (cb := crr) hx5 (HR2.out.keep fun b hb => hgc.block b (HR4.out b hb) (by simp)) (fun b hb => hb.2) (fun b hb => Nat.lt_of_lt_of_le (HR4.out b hb) hgc.size) (by rw [hlcu]; have := HPU.out.ok.len; omega)
                   rw [hlcu] at hsm ⊢)
                | (go_at_call 15
                   (with_reducible refine hsm.mono ?_)
                   rintro _ wi ⟨rr, rfl, hrr, hg6⟩
                   obtain rfl : rr = true := hrr rfl
                   have s2 : wi.cell? ⟨rsp2, 5, none⟩ = some (.slice Ar u.L.length crr) := hg6.cell s1 (by simp))
                | fail)
              have htwi : Hid (Tw w wi ff fsf sp2 dp (s7.crash kp) u rfg rfsg rsp2 rdp (s7.crash kp) u (s7.crash kp).dead) := HTG.out.grown (hgc.trans hg6)
              clear s0 s1 s2 hal hsm hx5 hg5 hg6 hgc
              go_wp2
              go_roundw
              case rel => exact ⟨k + 1, sp2, rsp2, s7.crash kp, u, ff, fsf, rfg, rfsg, by omega, by omega, by go_num, rfl, rfl, rfl, rfl, htwi, HPU.out⟩
              case measure => simp [intOf]; omega
    · have hor : (k < l.length ∧ ¬ k < 40) ∨ ¬ k < l.length := by omega
      clear hlt
      rcases hor with hor | hor
      all_goals
        try obtain ⟨h1, h2⟩ := hor
        go_wp2
        go_loopw [12, 13, 14] (fun x12 _ _ wr => ∃ j : Nat, j ≤ t.L.length ∧ x12 = .int .i64 (j : Int) ∧ Hid (Tw w wr f fs sp dp s t rf rfs rsp rdp s t s.dead)) (fun x12 _ _ _ => t.L.length - (intOf x12).toNat)
        case atStart => exact ⟨0, Nat.zero_le _, rfl, HTW.out⟩
        case round =>
          clear HTW
          obtain ⟨j, hj, rfl, HTW⟩ := hrel
          have hrs := HTW.out.rs
          obtain ⟨Ar, crr, r1, r2, r3, r4⟩ := hrs
          have y5 : wr.cell? ⟨rsp, 5, none⟩ = some (.slice Ar t.L.length crr) := r1.get 5 _ rfl
          have hlc : (chgs t.L).length = t.L.length := by simp [chgs]
          have htl := HP.out.ok.len
          by_cases hlj : j < t.L.length
          · obtain ⟨bq, oq, Aq, cq, rfl, hokq, p0, p1, -, p3, p4, p5, p6⟩ := r2.at (k := j) (by omega)
            obtain ⟨nm, vl, hxl⟩ : ∃ nm vl, t.L[j] = (nm, vl) := ⟨_, _, rfl⟩
            have hcj : (chgs t.L)[j]'(by omega) = ⟨nm, vl, false⟩ := by simp [chgs, hxl]
            rw [hcj] at p0 p1 p3 p5 p6
            dsimp only at p0 p1 p3 p5 p6
            have hris : Ris t.L := by
              obtain ⟨mb, -, hv, -⟩ := HTW.out.cv.st
              exact hv.ris
            have hgt : getA nm t.L = some vl := by
              have := getA_mem hris (List.getElem_mem hlj)
              rw [hxl] at this
              exact this
            have hget := get_sto HTW.out.cv.st nm p5
            rw [hgt] at hget
            have kP : Hid (∀ W, wr.grownBy W none → W.cell? ⟨rsp, 5, none⟩ = some (.slice (some ⟨bq, oq, none⟩) t.L.length crr) ∧ W.cell? ⟨bq, oq + j * 3 + 1, none⟩ = some (.slice Aq vl.length cq)) := Lib.hid fun W hW => ⟨hW.cell y5 (by simp), hW.cell p1 (by simp)⟩
            have P6 := Lib.hid p6
            have R4 := Lib.hid r4
            clear hcj hxl hgt r1 r2 r3 r4 p6 hris
            go_wp2_with (first
              | (go_at_call 20
                 refine hget.mono ?_
                 rintro _ wd ⟨Ad, cd, rfl, -, -, hyd, hbd⟩
                 have hgd := grown_of_below hbd
                 obtain ⟨y5, p1⟩ := kP.out wd hgd
                 have htd := HTW.out.grown hgd
                 have hby := bytes_any (xs := vl) (ys := vl) (c := cd) (d := cq) hyd (P6.out.keep fun b hb => hgd.block b (R4.out b hb) (by simp))
                 rw [show decide (vl = vl) = true from decide_eq_true rfl] at hby
                 clear hget hyd hbd)
              | (go_at_call 21
                 (with_reducible refine hby.mono ?_)
                 rintro _ _ ⟨rfl, rfl⟩)
              | fail)
            go_roundw
            case rel => exact ⟨j + 1, by omega, by go_num, htd⟩
            case measure => simp [intOf]; omega
          · have hen := HTW.out.ends (by have := HP.out.len; omega)
            obtain ⟨K, m, gk, cs, e1, e2, e3, e4, e5, e6⟩ := hen
            have s0 : wr.drew.cell? ⟨rdp, 1, none⟩ = some (.slice (some ⟨gk, 0, none⟩) m m) := e2.get 1 _ e3
            have E4 := Lib.hid e4
            have E5 := Lib.hid e5
            have HGW := Lib.hid HTW.out.cv.g
            clear e2 e3 e4 e5 r1 r2 r3 r4
            go_wp2
            go_region_held3 (fun W => W.cell? ⟨rdp, 1, none⟩ = some (.slice (some ⟨gk, 0, none⟩) m m)) (first | exact s0 | exact s1) (first
              | (go_at_call 22
                 (with_reducible refine e1.mono ?_)
                 rintro _ wd ⟨gd, rfl, hbd, hgd, hgrd⟩
                 have s1 : wd.cell? ⟨rdp, 1, none⟩ = some (.slice (some ⟨gk, 0, none⟩) m m) := hgrd.cell s0 (by simp)
                 have hgc : wr.grownBy wd none := (grown_drewN 1).trans hgrd
                 have hby := bytes_any (c := m) (d := m) (Blk.byt (pre := []) (post := []) (xs := K) (o := 0) (by simpa using hbd) rfl) (Blk.byt (pre := []) (post := []) (xs := K) (o := 0) (by simpa using E4.out.grown hgc (by simp)) rfl)
                 rw [show decide (K = K) = true from decide_eq_true rfl, E5.out] at hby)
              | (go_at_call 21
                 (with_reducible refine hby.mono ?_)
                 rintro _ _ ⟨rfl, rfl⟩)
              | fail)
            go_wp2
            go_ret
            exact ⟨rfl, HGW.out.trans hgc⟩
end Go.Proofs.YtonpcenjipigpaaGreat
