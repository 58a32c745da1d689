/- TermMore, walked. Conditions: MaxLen holds some number. -/
import Derived.Test.YtbhfjjlfpgineaaRow
import Derived.Deep.CutBlock
namespace Go.Proofs.Ytbhfjjlfpgineaa
open Go.RowKit

set_option maxRecDepth 100000 in
set_option maxHeartbeats 4000000 in
theorem more_walk {w0 : World} {ok : Nat → Prop} {A Ap An0 Ab0 : Option Addr} {l : List Opn} {ln c pn cp nl0 cn0 bl0 cb0 : Nat} {ps : List Prt} {ns0 : List Int} {bs0 : List UInt8} (hx : Opns w0 ok A l) (hok : ∀ b, ok b → b < w0.heap.size) (hln : l.length = ln) (hm : ln ≤ maxLen) (hM : Mx w0)
    (hp : Prts w0 ok Ap ps) (hpn : ps.length = pn) (hmp : pn ≤ maxLen) (hn0 : Ints w0 ok An0 ns0) (hnl0 : ns0.length = nl0) (hb0 : Byt w0 ok Ab0 bs0) (hbl0 : bs0.length = bl0) (hc0 : bl0 ≤ cb0) (hm0 : cb0 ≤ maxLen) :
    Calls Try.prog 6 #[.slice A ln c, .slice Ap pn cp, .agg #[.slice An0 nl0 cn0, .slice Ab0 bl0 cb0]] w0 fun e w' => e = .returned (.bool true) ∧ Below w0.heap.size w0 w' := by
  have HX0 := Lib.hid hx
  have HOK0 := Lib.hid hok
  have HLN := Lib.hid hln
  have HMX0 := Lib.hid hM
  have HM := Lib.hid hm
  have HP0 := Lib.hid hp
  have HPN := Lib.hid hpn
  have HMP := Lib.hid hmp
  have HI0 := Lib.hid hn0
  have HY0 := Lib.hid hb0
  have HNL := Lib.hid hnl0
  have HBL := Lib.hid hbl0
  have HC0 := Lib.hid hc0
  have HM0 := Lib.hid hm0
  clear hx hok hln hM hm hp hpn hmp hn0 hnl0 hb0 hbl0 hc0 hm0
  go_enter Try.func6, Try.ntmps6
  go_wp2_with fail
  have e1 := below_alc w0 (.cells #[.slice An0 nl0 cn0, .slice Ab0 bl0 cb0] 44)
  have e2 := heap_alloc_new w0 (.cells #[.slice An0 nl0 cn0, .slice Ab0 bl0 cb0] 44)
  have e4 := alloc_size w0 (.cells #[.slice An0 nl0 cn0, .slice Ab0 bl0 cb0] 44)
  obtain ⟨w, hw⟩ : ∃ w, w0.alloc (.cells #[.slice An0 nl0 cn0, .slice Ab0 bl0 cb0] 44) = w := ⟨_, rfl⟩
  rw [hw] at e1 e2 e4 ⊢
  clear hw
  obtain ⟨ga, hga⟩ : ∃ ga, w0.heap.size = ga := ⟨_, rfl⟩
  have HX := Lib.hid (HX0.out.keep fun b hb => e1.block b (HOK0.out b hb))
  have HPS := Lib.hid (HP0.out.keep fun b hb => e1.block b (HOK0.out b hb))
  have HIS := Lib.hid (HI0.out.keep fun b hb => e1.block b (HOK0.out b hb))
  have HYS := Lib.hid (HY0.out.keep fun b hb => e1.block b (HOK0.out b hb))
  have HOK := Lib.hid (fun b hb => Nat.lt_of_lt_of_le (HOK0.out b hb) e1.size)
  have HMX := Lib.hid (HMX0.out.below e1)
  have E1 := Lib.hid e1
  rw [hga] at e2 e4 ⊢
  have E2 := Lib.hid e2
  have E4 := Lib.hid e4
  clear e1 e2 e4 HX0 HOK0 HMX0 HP0 HI0 HY0
  go_at_call 8
  refine (alive_any HMX.out).mono ?_
  rintro _ w1 ⟨rfl, hb1⟩
  go_wp2_with fail
  go_at_call 9
  refine (new_any w1).mono ?_
  rintro _ w2 ⟨tb, rfl, _, ht2, hb2⟩
  clear hga
  have hbo := both_new (w0 := w) (hb1.size) ht2
  have hb3 : Below w.heap.size w (w2.alloc (.cells #[.slice none 0 0] 29)) := (hb1.trans (hb2.mono hb1.size)).alloc (Nat.le_trans hb1.size hb2.size) _
  have hp := play_any (c := c) hbo hb3.size (HX.out.keep fun b hb => hb3.block b (HOK.out b hb)) HOK.out HLN.out HM.out
  obtain ⟨rb, hrb⟩ : ∃ rb, w2.heap.size = rb := ⟨_, rfl⟩
  rw [hrb] at hp
  obtain ⟨T, hT⟩ : ∃ T, playT l (min 80 ln) = T := ⟨_, rfl⟩
  rw [hT] at hp
  have HP := Lib.hid hp
  have HB3 := Lib.hid hb3
  clear ht2 hb2 hb1 hbo hb3 hp hT
  go_wp2_with fail
  clear hrb
  go_at_call 10
  refine HP.out.mono ?_
  rintro _ w3 ⟨rfl, hbo, hb4⟩
  have HBO := Lib.hid hbo
  have HB := Lib.hid (HB3.out.trans hb4)
  clear HP HB3 hb4 hbo
  obtain ⟨N, hN⟩ : ∃ N, T.length = N := ⟨_, rfl⟩
  have hNm : N ≤ 65535 := by rw [← hN]; exact HBO.out.max
  have HN := Lib.hid hN
  obtain ⟨A1, c1, k1, _, hcm1, _⟩ := HBO.out.lists
  rw [hN] at k1
  have HK1 := Lib.hid k1
  have HRL := Lib.hid (World.block_lt_of_cell? _ _ k1)
  obtain ⟨i41, hi41, hx0, hx1, hx2⟩ := info_parts info41
  have HI41 := Lib.hid hi41
  have HZ0 := Lib.hid hx0
  have HZ1 := Lib.hid hx1
  have HZ2 := Lib.hid hx2
  clear hN k1 hi41 hx0 hx1 hx2
  go_upto_block 0 with fail
  go_cut [9, 10] from 26 to 48 (fun v p wx => Below w3.heap.size w3 wx ∧ ∃ j : Nat, p = .int .i64 j ∧ j = (prtB N ps 10).length ∧ Cop w3 wx (prtB N ps 10) v j)
  case first =>
    have PL : Hid ((prtB N ps 10).length = min 10 pn) := by rw [← HPN.out]; exact prtB_length _ _ _
    go_wp2_with fail
    go_loopg [9, 10] 10 (fun G v p wr => ∃ j : Nat, p = .int .i64 j ∧ j ≤ pn ∧ j ≤ 10 ∧ 10 - j ≤ G ∧ Hid (Below w3.heap.size w3 wr) ∧ Hid (Cop w3 wr (prtB N ps 10) v j))
    case atStart => exact ⟨0, rfl, by omega, by omega, by omega, Below.refl _ _, Cop.nil _ _ _⟩
    case round =>
      obtain ⟨j, rfl, hjn, hj6, hgk, hbx, hcop⟩ := hrel
      have HGK := Lib.hid hgk
      clear hgk
      by_cases h1 : j < pn
      · by_cases h2 : j < 10
        · have hjp : j < ps.length := by rw [HPN.out]; exact h1
          obtain ⟨pb, po, An, cn, Ab, cb, rfl, hop, p1, p2, p3, p4, p5, p6⟩ := HPS.out.at_ (j := j) hjp
          have hpB : pb < w.heap.size := HOK.out pb hop
          obtain ⟨pt, hpt⟩ : ∃ pt, ps[j]'hjp = pt := ⟨_, rfl⟩
          rw [hpt] at p1 p2 p3 p5 p6
          obtain ⟨ns, bs⟩ := pt
          simp only at p1 p2 p3 p5 p6
          obtain ⟨nl, hnl⟩ : ∃ nl, ns.length = nl := ⟨_, rfl⟩
          obtain ⟨bl, hbl⟩ : ∃ bl, bs.length = bl := ⟨_, rfl⟩
          rw [hnl] at p1
          rw [hbl] at p2 p3
          have P1 := Lib.hid p1
          have P2 := Lib.hid p2
          have P5 := Lib.hid p5
          have P6 := Lib.hid p6
          have HCUT : Hid (∀ W, Below w.heap.size w W → Calls Try.prog 14 #[.agg #[.slice An nl cn, .slice Ab bl cb], .int .i64 N] W (NewB W (cutB ns bs N 5000))) := fun W hW =>
            pbytes_any (P5.out.keep fun b hb => hW.block b (HOK.out b hb)) (P6.out.keep fun b hb => hW.block b (HOK.out b hb)) (fun b hb => by have := HOK.out b hb; have := hW.size; omega) hnl hbl p3 p4 (by omega)
          have HPT := Lib.hid hpt
          have q1 : (0 : Int) ≤ (j : Int) := by omega
          have q2 : (j : Int) < (pn : Int) := by omega
          have q5 : (j : Int) < 10 := by omega
          have KP : Hid (∀ W, Below w3.heap.size w3 W → W.cell? ⟨rb, 0, none⟩ = some (.slice A1 N c1) ∧ W.cell? ⟨pb, po + j * 2, none⟩ = some (.slice An nl cn) ∧ W.cell? ⟨pb, po + j * 2 + 1, none⟩ = some (.slice Ab bl cb)) := fun W hW =>
            have hw := HB.out.trans (hW.mono HB.out.size)
            ⟨(hW.cell (p := ⟨rb, 0, none⟩) HRL.out).trans HK1.out, (hw.cell (p := ⟨pb, po + j * 2, none⟩) hpB).trans P1.out, (hw.cell (p := ⟨pb, po + j * 2 + 1, none⟩) hpB).trans P2.out⟩
          obtain ⟨ss, o1, o2⟩ := hcop.out
          have O1 := Lib.hid o1
          have O2 := Lib.hid o2
          have hzx := hbx.out.size
          have hq0 : Below w3.heap.size w3 wr.drew := ⟨hbx.out.os, hbx.out.tape, hbx.out.output, hbx.out.size, hbx.out.block⟩
          have HC := Lib.hid (HCUT.out wr.drew (HB.out.trans (hq0.mono HB.out.size)))
          have F3 : Hid (j + 1 ≤ maxLen) := by show j + 1 ≤ maxLen; unfold maxLen; omega
          have F4 : Hid ((j + 1) * 24 ≤ 140737488355328) := by show (j + 1) * 24 ≤ _; omega
          clear p1 p2 p3 p4 p5 p6 hpt hnl hbl o1 o2
          go_wp2_with fail
          go_region_held3 (fun W => W.cell? ⟨rb, 0, none⟩ = some (.slice A1 N c1) ∧ W.cell? ⟨pb, po + j * 2, none⟩ = some (.slice An nl cn) ∧ W.cell? ⟨pb, po + j * 2 + 1, none⟩ = some (.slice Ab bl cb)) (first | exact KP.out _ hq5 | exact KP.out _ (hq4.alloc hz14 _) | exact KP.out _ hq4 | exact KP.out _ hq0) (first
            | (go_at_call 14; refine HC.out.mono ?_; intro e wy4 h4; obtain ⟨A3, xl, c3, rfl, hxl, y2, y3, y4, hb4⟩ := newB_n h4; have hb24 : Below wr.heap.size wr wy4 := (Below.refl _ _).drew.trans (hb4.mono (Nat.le_refl _)); have hq4 : Below w3.heap.size w3 wy4 := hbx.out.trans (hb24.mono hzx); have hz14 : w3.heap.size ≤ wy4.heap.size := hq4.size; have o3 := own_below O1.out hb24; have F1 : Hid (∀ j u, [Value.slice A3 xl c3][j]? = some u → (wy4.alloc (.cells #[.slice A3 xl c3] 41)).cell? ((⟨wy4.heap.size, 0, none⟩ : Addr).add j) = some u) := World.news_of_block (heap_alloc_new wy4 _); have F2 : Hid (∀ u ∈ [Value.slice A3 xl c3], u.oneCell' = true) := one_slc _ _ _; have F5 : Hid ((wy4.alloc (.cells #[.slice A3 xl c3] 41)).ownsRow w3.heap.size 41 1 u9 j ss) := o3.alloc _; have F6 : Hid (w3.heap.size ≤ (wy4.alloc (.cells #[.slice A3 xl c3] 41)).heap.size) := le_alc hz14 _; have HB24 := Lib.hid hb24; have HY4 := Lib.hid y4; have HY2 := Lib.hid y2; have HY3 := Lib.hid y3; clear hb24 y4 y2 y3 hb4 o3 h4)
            | ((refine step_append_lies _ (by rfl) _ _ _ (by rfl) w3.heap.size 41 i41 (.slice none 0 0) 1 24 Try.underlying31 HI41.out HZ0.out HZ1.out HZ2.out rfl Nat.one_pos u9 j ss (by rfl) F5.out ⟨wy4.heap.size, 0, none⟩ 1 1 [.slice A3 xl c3] (by rfl) rfl F1.out F2.out Nat.one_pos F3.out F4.out F6.out (wy4.heap.size + 1) (by simp) ?_); intro g5 cap5 wy5 hown5 hgrow5 hat5 hlt5; have hq5 : Below w3.heap.size w3 wy5 := (hq4.alloc hz14 _).grown hgrow5 F6.out (fun g hg => (O1.out.lt g hg).1); have HO5 := Lib.hid hown5; have HG5 := Lib.hid hgrow5; have HA5 := Lib.hid hat5; clear hown5 hgrow5 hat5 hlt5)
            | fail)
          have hb5 := Lib.hid hq5
          have hc5 : Hid (Cop w3 wy5 (prtB N ps 10) (.slice (some ⟨g5, 0, none⟩) (j + 1) cap5) (j + 1)) := by
            have hkm : j < (prtB N ps 10).length := by rw [PL.out]; omega
            have hget : (prtB N ps 10)[j] = cutB ns bs N 5000 := by rw [prtB_get hkm hjp, HPT.out]
            have hlen : (prtB N ps 10)[j].length = xl := by rw [hget]; exact hxl.out
            exact hcop.out.step (w5 := wy5) (A3 := A3) (c3 := c3) (o := .cells #[.slice A3 xl c3] 41) hzx hkm HB24.out (by rw [hget]; exact HY4.out) (by rw [hlen]; exact HY2.out) HY3.out ⟨O1.out, O2.out⟩ (by rw [hlen]; exact HO5.out) HG5.out (by rcases HA5.out with e | e; exact .inl e.symm; exact .inr (by rw [e]; rfl))
          clear hq5 hq4 F1 F2 F5 F6 HO5 HG5 HA5 HY4 HY2 HY3 HB24 O1 O2 hcop hbx hq0 KP
          go_wp2_with fail
          go_roundg (10 - (j + 1))
          case measure => have := HGK.out; omega
          case rel => exact ⟨j + 1, by go_num, by omega, by omega, Nat.le_refl _, hb5.out, hc5.out⟩
        · have d2 : ¬ ((j : Int) < 10) := by omega
          have d1 : (j : Int) < (pn : Int) := by omega
          go_wp2_with fail
          go_meet
          case rel => exact ⟨hbx.out, j, rfl, by rw [PL.out]; omega, hcop.out⟩
      · have d1 : ¬ ((j : Int) < (pn : Int)) := by omega
        go_wp2_with fail
        go_meet
        case rel => exact ⟨hbx.out, j, rfl, by rw [PL.out]; omega, hcop.out⟩
  case rest =>
    obtain ⟨hb4, j1, rfl, hj1, hc1⟩ := hcut
    obtain ⟨w4, hw4⟩ : ∃ w4, w4 = wc := ⟨_, rfl⟩
    subst hw4
    obtain ⟨A5, c5, rfl, hl1⟩ := hc1.lst hj1.symm
    have hjm1 : j1 ≤ 10 := by rw [hj1, prtB_length]; omega
    obtain ⟨L1, hL1⟩ : ∃ L1, prtB N ps 10 = L1 := ⟨_, rfl⟩
    have hle1 : ∀ s ∈ L1, s.length ≤ 5128 := by rw [← hL1]; exact prtB_le
    rw [hL1] at hl1 hj1
    have HL1 := Lib.hid hl1
    have HJ1 := Lib.hid hj1.symm
    have HLE := Lib.hid hle1
    have HBA := Lib.hid hb4
    have HB4W := Lib.hid (HB.out.trans (hb4.mono HB.out.size))
    have HBO4 := Lib.hid (HBO.out.up hb4)
    have HMX4 := Lib.hid (HMX.out.below HB4W.out)
    have HKN := Lib.hid (both_known (c := c5) HBO4.out (hl1.imp fun b hb => hb.2) HJ1.out (by omega) hle1 HMX4.out)
    clear hb4 hc1 hl1 hj1 hL1 hle1
    go_wp2_with fail
    go_at_call 18
    refine HKN.out.mono ?_
    rintro _ w5 ⟨kb, nb, K, rfl, hk5, hi5, hb5⟩
    have HK5 : Hid (Knm w5 kb nb (N + 1) K) := by rw [← HN.out]; exact hk5
    have HI5 := Lib.hid hi5
    have HB35 := Lib.hid (HBA.out.trans (hb5.mono HBA.out.size))
    have HB5W := Lib.hid (HB4W.out.trans (hb5.mono HB4W.out.size))
    have HBO5 := Lib.hid (HBO4.out.up hb5)
    have HMX5 := Lib.hid (HMX4.out.below hb5)
    have HL5 := Lib.hid (HL1.out.keep fun b hb => hb5.block b hb.2)
    have HZ45 := Lib.hid hb5.size
    have KP : Hid (∀ W, Below w5.heap.size w5 W → W.cell? ⟨rb, 0, none⟩ = some (.slice A1 N c1) ∧ W.cell? ⟨ga, 0, none⟩ = some (.slice An0 nl0 cn0) ∧ W.cell? ⟨ga, 1, none⟩ = some (.slice Ab0 bl0 cb0)) := fun W hV => by
      have hW := HB35.out.trans (hV.mono HB35.out.size)
      have hw := HB.out.trans (hW.mono HB.out.size)
      have h := (hw.block ga (by have := E4.out; omega)).trans E2.out
      exact ⟨(hW.cell (p := ⟨rb, 0, none⟩) HRL.out).trans HK1.out, by rw [cell_of_block h]; rfl, by rw [cell_of_block h]; rfl⟩
    have HCUT : Hid (∀ W, Below w.heap.size w W → Calls Try.prog 14 #[.agg #[.slice An0 nl0 cn0, .slice Ab0 bl0 cb0], .int .i64 N] W (NewB W (cutB ns0 bs0 N 5000))) := fun W hW =>
      pbytes_any (HIS.out.keep fun b hb => hW.block b (HOK.out b hb)) (HYS.out.keep fun b hb => hW.block b (HOK.out b hb)) (fun b hb => by have := HOK.out b hb; have := hW.size; omega) HNL.out HBL.out HC0.out HM0.out (by omega)
    obtain ⟨MB, hMB⟩ : ∃ MB, cutB ns0 bs0 N 5000 = MB := ⟨_, rfl⟩
    rw [hMB] at HCUT
    have HML : Hid (MB.length ≤ 5128) := by rw [← hMB]; exact cutB_length _ _ _ _
    -- region 13
    have R0 := Lib.hid (Row31.new (B := w5.heap.size) (w := w5.drew) (Nat.le_refl _))
    have LS0 : Hid (Lst (w5.drew.alloc (.cells #[] 41)) (fun b => b < (w5.drew.alloc (.cells #[] 41)).heap.size ∧ some b ≠ (Value.slice (some ⟨w5.drew.heap.size, 0, none⟩) 0 0).ownBlock) A5 L1) := (HL5.out.keep fun b hb => Below.heap_alloc w5.drew _ _ (Nat.lt_of_lt_of_le hb.2 HZ45.out)).imp fun b hb => by
      have h1 := hb.2
      have h2 := HZ45.out
      refine ⟨by rw [alloc_size]; show b < w5.heap.size + 1; omega, fun e => ?_⟩
      have h3 : b = w5.heap.size := by simpa [Value.ownBlock] using e
      omega
    have hq0 : Below w5.heap.size w5 w5.drew := (Below.refl _ _).drew
    have hq1 : Below w5.heap.size w5 (w5.drew.alloc (.cells #[] 41)) := hq0.alloc (Nat.le_refl _) _
    have HQ1 := Lib.hid hq1
    have HQ0 := Lib.hid hq0
    have hbd : Hid (w5.heap.size ≤ (w5.drew.alloc (.cells #[] 41)).heap.size) := hq1.size
    clear hk5 hi5 hb5 hMB HKN hq0 hq1
    go_wp2_with fail
    go_region_held3 (fun W => W.cell? ⟨rb, 0, none⟩ = some (.slice A1 N c1) ∧ W.cell? ⟨ga, 0, none⟩ = some (.slice An0 nl0 cn0) ∧ W.cell? ⟨ga, 1, none⟩ = some (.slice Ab0 bl0 cb0)) (first | exact KP.out _ HQ9.out | exact KP.out _ HQ8.out | exact KP.out _ HQ7A.out | exact KP.out _ HQ7.out | exact KP.out _ HQ6.out | exact KP.out _ HQ1.out | exact KP.out _ HQ0.out) (first
      | (refine step_app31 rfl (.tmp 53) (.tmp 54) (by rfl) (by rfl) (by rfl) R0.out LS0.out HJ1.out (Nat.zero_add _) (by omega) hbd.out ?_; intro A6 c6 w6 hr6 hb6; rw [List.nil_append] at hr6; have HQ6 := Lib.hid (HQ1.out.trans hb6); have HR6 := Lib.hid hr6; clear hr6 hb6)
      | (go_at_call 14; refine (HCUT.out _ (HB5W.out.trans (HQ6.out.mono HB5W.out.size))).mono ?_; intro e w7 h7; obtain ⟨A7, xl, c7, rfl, hxl, y2, y3, y4, hb7⟩ := newB_n h7; have HQ7 := Lib.hid (HQ6.out.trans (hb7.mono HQ6.out.size)); have HQ7A := Lib.hid (HQ7.out.alloc HQ7.out.size (.cells #[.slice A7 xl c7] 41)); have HR7 := Lib.hid ((HR6.out.up hb7).up (below_alc w7 (.cells #[.slice A7 xl c7] 41))); have HL7 := Lib.hid ((lst_lit1 hxl.out y2 y3 y4 (fun b hb => hb.2)).imp (ok' := fun b => b < (w7.alloc (.cells #[.slice A7 xl c7] 41)).heap.size ∧ some b ≠ (Value.slice A6 j1 c6).ownBlock) (own_apart HR6.out hb7.size)); have HZ7 := Lib.hid HQ7A.out.size; have HY4 := Lib.hid (y4.imp (ok' := fun b => b < w7.heap.size) fun b hb => hb.2); clear h7 hb7 y2 y3 y4 hxl)
      | (refine step_app31 rfl (.tmp 55) (.tmp 63) (by rfl) (by rfl) (by rfl) (m := 1) (k := j1 + 1) (L2 := [MB]) HR7.out HL7.out rfl rfl (by omega) HZ7.out ?_; intro A8 c8 w8 hr8 hb8; have HQ8 := Lib.hid (HQ7A.out.trans hb8); obtain ⟨A8', c8', e8, hl8⟩ := hr8.lst; cases e8; have HK8 := Lib.hid (both_known (n := j1 + 1) (c := c8) (HBO5.out.up HQ8.out) hl8 (by simp [HJ1.out]) (by omega) (more_le HLE.out HML.out) (HMX5.out.below HQ8.out)); clear hr8 hl8 hb8)
      | (go_at_call 18; refine HK8.out.mono ?_; rintro _ w9 ⟨kb2, nb2, K2, rfl, hk9, hi9, hb9⟩; have HQ9 := Lib.hid (HQ8.out.trans (hb9.mono HQ8.out.size)))
      | fail)
    have HK9 : Hid (Knm w9 kb2 nb2 (N + 1) K2) := by rw [← HN.out]; exact hk9
    have HI9 := Lib.hid hi9
    have HK59 := Lib.hid (Knm.below HK5.out HQ9.out)
    clear hk9 hi9 hb9 HK8
    go_wp2_with fail
    have KP9 : Hid (∀ W, Below w9.heap.size w9 W → W.cell? ⟨rb, 0, none⟩ = some (.slice A1 N c1) ∧ W.cell? ⟨ga, 0, none⟩ = some (.slice An0 nl0 cn0) ∧ W.cell? ⟨ga, 1, none⟩ = some (.slice Ab0 bl0 cb0)) := fun W hW => KP.out W (HQ9.out.trans (hW.mono HQ9.out.size))
    have HQA := Lib.hid (Below.refl w9.heap.size w9).drew
    have HB9W := Lib.hid (HB5W.out.trans (HQ9.out.mono HB5W.out.size))
    have HMX9 := Lib.hid (HMX5.out.below HQ9.out)
    obtain ⟨bs, hbs⟩ : ∃ bs, (nms MB (N + 1)).all K = bs := ⟨_, rfl⟩
    have HBS := Lib.hid hbs
    clear hbs
    go_region_held3 (fun W => W.cell? ⟨rb, 0, none⟩ = some (.slice A1 N c1) ∧ W.cell? ⟨ga, 0, none⟩ = some (.slice An0 nl0 cn0) ∧ W.cell? ⟨ga, 1, none⟩ = some (.slice Ab0 bl0 cb0)) (first | exact KP9.out _ HQC.out | exact KP9.out _ HQB.out | exact KP9.out _ HQA.out) (first
      | (go_at_call 14; refine (HCUT.out _ (HB9W.out.trans (HQA.out.mono HB9W.out.size))).mono ?_; intro e w10 h10; obtain ⟨AA, xm, ca, rfl, hxm, z2, z3, z4, hb10⟩ := newB_n h10; have HQB := Lib.hid (HQA.out.trans (hb10.mono HQA.out.size)); have HHS := Lib.hid (byt_has (c := ca) (Knm.below HK59.out HQB.out) (z4.imp (ok' := fun b => b < w10.heap.size) fun b hb => hb.2) hxm.out z2 z3 (by rw [← hxm.out]; exact HML.out) hNm HBS.out (HMX9.out.below HQB.out)); clear h10 hb10 z2 z3 z4 hxm)
      | (go_at_call 20; refine HHS.out.mono ?_; rintro _ w11 ⟨rfl, hb11⟩; have HQC := Lib.hid (HQB.out.trans (hb11.mono HQB.out.size)); clear hb11)
      | fail)
    have HKA := Lib.hid (Knm.below HK59.out HQC.out)
    have HKB := Lib.hid (Knm.below HK9.out HQC.out)
    have HMXC := Lib.hid (HMX9.out.below HQC.out)
    have HBCW := Lib.hid (E1.out.trans ((HB9W.out.trans (HQC.out.mono HB9W.out.size)).mono E1.out.size))
    have KPC : Hid (∀ W, Below w11.heap.size w11 W → W.cell? ⟨rb, 0, none⟩ = some (.slice A1 N c1)) := fun W hW => (KP9.out W (HQC.out.trans (hW.mono HQC.out.size))).1
    have hmono : Hid (∀ i, K i = true → K2 i = true) := fun i hi => (HI9.out i).2 (kno_more (fun s hs => List.mem_append.2 (.inl hs)) ((HI5.out i).1 hi))
    have hidle : Hid (bs = true → ∀ i, K2 i = true → K i = true) := fun hb i hi => (HI5.out i).2 (kno_idle (fun k hk => by
      rw [HN.out] at hk
      exact (HI5.out k).1 (List.all_eq_true.1 (HBS.out.trans hb) k hk)) ((HI9.out i).1 hi))
    clear HK59 HK9 HK5 HQA HQB HQ8 HQ7A HQ7 HQ6 HQ1 HQ0 HHS
    go_wp2_with fail
    go_loopg [14] (N + 1) (fun G p wr => ∃ i : Nat, p = .int .i64 i ∧ 1 ≤ i ∧ i ≤ N + 1 ∧ N + 1 - i ≤ G ∧ Hid (Below w11.heap.size w11 wr))
    case atStart => exact ⟨1, rfl, by omega, by omega, by omega, Below.refl _ _⟩
    case round =>
      obtain ⟨i, rfl, hi1, hiN, hgk, hb⟩ := hrel
      have HGK := Lib.hid hgk
      have hk1 := KPC.out wr hb.out
      clear hgk
      rcases Nat.lt_or_ge N i with hge | hle
      · have d0 : ¬ ((i : Int) ≤ (N : Int)) := by omega
        go_wp2_with fail
        go_ret
        exact ⟨rfl, HBCW.out.trans (hb.out.mono HBCW.out.size)⟩
      · have d0 : (i : Int) ≤ (N : Int) := by omega
        have q7 : (i : Int) + 1 ≤ 100000 := by omega
        have HNM := Lib.hid (refname_any i wr (by omega))
        go_wp2_with fail
        go_at_call 12
        refine HNM.out.mono ?_
        rintro _ wa ⟨rfl, hba⟩
        go_wp2_with (first | (refine wpList_alloc32 i34 rfl rfl ?_) | fail)
        intro wb hb1 hb2 hb3
        go_wp2_with (first | (refine wpList_store32 i34 rfl _ _ rfl wa.heap.size z32 (nm i) rfl rfl hb1 z32_length (nm_length i) wa.heap.size (Nat.le_refl _) ?_) | fail)
        intro ws hs1 hs2 hs3 hs4
        have HKY := Lib.hid hs1
        have HBS2 := Lib.hid ((hb.out.trans (hba.mono hb.out.size)).trans ((hb2.trans hs2).mono (Nat.le_trans hb.out.size hba.size)))
        obtain ⟨gk, hgk⟩ : ∃ gk, wa.heap.size = gk := ⟨_, rfl⟩
        rw [hgk] at HKY ⊢
        obtain ⟨b1, hb1'⟩ : ∃ b1, K i = b1 := ⟨_, rfl⟩
        obtain ⟨b2, hb2'⟩ : ∃ b2, K2 i = b2 := ⟨_, rfl⟩
        have C1 : Hid (∀ W, Below ws.heap.size ws W → Calls Try.prog 20 #[.pointer (some ⟨kb, 0, none⟩), .slice (some ⟨gk, 0, none⟩) 32 32] W fun e w' => e = .returned (.bool b1) ∧ Below W.heap.size W w') := fun W hW =>
          have hw := HBS2.out.trans (hW.mono HBS2.out.size)
          name_has (Knm.below HKA.out hw) ((hW.block _ (Arr.lt HKY.out)).trans HKY.out) hi1 hle hNm hb1' (HMXC.out.below hw)
        have C2 : Hid (∀ W, Below ws.heap.size ws W → Calls Try.prog 20 #[.pointer (some ⟨kb2, 0, none⟩), .slice (some ⟨gk, 0, none⟩) 32 32] W fun e w' => e = .returned (.bool b2) ∧ Below W.heap.size W w') := fun W hW =>
          have hw := HBS2.out.trans (hW.mono HBS2.out.size)
          name_has (Knm.below HKB.out hw) ((hW.block _ (Arr.lt HKY.out)).trans HKY.out) hi1 hle hNm hb2' (HMXC.out.below hw)
        have hm := hmono.out i
        have hd := fun h => hidle.out h i
        rw [hb1', hb2'] at hm hd
        have P0 := Lib.hid (Below.refl ws.heap.size ws)
        clear hba hb1 hb2 hb3 hs1 hs2 hs3 hs4 hgk HNM hb1' hb2' hk1
        cases b1 with
        | true =>
          obtain rfl : b2 = true := hm rfl
          clear hm hd
          cases bs with
          | true =>
            go_wp2_with fail
            go_at_call 20
            refine (C1.out _ P0.out).mono ?_
            rintro _ wh0 ⟨rfl, hh_⟩
            have P1 := Lib.hid (P0.out.trans (hh_.mono P0.out.size))
            clear hh_
            go_wp2_with fail
            go_at_call 20
            refine (C2.out _ P1.out).mono ?_
            rintro _ wh1 ⟨rfl, hh_⟩
            have P2 := Lib.hid (P1.out.trans (hh_.mono P1.out.size))
            clear hh_
            go_wp2_with fail
            go_at_call 20
            refine (C2.out _ P2.out).mono ?_
            rintro _ wh2 ⟨rfl, hh_⟩
            have P3 := Lib.hid (P2.out.trans (hh_.mono P2.out.size))
            clear hh_
            go_wp2_with fail
            go_at_call 20
            refine (C1.out _ P3.out).mono ?_
            rintro _ wh3 ⟨rfl, hh_⟩
            have P4 := Lib.hid (P3.out.trans (hh_.mono P3.out.size))
            clear hh_
            have HE := Lib.hid (HBS2.out.trans (P4.out.mono HBS2.out.size))
            go_wp2_with fail
            go_roundg (N + 1 - (i + 1))
            case measure => have := HGK.out; omega
            case rel => exact ⟨i + 1, by go_num, by omega, by omega, Nat.le_refl _, HE.out⟩
          | false =>
            go_wp2_with fail
            go_at_call 20
            refine (C1.out _ P0.out).mono ?_
            rintro _ wh0 ⟨rfl, hh_⟩
            have P1 := Lib.hid (P0.out.trans (hh_.mono P0.out.size))
            clear hh_
            go_wp2_with fail
            go_at_call 20
            refine (C2.out _ P1.out).mono ?_
            rintro _ wh1 ⟨rfl, hh_⟩
            have P2 := Lib.hid (P1.out.trans (hh_.mono P1.out.size))
            clear hh_
            have HE := Lib.hid (HBS2.out.trans (P2.out.mono HBS2.out.size))
            go_wp2_with fail
            go_roundg (N + 1 - (i + 1))
            case measure => have := HGK.out; omega
            case rel => exact ⟨i + 1, by go_num, by omega, by omega, Nat.le_refl _, HE.out⟩
        | false =>
          cases bs with
          | true =>
            obtain rfl : b2 = false := by
              cases b2 with
              | false => rfl
              | true => exact absurd (hd rfl rfl) (by simp)
            clear hm hd
            go_wp2_with fail
            go_at_call 20
            refine (C1.out _ P0.out).mono ?_
            rintro _ wh0 ⟨rfl, hh_⟩
            have P1 := Lib.hid (P0.out.trans (hh_.mono P0.out.size))
            clear hh_
            go_wp2_with fail
            go_at_call 20
            refine (C2.out _ P1.out).mono ?_
            rintro _ wh1 ⟨rfl, hh_⟩
            have P2 := Lib.hid (P1.out.trans (hh_.mono P1.out.size))
            clear hh_
            have HE := Lib.hid (HBS2.out.trans (P2.out.mono HBS2.out.size))
            go_wp2_with fail
            go_roundg (N + 1 - (i + 1))
            case measure => have := HGK.out; omega
            case rel => exact ⟨i + 1, by go_num, by omega, by omega, Nat.le_refl _, HE.out⟩
          | false =>
            clear hm hd
            go_wp2_with fail
            go_at_call 20
            refine (C1.out _ P0.out).mono ?_
            rintro _ wh0 ⟨rfl, hh_⟩
            have P1 := Lib.hid (P0.out.trans (hh_.mono P0.out.size))
            clear hh_
            have HE := Lib.hid (HBS2.out.trans (P1.out.mono HBS2.out.size))
            go_wp2_with fail
            go_roundg (N + 1 - (i + 1))
            case measure => have := HGK.out; omega
            case rel => exact ⟨i + 1, by go_num, by omega, by omega, Nat.le_refl _, HE.out⟩
end Go.Proofs.Ytbhfjjlfpgineaa
