/- TermKnown, walked. Conditions: MaxLen holds some number. -/
import Derived.Test.YtbhfjjlfpgineaaRKn
import Derived.Deep.CutBlock
namespace Go.Proofs.Ytbhfjjlfpgineaa
open Go.RowKit

theorem Both.rtb {B tb rb : Nat} {w : World} {T : List Trm} (h : Both B w tb rb T) : RTbl w (fun b => b < w.heap.size) rb T := by
  obtain ⟨ok1, ok2, t1, t2, t3, t4, t5⟩ := h
  exact t2.imp fun b hb _ => hb
theorem both_rknown {B tb rb n c : Nat} {w : World} {T : List Trm} {A : Option Addr} {ps : List (List UInt8)} (h : Both B w tb rb T) (hx : Lst w (fun b => b < w.heap.size) A ps) (hn : ps.length = n) (hm : n ≤ 1000) (hl : ∀ s ∈ ps, s.length ≤ 5128) :
    Calls Try.prog 19 #[.pointer (some ⟨rb, 0, none⟩), .slice A n c] w (RKn w T ps) :=
  rknown_any h.rtb (fun _ h => h) h.good hx (fun _ h => h) hn hm hl
theorem plain_byt (w : World) : Byt (w.alloc (.cells #[.int .u8 112, .int .u8 108, .int .u8 97, .int .u8 105, .int .u8 110] 5 (5, 6))) (fun b => b < w.heap.size + 1) (some ⟨w.heap.size, 0, none⟩) [112, 108, 97, 105, 110] := fun j hj => by
  refine ⟨_, rfl, Nat.lt_succ_self _, ?_⟩
  rw [Addr.add_lit, Nat.zero_add]
  have h5 : j < 5 := hj
  rcases (by omega : j = 0 ∨ j = 1 ∨ j = 2 ∨ j = 3 ∨ j = 4) with rfl | rfl | rfl | rfl | rfl <;> exact World.cell?_alloc_mark w _ _ _ _
theorem plain_has {w6 w8 : World} {kb nb N : Nat} {K : Nat → Bool} (hk : Knm w6 kb nb (N + 1) K) (hb : Below w6.heap.size w6 w8) (hN : N ≤ 65535) (hM : Mx w6) :
    Calls Try.prog 20 #[.pointer (some ⟨kb, 0, none⟩), .slice (some ⟨w8.heap.size, 0, none⟩) 5 5] (w8.alloc (.cells #[.int .u8 112, .int .u8 108, .int .u8 97, .int .u8 105, .int .u8 110] 5 (5, 6))) fun e w' => e = .returned (.bool true) ∧ Below (w8.alloc (.cells #[.int .u8 112, .int .u8 108, .int .u8 97, .int .u8 105, .int .u8 110] 5 (5, 6))).heap.size (w8.alloc (.cells #[.int .u8 112, .int .u8 108, .int .u8 97, .int .u8 105, .int .u8 110] 5 (5, 6))) w' := by
  have hb2 := hb.trans ((below_alc w8 (.cells #[.int .u8 112, .int .u8 108, .int .u8 97, .int .u8 105, .int .u8 110] 5 (5, 6))).mono hb.size)
  exact byt_has (Knm.below hk hb2) ((plain_byt w8).imp fun b h => by rw [alloc_size]; exact h) rfl (Nat.le_refl _) (by unfold maxLen; omega) (by omega) hN (by rw [nms_short _ _ (by decide)]; rfl) (hM.below hb2)

set_option maxRecDepth 100000 in
set_option maxHeartbeats 4000000 in
theorem known_walk {w : World} {ok : Nat → Prop} {A Ap : Option Addr} {l : List Opn} {ln c pn cp : Nat} {ps : List Prt} (hx : Opns w ok A l) (hok : ∀ b, ok b → b < w.heap.size) (hln : l.length = ln) (hm : ln ≤ maxLen) (hM : Mx w)
    (hp : Prts w ok Ap ps) (hpn : ps.length = pn) (hmp : pn ≤ maxLen) :
    Calls Try.prog 5 #[.slice A ln c, .slice Ap pn cp] w fun e w' => e = .returned (.bool true) ∧ Below w.heap.size w w' := by
  have HPS := Lib.hid hp
  have HPN := Lib.hid hpn
  have HMP := Lib.hid hmp
  clear hp hpn hmp
  have HX := Lib.hid hx
  have HOK := Lib.hid hok
  have HLN := Lib.hid hln
  have HMX := Lib.hid hM
  have HM := Lib.hid hm
  clear hx hok hln hM hm
  go_enter Try.func5, Try.ntmps5
  go_wp2_with fail
  go_at_call 8
  refine (alive_any HMX.out).mono ?_
  rintro _ w1 ⟨rfl, hb1⟩
  go_wp2_with fail
  go_at_call 9
  refine (new_any w1).mono ?_
  rintro _ w2 ⟨tb, rfl, _, ht2, hb2⟩
  have hbo := both_new (w0 := w) (hb1.size) ht2
  have hb3 : Below w.heap.size w (w2.alloc (.cells #[.slice none 0 0] 29)) := (hb1.trans (hb2.mono hb1.size)).alloc (Nat.le_trans hb1.size hb2.size) _
  have hp := play_any (c := c) hbo hb3.size (HX.out.keep fun b hb => hb3.block b (HOK.out b hb)) HOK.out HLN.out HM.out
  obtain ⟨rb, hrb⟩ : ∃ rb, w2.heap.size = rb := ⟨_, rfl⟩
  rw [hrb] at hp
  obtain ⟨T, hT⟩ : ∃ T, playT l (min 80 ln) = T := ⟨_, rfl⟩
  rw [hT] at hp
  have HP := Lib.hid hp
  have HB3 := Lib.hid hb3
  clear ht2 hb2 hb1 hbo hb3 hp hT
  go_wp2_with fail
  clear hrb
  go_at_call 10
  refine HP.out.mono ?_
  rintro _ w3 ⟨rfl, hbo, hb4⟩
  have HBO := Lib.hid hbo
  have HB := Lib.hid (HB3.out.trans hb4)
  clear HP HB3 hb4 hbo
  obtain ⟨N, hN⟩ : ∃ N, T.length = N := ⟨_, rfl⟩
  have hNm : N ≤ 65535 := by rw [← hN]; exact HBO.out.max
  have HN := Lib.hid hN
  obtain ⟨A1, c1, k1, _, hcm1, _⟩ := HBO.out.lists
  rw [hN] at k1
  have HK1 := Lib.hid k1
  have HRL := Lib.hid (World.block_lt_of_cell? _ _ k1)
  obtain ⟨i41, hi41, hx0, hx1, hx2⟩ := info_parts info41
  have HI41 := Lib.hid hi41
  have HZ0 := Lib.hid hx0
  have HZ1 := Lib.hid hx1
  have HZ2 := Lib.hid hx2
  clear hN k1 hi41 hx0 hx1 hx2
  go_upto_block 0 with fail
  go_cut [7, 8] from 23 to 45 (fun v p wx => Below w3.heap.size w3 wx ∧ ∃ j : Nat, p = .int .i64 j ∧ j = (prtB N ps 10).length ∧ Cop w3 wx (prtB N ps 10) v j)
  case first =>
    have PL : Hid ((prtB N ps 10).length = min 10 pn) := by rw [← HPN.out]; exact prtB_length _ _ _
    go_wp2_with fail
    go_loopg [7, 8] 10 (fun G v p wr => ∃ j : Nat, p = .int .i64 j ∧ j ≤ pn ∧ j ≤ 10 ∧ 10 - j ≤ G ∧ Hid (Below w3.heap.size w3 wr) ∧ Hid (Cop w3 wr (prtB N ps 10) v j))
    case atStart => exact ⟨0, rfl, by omega, by omega, by omega, Below.refl _ _, Cop.nil _ _ _⟩
    case round =>
      obtain ⟨j, rfl, hjn, hj6, hgk, hbx, hcop⟩ := hrel
      have HGK := Lib.hid hgk
      clear hgk
      by_cases h1 : j < pn
      · by_cases h2 : j < 10
        · have hjp : j < ps.length := by rw [HPN.out]; exact h1
          obtain ⟨pb, po, An, cn, Ab, cb, rfl, hop, p1, p2, p3, p4, p5, p6⟩ := HPS.out.at_ (j := j) hjp
          have hpB : pb < w.heap.size := HOK.out pb hop
          obtain ⟨pt, hpt⟩ : ∃ pt, ps[j]'hjp = pt := ⟨_, rfl⟩
          rw [hpt] at p1 p2 p3 p5 p6
          obtain ⟨ns, bs⟩ := pt
          simp only at p1 p2 p3 p5 p6
          obtain ⟨nl, hnl⟩ : ∃ nl, ns.length = nl := ⟨_, rfl⟩
          obtain ⟨bl, hbl⟩ : ∃ bl, bs.length = bl := ⟨_, rfl⟩
          rw [hnl] at p1
          rw [hbl] at p2 p3
          have P1 := Lib.hid p1
          have P2 := Lib.hid p2
          have P5 := Lib.hid p5
          have P6 := Lib.hid p6
          have HCUT : Hid (∀ W, Below w.heap.size w W → Calls Try.prog 14 #[.agg #[.slice An nl cn, .slice Ab bl cb], .int .i64 N] W (NewB W (cutB ns bs N 5000))) := fun W hW =>
            pbytes_any (P5.out.keep fun b hb => hW.block b (HOK.out b hb)) (P6.out.keep fun b hb => hW.block b (HOK.out b hb)) (fun b hb => by have := HOK.out b hb; have := hW.size; omega) hnl hbl p3 p4 (by omega)
          have HPT := Lib.hid hpt
          have q1 : (0 : Int) ≤ (j : Int) := by omega
          have q2 : (j : Int) < (pn : Int) := by omega
          have q5 : (j : Int) < 10 := by omega
          have KP : Hid (∀ W, Below w3.heap.size w3 W → W.cell? ⟨rb, 0, none⟩ = some (.slice A1 N c1) ∧ W.cell? ⟨pb, po + j * 2, none⟩ = some (.slice An nl cn) ∧ W.cell? ⟨pb, po + j * 2 + 1, none⟩ = some (.slice Ab bl cb)) := fun W hW =>
            have hw := HB.out.trans (hW.mono HB.out.size)
            ⟨(hW.cell (p := ⟨rb, 0, none⟩) HRL.out).trans HK1.out, (hw.cell (p := ⟨pb, po + j * 2, none⟩) hpB).trans P1.out, (hw.cell (p := ⟨pb, po + j * 2 + 1, none⟩) hpB).trans P2.out⟩
          obtain ⟨ss, o1, o2⟩ := hcop.out
          have O1 := Lib.hid o1
          have O2 := Lib.hid o2
          have hzx := hbx.out.size
          have hq0 : Below w3.heap.size w3 wr.drew := ⟨hbx.out.os, hbx.out.tape, hbx.out.output, hbx.out.size, hbx.out.block⟩
          have HC := Lib.hid (HCUT.out wr.drew (HB.out.trans (hq0.mono HB.out.size)))
          have F3 : Hid (j + 1 ≤ maxLen) := by show j + 1 ≤ maxLen; unfold maxLen; omega
          have F4 : Hid ((j + 1) * 24 ≤ 140737488355328) := by show (j + 1) * 24 ≤ _; omega
          clear p1 p2 p3 p4 p5 p6 hpt hnl hbl o1 o2
          go_wp2_with fail
          go_region_held3 (fun W => W.cell? ⟨rb, 0, none⟩ = some (.slice A1 N c1) ∧ W.cell? ⟨pb, po + j * 2, none⟩ = some (.slice An nl cn) ∧ W.cell? ⟨pb, po + j * 2 + 1, none⟩ = some (.slice Ab bl cb)) (first | exact KP.out _ hq5 | exact KP.out _ (hq4.alloc hz14 _) | exact KP.out _ hq4 | exact KP.out _ hq0) (first
            | (go_at_call 14; refine HC.out.mono ?_; intro e wy4 h4; obtain ⟨A3, xl, c3, rfl, hxl, y2, y3, y4, hb4⟩ := newB_n h4; have hb24 : Below wr.heap.size wr wy4 := (Below.refl _ _).drew.trans (hb4.mono (Nat.le_refl _)); have hq4 : Below w3.heap.size w3 wy4 := hbx.out.trans (hb24.mono hzx); have hz14 : w3.heap.size ≤ wy4.heap.size := hq4.size; have o3 := own_below O1.out hb24; have F1 : Hid (∀ j u, [Value.slice A3 xl c3][j]? = some u → (wy4.alloc (.cells #[.slice A3 xl c3] 41)).cell? ((⟨wy4.heap.size, 0, none⟩ : Addr).add j) = some u) := World.news_of_block (heap_alloc_new wy4 _); have F2 : Hid (∀ u ∈ [Value.slice A3 xl c3], u.oneCell' = true) := one_slc _ _ _; have F5 : Hid ((wy4.alloc (.cells #[.slice A3 xl c3] 41)).ownsRow w3.heap.size 41 1 u7 j ss) := o3.alloc _; have F6 : Hid (w3.heap.size ≤ (wy4.alloc (.cells #[.slice A3 xl c3] 41)).heap.size) := le_alc hz14 _; have HB24 := Lib.hid hb24; have HY4 := Lib.hid y4; have HY2 := Lib.hid y2; have HY3 := Lib.hid y3; clear hb24 y4 y2 y3 hb4 o3 h4)
            | ((refine step_append_lies _ (by rfl) _ _ _ (by rfl) w3.heap.size 41 i41 (.slice none 0 0) 1 24 Try.underlying31 HI41.out HZ0.out HZ1.out HZ2.out rfl Nat.one_pos u7 j ss (by rfl) F5.out ⟨wy4.heap.size, 0, none⟩ 1 1 [.slice A3 xl c3] (by rfl) rfl F1.out F2.out Nat.one_pos F3.out F4.out F6.out (wy4.heap.size + 1) (by simp) ?_); intro g5 cap5 wy5 hown5 hgrow5 hat5 hlt5; have hq5 : Below w3.heap.size w3 wy5 := (hq4.alloc hz14 _).grown hgrow5 F6.out (fun g hg => (O1.out.lt g hg).1); have HO5 := Lib.hid hown5; have HG5 := Lib.hid hgrow5; have HA5 := Lib.hid hat5; clear hown5 hgrow5 hat5 hlt5)
            | fail)
          have hb5 := Lib.hid hq5
          have hc5 : Hid (Cop w3 wy5 (prtB N ps 10) (.slice (some ⟨g5, 0, none⟩) (j + 1) cap5) (j + 1)) := by
            have hkm : j < (prtB N ps 10).length := by rw [PL.out]; omega
            have hget : (prtB N ps 10)[j] = cutB ns bs N 5000 := by rw [prtB_get hkm hjp, HPT.out]
            have hlen : (prtB N ps 10)[j].length = xl := by rw [hget]; exact hxl.out
            exact hcop.out.step (w5 := wy5) (A3 := A3) (c3 := c3) (o := .cells #[.slice A3 xl c3] 41) hzx hkm HB24.out (by rw [hget]; exact HY4.out) (by rw [hlen]; exact HY2.out) HY3.out ⟨O1.out, O2.out⟩ (by rw [hlen]; exact HO5.out) HG5.out (by rcases HA5.out with e | e; exact .inl e.symm; exact .inr (by rw [e]; rfl))
          clear hq5 hq4 F1 F2 F5 F6 HO5 HG5 HA5 HY4 HY2 HY3 HB24 O1 O2 hcop hbx hq0 KP
          go_wp2_with fail
          go_roundg (10 - (j + 1))
          case measure => have := HGK.out; omega
          case rel => exact ⟨j + 1, by go_num, by omega, by omega, Nat.le_refl _, hb5.out, hc5.out⟩
        · have d2 : ¬ ((j : Int) < 10) := by omega
          have d1 : (j : Int) < (pn : Int) := by omega
          go_wp2_with fail
          go_meet
          case rel => exact ⟨hbx.out, j, rfl, by rw [PL.out]; omega, hcop.out⟩
      · have d1 : ¬ ((j : Int) < (pn : Int)) := by omega
        go_wp2_with fail
        go_meet
        case rel => exact ⟨hbx.out, j, rfl, by rw [PL.out]; omega, hcop.out⟩
  case rest =>
    obtain ⟨hb4, j1, rfl, hj1, hc1⟩ := hcut
    obtain ⟨w4, hw4⟩ : ∃ w4, w4 = wc := ⟨_, rfl⟩
    subst hw4
    obtain ⟨A5, c5, rfl, hl1⟩ := hc1.lst hj1.symm
    have hjm1 : j1 ≤ 10 := by rw [hj1, prtB_length]; omega
    obtain ⟨L1, hL1⟩ : ∃ L1, prtB N ps 10 = L1 := ⟨_, rfl⟩
    have hle1 : ∀ s ∈ L1, s.length ≤ 5128 := by rw [← hL1]; exact prtB_le
    rw [hL1] at hl1 hj1
    have HL1 := Lib.hid hl1
    have HJ1 := Lib.hid hj1.symm
    have HLE := Lib.hid hle1
    have HBA := Lib.hid hb4
    have HB4W := Lib.hid (HB.out.trans (hb4.mono HB.out.size))
    have HBO4 := Lib.hid (HBO.out.up hb4)
    have HMX4 := Lib.hid (HMX.out.below HB4W.out)
    have HKN := Lib.hid (both_known (c := c5) HBO4.out (hl1.imp fun b hb => hb.2) HJ1.out (by omega) hle1 HMX4.out)
    clear hb4 hc1 hl1 hj1 hL1 hle1
    go_wp2_with fail
    go_at_call 18
    refine HKN.out.mono ?_
    rintro _ w5 ⟨kb, nb, K, rfl, hk5, hi5, hb5⟩
    have HK5 : Hid (Knm w5 kb nb (N + 1) K) := by rw [← HN.out]; exact hk5
    have HI5 := Lib.hid hi5
    have HB35 := Lib.hid (HBA.out.trans (hb5.mono HBA.out.size))
    have HB5W := Lib.hid (HB4W.out.trans (hb5.mono HB4W.out.size))
    have HBO5 := Lib.hid (HBO4.out.up hb5)
    have HMX5 := Lib.hid (HMX4.out.below hb5)
    have HL5 : Hid (Lst w5 (fun b => b < w5.heap.size) A5 L1) := (HL1.out.keep fun b hb => hb5.block b hb.2).imp fun b hb => Nat.lt_of_lt_of_le hb.2 hb5.size
    have HRK := Lib.hid (both_rknown (c := c5) HBO5.out HL5.out HJ1.out (by omega) HLE.out)
    clear hk5 hi5 hb5 HKN
    go_wp2_with fail
    go_at_call 19
    refine HRK.out.mono ?_
    rintro _ w6 ⟨kg, kn, ck, rfl, _, hkb, hkl, hki, hkg, hb6⟩
    rw [HN.out] at hkl ⊢
    have HBL := Lib.hid hkb
    have HKL := Lib.hid hkl
    have HK6 := Lib.hid (Knm.below HK5.out hb6)
    have HEQ : Hid (∀ n, at_ kn n = K n) := fun n => by
      rw [Bool.eq_iff_iff]
      exact (hki n).trans (HI5.out n).symm
    have HB36 := Lib.hid (HB35.out.trans (hb6.mono HB35.out.size))
    have HB6W := Lib.hid (HB5W.out.trans (hb6.mono HB5W.out.size))
    have HMX6 := Lib.hid (HMX5.out.below hb6)
    have KPC : Hid (∀ W, Below w6.heap.size w6 W → W.cell? ⟨rb, 0, none⟩ = some (.slice A1 N c1)) := fun W hW => by
      have hw := HB36.out.trans (hW.mono HB36.out.size)
      exact (hw.cell (p := ⟨rb, 0, none⟩) HRL.out).trans HK1.out
    clear hkb hkl hki hb6 HRK
    go_upto_block 2 with fail
    go_cut [11, 12] from 52 to 70 (fun _ _ wx => Below w6.heap.size w6 wx)
    case first =>
      go_wp2_with fail
      go_loopg [11] (N + 1) (fun G p wr => ∃ i : Nat, p = .int .i64 i ∧ 1 ≤ i ∧ i ≤ N + 1 ∧ N + 1 - i ≤ G ∧ Hid (Below w6.heap.size w6 wr))
      case atStart => exact ⟨1, rfl, by omega, by omega, by omega, Below.refl _ _⟩
      case round =>
        obtain ⟨i, rfl, hi1, hiN, hgk, hb⟩ := hrel
        have HGK := Lib.hid hgk
        have hk1 := KPC.out wr hb.out
        clear hgk
        rcases Nat.lt_or_ge N i with hge | hle
        · have d0 : ¬ ((i : Int) ≤ (N : Int)) := by omega
          go_wp2_with fail
          go_meet
          case rel => exact hb.out
        · have d0 : (i : Int) ≤ (N : Int) := by omega
          have q7 : (i : Int) + 1 ≤ 100000 := by omega
          have HNM := Lib.hid (refname_any i wr (by omega))
          go_wp2_with fail
          go_at_call 12
          refine HNM.out.mono ?_
          rintro _ wa ⟨rfl, hba⟩
          go_wp2_with (first | (refine wpList_alloc32 i34 rfl rfl ?_) | fail)
          intro wb hb1 hb2 hb3
          go_wp2_with (first | (refine wpList_store32 i34 rfl _ _ rfl wa.heap.size z32 (nm i) rfl rfl hb1 z32_length (nm_length i) wa.heap.size (Nat.le_refl _) ?_) | fail)
          intro ws hs1 hs2 hs3 hs4
          have HKY := Lib.hid hs1
          have HBS2 := Lib.hid ((hb.out.trans (hba.mono hb.out.size)).trans ((hb2.trans hs2).mono (Nat.le_trans hb.out.size hba.size)))
          obtain ⟨gk, hgk⟩ : ∃ gk, wa.heap.size = gk := ⟨_, rfl⟩
          rw [hgk] at HKY ⊢
          obtain ⟨b1, hb1'⟩ : ∃ b1, K i = b1 := ⟨_, rfl⟩
          have C1 : Hid (∀ W, Below ws.heap.size ws W → Calls Try.prog 20 #[.pointer (some ⟨kb, 0, none⟩), .slice (some ⟨gk, 0, none⟩) 32 32] W fun e w' => e = .returned (.bool b1) ∧ Below W.heap.size W w') := fun W hW =>
            have hw := HBS2.out.trans (hW.mono HBS2.out.size)
            name_has (Knm.below HK6.out hw) ((hW.block _ (Arr.lt HKY.out)).trans HKY.out) hi1 hle hNm hb1' (HMX6.out.below hw)
          have KB : Hid (∀ W, Below ws.heap.size ws W → W.cell? ⟨kg, i, none⟩ = some (.bool b1)) := fun W hW => by
            have hw := HBS2.out.trans (hW.mono HBS2.out.size)
            rw [← hb1', ← HEQ.out i]
            exact (HBL.out.up hw).cell (by rw [HKL.out]; omega)
          have HQA := Lib.hid (below_dN (Below.refl ws.heap.size ws) 1)
          have z1 : (0 : Int) ≤ (i : Int) := by omega
          have z2 : (i : Int) < (N : Int) + 1 := by omega
          have db : (b1 != b1) = false := by simp
          clear hba hb1 hb2 hb3 hs1 hs2 hs3 hs4 hgk HNM hb1' hk1
          go_wp2_with fail
          go_region_held3 (fun W => W.cell? ⟨kg, i, none⟩ = some (.bool b1)) (first | exact KB.out _ HQB.out | exact KB.out _ HQA.out) (first
            | (go_at_call 20; refine (C1.out _ HQA.out).mono ?_; rintro _ wz ⟨rfl, hbz⟩; have HQB := Lib.hid (HQA.out.trans (hbz.mono HQA.out.size)); clear hbz)
            | fail)
          have HE := Lib.hid (HBS2.out.trans (HQB.out.mono HBS2.out.size))
          go_wp2_with fail
          go_roundg (N + 1 - (i + 1))
          case measure => have := HGK.out; omega
          case rel => exact ⟨i + 1, by go_num, by omega, by omega, Nat.le_refl _, HE.out⟩
    case rest =>
      obtain ⟨w7, hw7⟩ : ∃ w7, w7 = wc := ⟨_, rfl⟩
      subst hw7
      have HB7 := Lib.hid hcut
      have HC1 := Lib.hid (byt_has (A := none) (n := 0) (c := 0) (xs := []) (b := true) (Knm.below HK6.out hcut) Byt.nil rfl (Nat.le_refl _) (by unfold maxLen; omega) (by omega) hNm (by rw [nms_short _ _ (by simp)]; rfl) (HMX6.out.below hcut))
      clear hcut
      go_wp2_with fail
      go_at_call 20
      refine HC1.out.mono ?_
      rintro _ w8 ⟨rfl, hb8⟩
      have HB8 := Lib.hid (HB7.out.trans (hb8.mono HB7.out.size))
      have hcv := Lib.run_convert_bytes_const (P := Try.prog) w8 41 5 #[.int .u8 112, .int .u8 108, .int .u8 97, .int .u8 105, .int .u8 110] 5 5 Try.underlying41 Try.underlying5
      clear hb8 HC1
      go_wp2_with fail
      have hcl := plain_has HK6.out HB8.out hNm HMX6.out
      have HCL := Lib.hid hcl
      clear hcl
      go_at_call 20
      refine HCL.out.mono ?_
      rintro _ w9 ⟨rfl, hb9⟩
      have HB9 := Lib.hid ((HB8.out.alloc HB8.out.size _).trans (hb9.mono (Nat.le_trans HB8.out.size (below_alc w8 _).size)))
      clear hb9 HCL hcv
      go_wp2_with fail
      go_ret
      exact ⟨rfl, HB6W.out.trans (HB9.out.mono HB6W.out.size)⟩
end Go.Proofs.Ytbhfjjlfpgineaa
