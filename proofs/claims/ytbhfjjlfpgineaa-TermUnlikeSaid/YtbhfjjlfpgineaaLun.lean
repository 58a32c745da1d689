/- TermUnlike, walked. Conditions: MaxLen holds some number. -/
import Derived.Test.YtbhfjjlfpgineaaUMa
import Derived.Deep.CutBlock
namespace Go.Proofs.Ytbhfjjlfpgineaa
open Go.RowKit

theorem two_boxes (w : World) (x y : Obj) : Below w.heap.size w ((w.alloc x).alloc y) ∧ ((w.alloc x).alloc y).heap[w.heap.size]? = some x ∧ ((w.alloc x).alloc y).heap[w.heap.size + 1]? = some y ∧ ((w.alloc x).alloc y).heap.size = w.heap.size + 2 := by
  have h2 := heap_alloc_new (w.alloc x) y
  rw [alloc_size] at h2
  refine ⟨((Below.refl _ _).alloc (Nat.le_refl _) x).alloc (by rw [alloc_size]; omega) y, ?_, h2, by simp⟩
  exact (Below.heap_alloc (w.alloc x) y _ (by rw [alloc_size]; omega)).trans (heap_alloc_new w x)
set_option maxRecDepth 100000 in
set_option maxHeartbeats 4000000 in
theorem unlike_walk {w0 : World} {ok : Nat → Prop} {A Aa Ab : Option Addr} {l : List Opn} {ln c pna pnb cpa cpb : Nat} {ka kb : Int} {psa psb : List Prt} (hx : Opns w0 ok A l) (hok : ∀ b, ok b → b < w0.heap.size) (hln : l.length = ln) (hm : ln ≤ maxLen) (hM : Mx w0)
    (ha : Prts w0 ok Aa psa) (hpa : psa.length = pna) (hma : pna ≤ maxLen) (hb : Prts w0 ok Ab psb) (hpb : psb.length = pnb) (hmb : pnb ≤ maxLen) :
    Calls Try.prog 7 #[.slice A ln c, .agg #[.int .i64 ka, .slice Aa pna cpa], .agg #[.int .i64 kb, .slice Ab pnb cpb]] w0 fun e w' => e = .returned (.bool true) ∧ Below w0.heap.size w0 w' := by
  have HX0 := Lib.hid hx
  have HOK0 := Lib.hid hok
  have HLN := Lib.hid hln
  have HMX0 := Lib.hid hM
  have HM := Lib.hid hm
  have HA0 := Lib.hid ha
  have HB0 := Lib.hid hb
  have HPA := Lib.hid hpa
  have HPB := Lib.hid hpb
  have HMA := Lib.hid hma
  have HMB := Lib.hid hmb
  clear hx hok hln hM hm ha hb hpa hpb hma hmb
  go_enter Try.func7, Try.ntmps7
  go_wp2_with fail
  obtain ⟨e1, e2, e3, e4⟩ := two_boxes w0 (.cells #[.int .i64 ka, .slice Aa pna cpa] 61) (.cells #[.int .i64 kb, .slice Ab pnb cpb] 61)
  obtain ⟨w, hw⟩ : ∃ w, (w0.alloc (.cells #[.int .i64 ka, .slice Aa pna cpa] 61)).alloc (.cells #[.int .i64 kb, .slice Ab pnb cpb] 61) = w := ⟨_, rfl⟩
  rw [hw] at e1 e2 e3 e4 ⊢
  clear hw
  obtain ⟨ga, hga⟩ : ∃ ga, w0.heap.size = ga := ⟨_, rfl⟩
  have HX := Lib.hid (HX0.out.keep fun b hb => e1.block b (HOK0.out b hb))
  have HPSA := Lib.hid (HA0.out.keep fun b hb => e1.block b (HOK0.out b hb))
  have HPSB := Lib.hid (HB0.out.keep fun b hb => e1.block b (HOK0.out b hb))
  have HOK := Lib.hid (fun b hb => Nat.lt_of_lt_of_le (HOK0.out b hb) e1.size)
  have HMX := Lib.hid (HMX0.out.below e1)
  have E1 := Lib.hid e1
  rw [hga] at e2 e3 e4 ⊢
  have E2 := Lib.hid e2
  have E3 := Lib.hid e3
  have E4 := Lib.hid e4
  clear e1 e2 e3 e4 HX0 HOK0 HMX0 HA0 HB0
  go_at_call 8
  refine (alive_any HMX.out).mono ?_
  rintro _ w1 ⟨rfl, hb1⟩
  go_wp2_with fail
  go_at_call 9
  refine (new_any w1).mono ?_
  rintro _ w2 ⟨tb, rfl, _, ht2, hb2⟩
  clear hga
  have hbo := both_new (w0 := w) (hb1.size) ht2
  have hb3 : Below w.heap.size w (w2.alloc (.cells #[.slice none 0 0] 29)) := (hb1.trans (hb2.mono hb1.size)).alloc (Nat.le_trans hb1.size hb2.size) _
  have hp := play_any (c := c) hbo hb3.size (HX.out.keep fun b hb => hb3.block b (HOK.out b hb)) HOK.out HLN.out HM.out
  obtain ⟨rb, hrb⟩ : ∃ rb, w2.heap.size = rb := ⟨_, rfl⟩
  rw [hrb] at hp
  obtain ⟨T, hT⟩ : ∃ T, playT l (min 80 ln) = T := ⟨_, rfl⟩
  rw [hT] at hp
  have HP := Lib.hid hp
  have HB3 := Lib.hid hb3
  clear ht2 hb2 hb1 hbo hb3 hp hT
  go_wp2_with fail
  clear hrb
  go_at_call 10
  refine HP.out.mono ?_
  rintro _ w3 ⟨rfl, hbo, hb4⟩
  have HBO := Lib.hid hbo
  have HB := Lib.hid (HB3.out.trans hb4)
  clear HP HB3 hb4 hbo
  obtain ⟨N, hN⟩ : ∃ N, T.length = N := ⟨_, rfl⟩
  have hNm : N ≤ 65535 := by rw [← hN]; exact HBO.out.max
  have HN := Lib.hid hN
  obtain ⟨A1, c1, k1, _⟩ := HBO.out.lists
  rw [hN] at k1
  clear hN
  obtain ⟨i41, hi41, hx0, hx1, hx2⟩ := info_parts info41
  have HI41 := Lib.hid hi41
  have HZ0 := Lib.hid hx0
  have HZ1 := Lib.hid hx1
  have HZ2 := Lib.hid hx2
  clear hi41 hx0 hx1 hx2
  have KBA : Hid (∀ W, Below w.heap.size w W → W.cell? ⟨ga, 0, none⟩ = some (.int .i64 ka) ∧ W.cell? ⟨ga, 1, none⟩ = some (.slice Aa pna cpa)) := fun W hW => by
    have h := (hW.block ga (by have := E4.out; omega)).trans E2.out
    exact ⟨by rw [cell_of_block h]; rfl, by rw [cell_of_block h]; rfl⟩
  have KBB : Hid (∀ W, Below w.heap.size w W → W.cell? ⟨ga + 1, 0, none⟩ = some (.int .i64 kb) ∧ W.cell? ⟨ga + 1, 1, none⟩ = some (.slice Ab pnb cpb)) := fun W hW => by
    have h := (hW.block (ga + 1) (by have := E4.out; omega)).trans E3.out
    exact ⟨by rw [cell_of_block h]; rfl, by rw [cell_of_block h]; rfl⟩
  go_upto_block 0 with fail
  go_cut [10, 12] from 35 to 55 (fun v p wx => Below w3.heap.size w3 wx ∧ ∃ j : Nat, p = .int .i64 j ∧ j = (prtB N psa 6).length ∧ Cop w3 wx (prtB N psa 6) v j)
  case first =>
    have PL : Hid ((prtB N psa 6).length = min 6 pna) := by rw [← HPA.out]; exact prtB_length _ _ _
    go_wp2_with fail
    go_loopg [10, 12] 6 (fun G v p wr => ∃ j : Nat, p = .int .i64 j ∧ j ≤ pna ∧ j ≤ 6 ∧ 6 - j ≤ G ∧ Hid (Below w3.heap.size w3 wr) ∧ Hid (Cop w3 wr (prtB N psa 6) v j))
    case atStart => exact ⟨0, rfl, by omega, by omega, by omega, Below.refl _ _, Cop.nil _ _ _⟩
    case round =>
      obtain ⟨j, rfl, hjn, hj6, hgk, hbx, hcop⟩ := hrel
      have HGK := Lib.hid hgk
      have hbw := HB.out.trans (hbx.out.mono HB.out.size)
      obtain ⟨hc0, hc1⟩ := KBA.out wr hbw
      have HBW := Lib.hid hbw
      clear hgk hbw
      by_cases h1 : j < pna
      · by_cases h2 : j < 6
        · have hjp : j < psa.length := by rw [HPA.out]; exact h1
          obtain ⟨pb, po, An, cn, Ab', cb, rfl, hop, p1, p2, p3, p4, p5, p6⟩ := HPSA.out.at_ (j := j) hjp
          have hpB : pb < w.heap.size := HOK.out pb hop
          have r1 := (HBW.out.cell (p := ⟨pb, po + j * 2, none⟩) hpB).trans p1
          have r2 := (HBW.out.cell (p := ⟨pb, po + j * 2 + 1, none⟩) hpB).trans p2
          obtain ⟨pt, hpt⟩ : ∃ pt, psa[j]'hjp = pt := ⟨_, rfl⟩
          rw [hpt] at r1 r2 p3 p5 p6
          obtain ⟨ns, bs⟩ := pt
          simp only at r1 r2 p3 p5 p6
          obtain ⟨nl, hnl⟩ : ∃ nl, ns.length = nl := ⟨_, rfl⟩
          obtain ⟨bl, hbl⟩ : ∃ bl, bs.length = bl := ⟨_, rfl⟩
          rw [hnl] at r1
          rw [hbl] at r2 p3
          have hx5 := p5.keep fun b hb => HBW.out.block b (HOK.out b hb)
          have hx6 := p6.keep fun b hb => HBW.out.block b (HOK.out b hb)
          have hcal := pbytes_any (w := wr) (made := N) (cn := cn) hx5 hx6 (fun b hb => Nat.lt_of_lt_of_le (HOK.out b hb) HBW.out.size) hnl hbl p3 p4 (by omega)
          have HC := Lib.hid hcal
          have HPT := Lib.hid hpt
          have q1 : (0 : Int) ≤ (j : Int) := by omega
          have q2 : (j : Int) < (pna : Int) := by omega
          have q5 : (j : Int) < 6 := by omega
          obtain ⟨ss, o1, o2⟩ := hcop.out
          have O1 := Lib.hid o1
          have O2 := Lib.hid o2
          have HJP := Lib.hid hjp
          clear p1 p2 p3 p4 p5 p6 hpt hnl hbl hx5 hx6 hcal o1 o2
          go_wp2_with fail
          go_at_call 14
          refine HC.out.mono ?_
          intro e wy4 h4
          obtain ⟨A3, xl, c3, rfl, hxl, y2, y3, y4, hb4⟩ := newB_n h4
          have o3 := own_below O1.out hb4
          have O3 := Lib.hid (o3.alloc (.cells #[.slice A3 xl c3] 41))
          have HB4 := Lib.hid hb4
          have HY4 := Lib.hid y4
          have HY2 := Lib.hid y2
          have HY3 := Lib.hid y3
          have F1 : Hid (∀ q u, [Value.slice A3 xl c3][q]? = some u → (wy4.alloc (.cells #[.slice A3 xl c3] 41)).cell? ((⟨wy4.heap.size, 0, none⟩ : Addr).add q) = some u) := World.news_of_block (heap_alloc_new wy4 _)
          have F2 : Hid (∀ u ∈ [Value.slice A3 xl c3], u.oneCell' = true) := one_slc _ _ _
          have F3 : Hid (j + 1 ≤ maxLen) := by show j + 1 ≤ maxLen; unfold maxLen; omega
          have F4 : Hid ((j + 1) * 24 ≤ 140737488355328) := by show (j + 1) * 24 ≤ _; omega
          have F6 : Hid (w3.heap.size ≤ (wy4.alloc (.cells #[.slice A3 xl c3] 41)).heap.size) := le_alc (Nat.le_trans hbx.out.size hb4.size) _
          clear h4 o3 hb4 y2 y3 y4
          go_wp2_with (first | (at_builtin; refine wpList_append_own_at _ rfl _ _ 31 rfl w3.heap.size 41 i41 (.slice none 0 0) 1 24 Try.underlying31 HI41.out HZ0.out HZ1.out HZ2.out rfl Nat.one_pos _ j ss rfl O3.out ⟨wy4.heap.size, 0, none⟩ 1 1 [.slice A3 xl c3] rfl rfl F1.out F2.out F3.out F4.out F6.out ?_) | fail)
          intro v5 wy5 hown5 hgrow5 _ hat5
          have hjl : j < (prtB N psa 6).length := by rw [PL.out]; omega
          have hget : (prtB N psa 6)[j] = cutB ns bs N 5000 := by rw [prtB_get hjl HJP.out, HPT.out]
          have hfin := cop_app (L := prtB N psa 6) (o := .cells #[.slice A3 xl c3] 41) hbx.out hcop.out hjl HB4.out (by rw [hget]; exact HY4.out) (by rw [hget]; exact hxl.out) HY2.out HY3.out ⟨O1.out, O2.out⟩ hown5 hgrow5 hat5
          have HF := Lib.hid hfin
          clear hown5 hgrow5 hat5 hjl hget hfin O1 O2 O3 F1 F2 F3 F4 F6 hcop hbx hc0 hc1 r1 r2 HBW HB4 HY4 HY2 HY3
          go_wp2_with fail
          go_roundg (6 - (j + 1))
          case measure => have := HGK.out; omega
          case rel => exact ⟨j + 1, by go_num, by omega, by omega, Nat.le_refl _, HF.out.2, HF.out.1⟩
        · have d2 : ¬ ((j : Int) < 6) := by omega
          have d1 : (j : Int) < (pna : Int) := by omega
          go_wp2_with fail
          go_meet
          case rel => exact ⟨hbx.out, j, rfl, by rw [PL.out]; omega, hcop.out⟩
      · have d1 : ¬ ((j : Int) < (pna : Int)) := by omega
        go_wp2_with fail
        go_meet
        case rel => exact ⟨hbx.out, j, rfl, by rw [PL.out]; omega, hcop.out⟩
  case rest =>
    obtain ⟨hb4, j1, rfl, hj1, hc1⟩ := hcut
    obtain ⟨w4, hw4⟩ : ∃ w4, w4 = wc := ⟨_, rfl⟩
    subst hw4
    obtain ⟨A5, c5, rfl, hl1⟩ := hc1.lst hj1.symm
    have hjm1 : j1 ≤ 6 := by rw [hj1, prtB_length]; omega
    have HL1 := Lib.hid hl1
    have HJ1 := Lib.hid hj1
    have HBA := Lib.hid hb4
    have HB4W := Lib.hid (HB.out.trans (hb4.mono HB.out.size))
    clear hb4 hc1 hl1 hj1
    go_upto_block 2 with fail
    go_cut [11, 13] from 56 to 76 (fun v p wx => Below w4.heap.size w4 wx ∧ ∃ j : Nat, p = .int .i64 j ∧ j = (prtB N psb 6).length ∧ Cop w4 wx (prtB N psb 6) v j)
    case first =>
      have PL : Hid ((prtB N psb 6).length = min 6 pnb) := by rw [← HPB.out]; exact prtB_length _ _ _
      go_wp2_with fail
      go_loopg [11, 13] 6 (fun G v p wr => ∃ j : Nat, p = .int .i64 j ∧ j ≤ pnb ∧ j ≤ 6 ∧ 6 - j ≤ G ∧ Hid (Below w4.heap.size w4 wr) ∧ Hid (Cop w4 wr (prtB N psb 6) v j))
      case atStart => exact ⟨0, rfl, by omega, by omega, by omega, Below.refl _ _, Cop.nil _ _ _⟩
      case round =>
        obtain ⟨j, rfl, hjn, hj6, hgk, hbx, hcop⟩ := hrel
        have HGK := Lib.hid hgk
        have hbw := HB4W.out.trans (hbx.out.mono HB4W.out.size)
        obtain ⟨hc0, hc1⟩ := KBB.out wr hbw
        have HBW := Lib.hid hbw
        clear hgk hbw
        by_cases h1 : j < pnb
        · by_cases h2 : j < 6
          · have hjp : j < psb.length := by rw [HPB.out]; exact h1
            obtain ⟨pb, po, An, cn, Ab', cb, rfl, hop, p1, p2, p3, p4, p5, p6⟩ := HPSB.out.at_ (j := j) hjp
            have hpB : pb < w.heap.size := HOK.out pb hop
            have r1 := (HBW.out.cell (p := ⟨pb, po + j * 2, none⟩) hpB).trans p1
            have r2 := (HBW.out.cell (p := ⟨pb, po + j * 2 + 1, none⟩) hpB).trans p2
            obtain ⟨pt, hpt⟩ : ∃ pt, psb[j]'hjp = pt := ⟨_, rfl⟩
            rw [hpt] at r1 r2 p3 p5 p6
            obtain ⟨ns, bs⟩ := pt
            simp only at r1 r2 p3 p5 p6
            obtain ⟨nl, hnl⟩ : ∃ nl, ns.length = nl := ⟨_, rfl⟩
            obtain ⟨bl, hbl⟩ : ∃ bl, bs.length = bl := ⟨_, rfl⟩
            rw [hnl] at r1
            rw [hbl] at r2 p3
            have hx5 := p5.keep fun b hb => HBW.out.block b (HOK.out b hb)
            have hx6 := p6.keep fun b hb => HBW.out.block b (HOK.out b hb)
            have hcal := pbytes_any (w := wr) (made := N) (cn := cn) hx5 hx6 (fun b hb => Nat.lt_of_lt_of_le (HOK.out b hb) HBW.out.size) hnl hbl p3 p4 (by omega)
            have HC := Lib.hid hcal
            have HPT := Lib.hid hpt
            have q1 : (0 : Int) ≤ (j : Int) := by omega
            have q2 : (j : Int) < (pnb : Int) := by omega
            have q5 : (j : Int) < 6 := by omega
            obtain ⟨ss, o1, o2⟩ := hcop.out
            have O1 := Lib.hid o1
            have O2 := Lib.hid o2
            have HJP := Lib.hid hjp
            clear p1 p2 p3 p4 p5 p6 hpt hnl hbl hx5 hx6 hcal o1 o2
            go_wp2_with fail
            go_at_call 14
            refine HC.out.mono ?_
            intro e wy4 h4
            obtain ⟨A3, xl, c3, rfl, hxl, y2, y3, y4, hb4⟩ := newB_n h4
            have o3 := own_below O1.out hb4
            have O3 := Lib.hid (o3.alloc (.cells #[.slice A3 xl c3] 41))
            have HB4 := Lib.hid hb4
            have HY4 := Lib.hid y4
            have HY2 := Lib.hid y2
            have HY3 := Lib.hid y3
            have F1 : Hid (∀ q u, [Value.slice A3 xl c3][q]? = some u → (wy4.alloc (.cells #[.slice A3 xl c3] 41)).cell? ((⟨wy4.heap.size, 0, none⟩ : Addr).add q) = some u) := World.news_of_block (heap_alloc_new wy4 _)
            have F2 : Hid (∀ u ∈ [Value.slice A3 xl c3], u.oneCell' = true) := one_slc _ _ _
            have F3 : Hid (j + 1 ≤ maxLen) := by show j + 1 ≤ maxLen; unfold maxLen; omega
            have F4 : Hid ((j + 1) * 24 ≤ 140737488355328) := by show (j + 1) * 24 ≤ _; omega
            have F6 : Hid (w4.heap.size ≤ (wy4.alloc (.cells #[.slice A3 xl c3] 41)).heap.size) := le_alc (Nat.le_trans hbx.out.size hb4.size) _
            clear h4 o3 hb4 y2 y3 y4
            go_wp2_with (first | (at_builtin; refine wpList_append_own_at _ rfl _ _ 31 rfl w4.heap.size 41 i41 (.slice none 0 0) 1 24 Try.underlying31 HI41.out HZ0.out HZ1.out HZ2.out rfl Nat.one_pos _ j ss rfl O3.out ⟨wy4.heap.size, 0, none⟩ 1 1 [.slice A3 xl c3] rfl rfl F1.out F2.out F3.out F4.out F6.out ?_) | fail)
            intro v5 wy5 hown5 hgrow5 _ hat5
            have hjl : j < (prtB N psb 6).length := by rw [PL.out]; omega
            have hget : (prtB N psb 6)[j] = cutB ns bs N 5000 := by rw [prtB_get hjl HJP.out, HPT.out]
            have hfin := cop_app (L := prtB N psb 6) (o := .cells #[.slice A3 xl c3] 41) hbx.out hcop.out hjl HB4.out (by rw [hget]; exact HY4.out) (by rw [hget]; exact hxl.out) HY2.out HY3.out ⟨O1.out, O2.out⟩ hown5 hgrow5 hat5
            have HF := Lib.hid hfin
            clear hown5 hgrow5 hat5 hjl hget hfin O1 O2 O3 F1 F2 F3 F4 F6 hcop hbx hc0 hc1 r1 r2 HBW HB4 HY4 HY2 HY3
            go_wp2_with fail
            go_roundg (6 - (j + 1))
            case measure => have := HGK.out; omega
            case rel => exact ⟨j + 1, by go_num, by omega, by omega, Nat.le_refl _, HF.out.2, HF.out.1⟩
          · have d2 : ¬ ((j : Int) < 6) := by omega
            have d1 : (j : Int) < (pnb : Int) := by omega
            go_wp2_with fail
            go_meet
            case rel => exact ⟨hbx.out, j, rfl, by rw [PL.out]; omega, hcop.out⟩
        · have d1 : ¬ ((j : Int) < (pnb : Int)) := by omega
          go_wp2_with fail
          go_meet
          case rel => exact ⟨hbx.out, j, rfl, by rw [PL.out]; omega, hcop.out⟩
    case rest =>
      obtain ⟨hb5, j2, rfl, hj2, hc2⟩ := hcut
      obtain ⟨w5, hw5⟩ : ∃ w5, w5 = wc := ⟨_, rfl⟩
      subst hw5
      obtain ⟨A6, c6, rfl, hl2⟩ := hc2.lst hj2.symm
      have hjm2 : j2 ≤ 6 := by rw [hj2, prtB_length]; omega
      have hz3 := HB.out.size
      have hz4 := HBA.out.size
      have hz5 := hb5.size
      have hud0 : UD w.heap.size w5 (fun b => w.heap.size ≤ b ∧ b < w3.heap.size) tb T [(A5, prtB N psa 6), (A6, prtB N psb 6)] [] [(ga, #[.int .i64 ka, .slice Aa pna cpa]), (ga + 1, #[.int .i64 kb, .slice Ab pnb cpb])] := by
        have hb35 := HBA.out.trans (hb5.mono HBA.out.size)
        have hbw5 := HB.out.trans (hb35.mono HB.out.size)
        have h4 := E4.out
        refine ⟨HBO.out.tbl.below hb35, fun b hb => ⟨hb.1, by omega⟩, fun x hx => ?_, fun x hx => absurd hx (by simp), fun x hx => ?_⟩
        · simp only [List.mem_cons, List.not_mem_nil, or_false] at hx
          rcases hx with rfl | rfl
          · exact (HL1.out.keep fun b hb => hb5.block b hb.2).imp fun b hb => ⟨by omega, fun h => by have := h.2; omega⟩
          · exact hl2.imp fun b hb => ⟨by omega, fun h => by have := h.2; omega⟩
        · simp only [List.mem_cons, List.not_mem_nil, or_false] at hx
          rcases hx with rfl | rfl
          · exact ⟨⟨by show ga < _; omega, fun h => by have := h.1; simp only at this; omega⟩, (hbw5.block ga (by omega)).trans E2.out⟩
          · exact ⟨⟨by show ga + 1 < _; omega, fun h => by have := h.1; simp only at this; omega⟩, (hbw5.block (ga + 1) (by omega)).trans E3.out⟩
      obtain ⟨okT, hokT⟩ : ∃ okT : Nat → Prop, (fun b => w.heap.size ≤ b ∧ b < w3.heap.size) = okT := ⟨_, rfl⟩
      rw [hokT] at hud0
      have D5 := Lib.hid hud0
      have HB5W := Lib.hid (HB4W.out.trans (hb5.mono HB4W.out.size))
      obtain ⟨L1, hL1⟩ : ∃ L1, prtB N psa 6 = L1 := ⟨_, rfl⟩
      obtain ⟨L2, hL2⟩ : ∃ L2, prtB N psb 6 = L2 := ⟨_, rfl⟩
      have hj1 := HJ1.out.symm
      rw [hL1] at D5 hj1
      rw [hL2] at D5 hj2
      have HJ1' := Lib.hid hj1
      have HJ2' := Lib.hid hj2.symm
      clear hud0 hokT hz3 hz4 hz5 hb5 hc2 hl2 hj2 hL1 hL2 hj1 HJ1 HL1 HBA HB4W HBO k1
      obtain ⟨p1, hp1⟩ : ∃ p, mk T ka L1 = p := ⟨_, rfl⟩
      have HC1 := Lib.hid (D5.out.make (c := c5) hp1 HB5W.out.size (A := A5) (by simp) HJ1'.out (by unfold maxLen; omega))
      have HP1 := Lib.hid hp1
      have kc1 : w5.cell? ⟨ga, 0, none⟩ = some (.int .i64 ka) := D5.out.cell (g := ga) (cs := #[.int .i64 ka, .slice Aa pna cpa]) (by simp) 0
      clear hp1
      go_wp2_with fail
      go_at_call 21
      refine HC1.out.mono ?_
      rintro _ wm1 ⟨rfl, hb1, ok1, hd1⟩
      have HBM1 := Lib.hid (HB5W.out.trans hb1)
      have DM1 := Lib.hid hd1
      obtain ⟨ks1, hks1⟩ : ∃ ks, nm0 p1.1 = ks := ⟨_, rfl⟩
      obtain ⟨bv1, hbv1⟩ : ∃ bv, decide (0 < p1.1) = bv := ⟨_, rfl⟩
      have hkl1 : Hid (ks1.length = 32) := by rw [← hks1]; exact nm0_length _
      rw [hks1, hbv1]
      have HKS1 := Lib.hid hks1
      have HBV1 := Lib.hid hbv1
      clear hb1 hd1 hks1 hbv1 HC1 kc1
      go_wp2_with (first | (refine wpList_alloc32 i49 rfl rfl ?_) | fail)
      intro wn1 ha_ hbn_ hz_
      go_wp2_with (first | (refine wpList_store32 i49 rfl _ _ rfl wm1.heap.size z32 ks1 rfl rfl ha_ z32_length hkl1.out wm1.heap.size (Nat.le_refl _) ?_) | fail)
      intro wo1 hk_ hc_ ho_ hy_
      have DO1 := Lib.hid (DM1.out.more (hbn_.trans hc_) (Nat.le_refl _) hk_)
      have HBO1 := Lib.hid (HBM1.out.trans ((hbn_.trans hc_).mono HBM1.out.size))
      obtain ⟨g1, hg1⟩ : ∃ g, wm1.heap.size = g := ⟨_, rfl⟩
      rw [hg1] at DO1 ⊢
      clear ha_ hbn_ hz_ hk_ hc_ ho_ hy_ hg1
      obtain ⟨p2, hp2⟩ : ∃ p, mk p1.2 kb L2 = p := ⟨_, rfl⟩
      have HC2 := Lib.hid (DO1.out.make (c := c6) hp2 HBO1.out.size (A := A6) (by simp) HJ2'.out (by unfold maxLen; omega))
      have HP2 := Lib.hid hp2
      have kc2 : wo1.cell? ⟨ga + 1, 0, none⟩ = some (.int .i64 kb) := DO1.out.cell (g := ga + 1) (cs := #[.int .i64 kb, .slice Ab pnb cpb]) (by simp) 0
      clear hp2
      go_wp2_with fail
      go_at_call 21
      refine HC2.out.mono ?_
      rintro _ wm2 ⟨rfl, hb2, ok2, hd2⟩
      have HBM2 := Lib.hid (HBO1.out.trans hb2)
      have DM2 := Lib.hid hd2
      obtain ⟨ks2, hks2⟩ : ∃ ks, nm0 p2.1 = ks := ⟨_, rfl⟩
      obtain ⟨bv2, hbv2⟩ : ∃ bv, decide (0 < p2.1) = bv := ⟨_, rfl⟩
      have hkl2 : Hid (ks2.length = 32) := by rw [← hks2]; exact nm0_length _
      rw [hks2, hbv2]
      have HKS2 := Lib.hid hks2
      have HBV2 := Lib.hid hbv2
      clear hb2 hd2 hks2 hbv2 HC2 kc2
      go_wp2_with (first | (refine wpList_alloc32 i49 rfl rfl ?_) | fail)
      intro wn2 ha_ hbn_ hz_
      go_wp2_with (first | (refine wpList_store32 i49 rfl _ _ rfl wm2.heap.size z32 ks2 rfl rfl ha_ z32_length hkl2.out wm2.heap.size (Nat.le_refl _) ?_) | fail)
      intro wo2 hk_ hc_ ho_ hy_
      have DO2 := Lib.hid (DM2.out.more (hbn_.trans hc_) (Nat.le_refl _) hk_)
      have HBO2 := Lib.hid (HBM2.out.trans ((hbn_.trans hc_).mono HBM2.out.size))
      obtain ⟨g2, hg2⟩ : ∃ g, wm2.heap.size = g := ⟨_, rfl⟩
      rw [hg2] at DO2 ⊢
      clear ha_ hbn_ hz_ hk_ hc_ ho_ hy_ hg2
      obtain ⟨p3, hp3⟩ : ∃ p, mk p2.2 ka L1 = p := ⟨_, rfl⟩
      have HC3 := Lib.hid (DO2.out.make (c := c5) hp3 HBO2.out.size (A := A5) (by simp) HJ1'.out (by unfold maxLen; omega))
      have HP3 := Lib.hid hp3
      have kc3 : wo2.cell? ⟨ga, 0, none⟩ = some (.int .i64 ka) := DO2.out.cell (g := ga) (cs := #[.int .i64 ka, .slice Aa pna cpa]) (by simp) 0
      clear hp3
      go_wp2_with fail
      go_at_call 21
      refine HC3.out.mono ?_
      rintro _ wm3 ⟨rfl, hb3, ok3, hd3⟩
      have HBM3 := Lib.hid (HBO2.out.trans hb3)
      have DM3 := Lib.hid hd3
      obtain ⟨ks3, hks3⟩ : ∃ ks, nm0 p3.1 = ks := ⟨_, rfl⟩
      obtain ⟨bv3, hbv3⟩ : ∃ bv, decide (0 < p3.1) = bv := ⟨_, rfl⟩
      have hkl3 : Hid (ks3.length = 32) := by rw [← hks3]; exact nm0_length _
      rw [hks3, hbv3]
      have HKS3 := Lib.hid hks3
      have HBV3 := Lib.hid hbv3
      clear hb3 hd3 hks3 hbv3 HC3 kc3
      go_wp2_with (first | (refine wpList_alloc32 i49 rfl rfl ?_) | fail)
      intro wn3 ha_ hbn_ hz_
      go_wp2_with (first | (refine wpList_store32 i49 rfl _ _ rfl wm3.heap.size z32 ks3 rfl rfl ha_ z32_length hkl3.out wm3.heap.size (Nat.le_refl _) ?_) | fail)
      intro wo3 hk_ hc_ ho_ hy_
      have DO3 := Lib.hid (DM3.out.more (hbn_.trans hc_) (Nat.le_refl _) hk_)
      have HBO3 := Lib.hid (HBM3.out.trans ((hbn_.trans hc_).mono HBM3.out.size))
      obtain ⟨g3, hg3⟩ : ∃ g, wm3.heap.size = g := ⟨_, rfl⟩
      rw [hg3] at DO3 ⊢
      clear ha_ hbn_ hz_ hk_ hc_ ho_ hy_ hg3
      have K1 := Lib.hid (DO3.out.key (g1, ks1) (by simp)).2
      have K2 := Lib.hid (DO3.out.key (g2, ks2) (by simp)).2
      rcases Nat.eq_zero_or_pos p1.1 with e1 | e1
      · obtain rfl : bv1 = false := by rw [← HBV1.out, e1]; rfl
        obtain rfl : ks1 = z32 := by rw [← HKS1.out, e1]; rfl
        clear e1
        go_wp2_with (first
          | (refine wpList_load32 i49 rfl (.tmp 14) rfl g1 rfl z32 K1.out z32_length ?_)
          | (refine wpList_build32g rfl rfl ?_)
          | (refine wpList_eql32 rfl (.tmp 107) (.tmp 108) rfl z32 z32 rfl rfl z32_length z32_length true (by simp) ?_)
          | fail)
        go_ret
        exact ⟨rfl, E1.out.trans (HBO3.out.mono E1.out.size)⟩
      · obtain rfl : bv1 = true := by rw [← HBV1.out]; exact decide_eq_true e1
        have hk1 : ks1 = nm p1.1 := by rw [← HKS1.out]; unfold nm0; rw [if_neg (by omega)]
        rcases Nat.eq_zero_or_pos p2.1 with e2 | e2
        · obtain rfl : bv2 = false := by rw [← HBV2.out, e2]; rfl
          obtain rfl : ks2 = z32 := by rw [← HKS2.out, e2]; rfl
          have hnz : Hid ((ks1 == z32) = false) := by rw [hk1]; exact nm_not_zero _
          clear e1 e2 hk1
          go_wp2_with (first
            | (refine wpList_load32 i49 rfl (.tmp 14) rfl g1 rfl ks1 K1.out hkl1.out ?_)
            | (refine wpList_load32 i49 rfl (.tmp 16) rfl g2 rfl z32 K2.out z32_length ?_)
            | (refine wpList_build32g rfl rfl ?_)
            | (refine wpList_eql32 rfl (.tmp 107) (.tmp 108) rfl ks1 z32 rfl rfl hkl1.out z32_length false hnz.out ?_)
            | (refine wpList_eql32 rfl (.tmp 111) (.tmp 112) rfl z32 z32 rfl rfl z32_length z32_length true (by simp) ?_)
            | fail)
          go_ret
          exact ⟨rfl, E1.out.trans (HBO3.out.mono E1.out.size)⟩
        · obtain rfl : bv2 = true := by rw [← HBV2.out]; exact decide_eq_true e2
          have hk2 : ks2 = nm p2.1 := by rw [← HKS2.out]; unfold nm0; rw [if_neg (by omega)]
          obtain ⟨hun, hag⟩ := mk_unlike (n := p1.1) (T1 := p1.2) (m := p2.1) (T2 := p2.2) HP1.out HP2.out e1 e2 (tbl_nodup DO2.out.tbl)
          have hp3 : p3 = (p1.1, p2.2) := HP3.out.symm.trans hag
          have hm1 : p1.1 < 4294967296 := by
            have h1 := (mk_pos (n := p1.1) (T' := p1.2) HP1.out e1).2.2.2.1
            have h2 := (List.getElem?_eq_some_iff.1 h1).1
            have h3 := DO1.out.tbl.max
            omega
          have hm2 : p2.1 < 4294967296 := by
            have h1 := (mk_pos (n := p2.1) (T' := p2.2) HP2.out e2).2.2.2.1
            have h2 := (List.getElem?_eq_some_iff.1 h1).1
            have h3 := DO2.out.tbl.max
            omega
          obtain rfl : ks3 = ks1 := by rw [← HKS3.out, hp3, ← HKS1.out]
          obtain rfl : bv3 = true := by rw [← HBV3.out, hp3]; exact decide_eq_true e1
          have hkk : (ks3 == ks2) = decide (ka = kb ∧ L1 = L2) := by
            rw [Bool.eq_iff_iff, beq_iff_eq, decide_eq_true_iff, ← hun, hk1, hk2]
            exact ⟨fun h => nm_inj e1 h hm1 hm2, fun h => by rw [h]⟩
          have HKK := Lib.hid hkk
          have H3 := Lib.hid (fun W hW => DO3.out.load (g := g3) (ks := ks3) (by simp) hkl1.out W hW)
          have H1 := Lib.hid (fun W hW => DO3.out.load (g := g1) (ks := ks3) (by simp) hkl1.out W hW)
          have H2 := Lib.hid (fun W hW => DO3.out.load (g := g2) (ks := ks2) (by simp) hkl2.out W hW)
          have kc1 : ∀ n, (wo3.drewN n).cell? ⟨ga, 0, none⟩ = some (.int .i64 ka) := fun n => (DO3.out.drewN n).cell (g := ga) (cs := #[.int .i64 ka, .slice Aa pna cpa]) (by simp) 0
          have kc2 : ∀ n, (wo3.drewN n).cell? ⟨ga + 1, 0, none⟩ = some (.int .i64 kb) := fun n => (DO3.out.drewN n).cell (g := ga + 1) (cs := #[.int .i64 kb, .slice Ab pnb cpb]) (by simp) 0
          have HQ : Hid (∀ b, decide (L1 = L2) = b → ∀ k, Calls Try.prog 13 #[.slice A5 j1 c5, .slice A6 j2 c6] (wo3.drewN k) fun e w'' => e = .returned (.bool b) ∧ ∃ j, w'' = wo3.drewN j) := fun b hb k =>
            told_quiet (DO3.out.lst (A5, L1) (by simp)) (DO3.out.lst (A6, L2) (by simp)) HJ1'.out HJ2'.out (by unfold maxLen; omega) hb k
          clear hkk hun hag hp3 hm1 hm2 hk1 hk2 e1 e2
          by_cases hkab : ka = kb
          · subst hkab
            have dk : ((ka : Int) == ka) = true := by simp
            obtain ⟨bl, hbl⟩ : ∃ bl, decide (L1 = L2) = bl := ⟨_, rfl⟩
            have hkb : (ks3 == ks2) = bl := by rw [HKK.out, ← hbl]; simp
            have HKB := Lib.hid hkb
            have HBL := Lib.hid hbl
            clear hkb hbl
            have dbl : (bl == bl) = true := by simp
            go_wp2_with fail
            refine wp_region_quiet_lit (by kernel_rfl) (by kernel_rfl) ?_
            repeat (first
              | (go_big_quiet_step ((go_at_call 13; exact HQ.out bl HBL.out _)))
              | (refine quiet_load32 (by rfl) (.tmp 18) 49 rfl g3 rfl ks3 H3.out ?_; simp only [Act.put, List.setIfInBounds_toArray, List.set_cons_zero, List.set_cons_succ])
              | (refine quiet_load32 (by rfl) (.tmp 14) 49 rfl g1 rfl ks3 H1.out ?_; simp only [Act.put, List.setIfInBounds_toArray, List.set_cons_zero, List.set_cons_succ])
              | (refine quiet_load32 (by rfl) (.tmp 16) 49 rfl g2 rfl ks2 H2.out ?_; simp only [Act.put, List.setIfInBounds_toArray, List.set_cons_zero, List.set_cons_succ])
              | (refine quiet_eql32 (by rfl) (.tmp 117) (.tmp 118) rfl ks3 ks3 rfl rfl hkl1.out hkl1.out true (by simp) ?_; simp only [Act.put, List.setIfInBounds_toArray, List.set_cons_zero, List.set_cons_succ])
              | (refine quiet_eql32 (by rfl) (.tmp 122) (.tmp 123) rfl ks3 ks2 rfl rfl hkl1.out hkl2.out bl HKB.out ?_; simp only [Act.put, List.setIfInBounds_toArray, List.set_cons_zero, List.set_cons_succ]))
            refine wpQuiet_nil ?_
            rintro _ ⟨nq, rfl⟩
            clear kc1 kc2
            go_wp2_with fail
            go_ret
            exact ⟨rfl, below_dN (E1.out.trans (HBO3.out.mono E1.out.size)) nq⟩
          · have dk : ((ka : Int) == kb) = false := by rw [beq_eq_false_iff_ne]; exact hkab
            have hkb : (ks3 == ks2) = false := by rw [HKK.out]; exact decide_eq_false fun h => hkab h.1
            have HKB := Lib.hid hkb
            clear hkb
            go_wp2_with fail
            refine wp_region_quiet_lit (by kernel_rfl) (by kernel_rfl) ?_
            repeat (first
              | (go_big_quiet_step (fail))
              | (refine quiet_load32 (by rfl) (.tmp 18) 49 rfl g3 rfl ks3 H3.out ?_; simp only [Act.put, List.setIfInBounds_toArray, List.set_cons_zero, List.set_cons_succ])
              | (refine quiet_load32 (by rfl) (.tmp 14) 49 rfl g1 rfl ks3 H1.out ?_; simp only [Act.put, List.setIfInBounds_toArray, List.set_cons_zero, List.set_cons_succ])
              | (refine quiet_load32 (by rfl) (.tmp 16) 49 rfl g2 rfl ks2 H2.out ?_; simp only [Act.put, List.setIfInBounds_toArray, List.set_cons_zero, List.set_cons_succ])
              | (refine quiet_eql32 (by rfl) (.tmp 117) (.tmp 118) rfl ks3 ks3 rfl rfl hkl1.out hkl1.out true (by simp) ?_; simp only [Act.put, List.setIfInBounds_toArray, List.set_cons_zero, List.set_cons_succ])
              | (refine quiet_eql32 (by rfl) (.tmp 122) (.tmp 123) rfl ks3 ks2 rfl rfl hkl1.out hkl2.out false HKB.out ?_; simp only [Act.put, List.setIfInBounds_toArray, List.set_cons_zero, List.set_cons_succ]))
            refine wpQuiet_nil ?_
            rintro _ ⟨nq, rfl⟩
            clear kc1 kc2
            go_wp2_with fail
            go_ret
            exact ⟨rfl, below_dN (E1.out.trans (HBO3.out.mono E1.out.size)) nq⟩
end Go.Proofs.Ytbhfjjlfpgineaa
