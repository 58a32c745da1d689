/- The reference's Open, where a header counts (d). Conditions: at most 10^6 writes wait. -/
import Derived.Test.YtonpcenjipigpaaGreatZ44
import Derived.Test.YtonpcenjipigpaaGreatZ46
namespace Go.Proofs.YtonpcenjipigpaaGreat
open Go.RowKit
set_option maxRecDepth 100000 in
set_option maxHeartbeats 8000000 in
theorem ropen_loadd {foot : Nat → Prop} {w : World} {dp : Nat} {s : St} (hd : RDsk w foot dp s) (h4 : ¬ s.n < 4) (hn4 : s.n ≤ 4096) (hdd : s.dead = false) (hL : s.L.length ≤ 1000000) {a0 c0 n0 a1 c1 n1 : Nat} (h0 : headT (blk s.img 0) (s.n / 2) = (0, a0, c0, n0)) (h1 : headT (blk s.img (s.n / 2)) (s.n / 2) = (0, a1, c1, n1)) (hlt : a0 < a1) : Calls Tryz.prog 10 #[.pointer (some ⟨dp, 0, none⟩)] w (ROpenE w foot dp s.openT) := by
  obtain ⟨B, hB⟩ : ∃ B, B = s.img := ⟨_, rfl⟩
  have hil : s.img.length = 64 * s.n := redo_length hd.ok.2.2.2.1 hd.ok.2.2.1
  have hnn := hd.ok.2.1
  obtain ⟨nh, hnh⟩ : ∃ nh, nh = s.n / 2 := ⟨_, rfl⟩
  obtain ⟨n, hN⟩ : ∃ n, n = s.n := ⟨_, rfl⟩
  have hT : s.openT = match loadT B nh a1 n1 c1 1 0 [] with | none => (160, s, none) | some L => (0, s, some ⟨1, a1, c1, n1, L⟩) := by
    rw [St.openT, if_neg h4, if_neg (by rw [hdd]; decide), findL_two _ _ h0 h1]
    rw [← hB, ← hnh]
    simp [headK, hlt, show ¬ a0 = a1 by omega]
    generalize loadT B nh a1 n1 c1 1 0 [] = X
    cases X <;> rfl
  have hok : a1 < 18446744073709551616 ∧ c1 < 4294967296 ∧ n1 ≤ s.n / 2 ∧ 1 ≤ n1 := by
    have := headT_ok (blk_length (i := s.n / 2) hil (by omega)) (show (headT (blk s.img (s.n / 2)) (s.n / 2)).1 = 0 by rw [h1])
    rw [h1] at this
    exact this
  rw [← hnh] at h0 h1 hok
  rw [← hB] at h0 h1 hil
  rw [← hN] at hnn hnh h4 hn4 hil
  obtain ⟨hE, hC, hNn, hN1⟩ := hok
  have c0_ := hd.cn
  rw [← hN] at c0_
  have r0 : Calls Tryz.prog 32 #[.pointer (some ⟨dp, 0, none⟩), .int .i64 0] w _ := rread_yes hd (by omega) (i := 0) (by omega) hdd
  have kR : Hid (∀ (W : World) (i : Nat), w.grownBy W none → i < n → Calls Tryz.prog 32 #[.pointer (some ⟨dp, 0, none⟩), .int .i64 (i : Int)] W (ReadR W (blk B i))) := Lib.hid fun W i hW hi => by
    have := rread_yes (hd.grown hW) (by omega) (i := i) (by omega) hdd
    rw [← show s.img = redo s.K s.L from rfl, ← hB] at this
    exact this
  rw [← show s.img = redo s.K s.L from rfl, ← hB] at r0
  have kH0 : Hid (∀ (W : World) (g cp : Nat), Byt W (fun k => k = g) (some ⟨g, 0, none⟩) (blk B 0) → g < W.heap.size → 64 ≤ cp → cp ≤ maxLen → Calls Tryz.prog 33 #[.slice (some ⟨g, 0, none⟩) 64 cp, .int .i64 (nh : Int)] W fun e w' => e = .returned (.tuple #[.int .u64 (a0 : Int), .int .i64 (c0 : Int), .int .i64 (n0 : Int), .int .i64 1]) ∧ Below W.heap.size W w') := Lib.hid fun W g cp y1 y2 y3 y4 => by
    have := rhead_any (h := nh) y1 y2 (blk_length hil (by omega)) y3 y4 (by omega)
    rw [h0] at this
    exact this
  have kH1 : Hid (∀ (W : World) (g cp : Nat), Byt W (fun k => k = g) (some ⟨g, 0, none⟩) (blk B nh) → g < W.heap.size → 64 ≤ cp → cp ≤ maxLen → Calls Tryz.prog 33 #[.slice (some ⟨g, 0, none⟩) 64 cp, .int .i64 (nh : Int)] W fun e w' => e = .returned (.tuple #[.int .u64 (a1 : Int), .int .i64 (c1 : Int), .int .i64 (n1 : Int), .int .i64 1]) ∧ Below W.heap.size W w') := Lib.hid fun W g cp y1 y2 y3 y4 => by
    have := rhead_any (h := nh) y1 y2 (blk_length hil (by omega)) y3 y4 (by omega)
    rw [h1] at this
    exact this
  obtain ⟨T, hTT⟩ : ∃ T, T = s.openT := ⟨_, rfl⟩
  rw [← hTT] at hT ⊢
  have HT := Lib.hid hT
  have HD := Lib.hid hd
  have HIL := Lib.hid hil
  have hnI : (n : Int) / 2 = (nh : Int) := by omega
  have h4I : decide ((n : Int) < 4) = false := decide_eq_false (by omega)
  have hdl := Lib.hid (hd.lt)
  have hns : s.L.length ≤ 1000000 := hL
  have hneI : ¬ (a0 : Int) = (a1 : Int) := by omega
  have hneB : ((a0 : Int) == (a1 : Int)) = false := by simpa using hneI
  have hltI : decide ((a0 : Int) < (a1 : Int)) = true := decide_eq_true (by omega)
  clear hT hd hnh hN h0 h1 hB hil hTT hL
  go_enter Tryz.func10, Tryz.ntmps10
  go_wp2_with (first
    | (go_at_call 32; (with_reducible refine r0.mono ?_); rintro _ w1 ⟨g1, l1, rfl, m1, e1, y1, hg1, u1, v1⟩
       have r1 := kR.out w1 nh hg1 (by omega)
       clear r0)
    | (go_at_call 32; (with_reducible refine r1.mono ?_); rintro _ w2 ⟨g2, l2, rfl, m2, e2, y2, hg2, u2, v2⟩
       have k0 := kH0.out w2 g1 l1 (y1.keep fun b hb => hg2.block b (by omega) (by simp)) (Nat.lt_of_lt_of_le v1 hg2.size) m1 u1
       have hg12 := hg1.trans hg2
       clear r1 y1 hg2)
    | (go_at_call 33; (with_reducible refine k0.mono ?_); rintro _ w3 ⟨rfl, b3⟩
       have k1 := kH1.out w3 g2 l2 (y2.keep fun b hb => b3.block b (by omega)) (Nat.lt_of_lt_of_le v2 b3.size) m2 u2
       have hg13 := hg12.trans (grown_of_below b3)
       clear k0 y2 b3)
    | (go_at_call 33; (with_reducible refine k1.mono ?_); rintro _ w4 ⟨rfl, b4⟩
       have hg14 := hg13.trans (grown_of_below b4)
       clear k1 b4)
    | fail)
  have hbS : Blk (w4.alloc (.cells #[.pointer (some ⟨dp, 0, none⟩), .int .i64 1, .int .u64 (a1 : Int), .int .i64 (c1 : Int), .int .i64 (n1 : Int), .slice none 0 0, .bool false] 51)) w4.heap.size 51 (rscells dp 1 a1 c1 n1 (.slice none 0 0) false) := Blk.of_alloc w4 _ 51
  have hg5 : w.grownBy (w4.alloc (.cells #[.pointer (some ⟨dp, 0, none⟩), .int .i64 1, .int .u64 (a1 : Int), .int .i64 (c1 : Int), .int .i64 (n1 : Int), .slice none 0 0, .bool false] 51)) none := hg14.trans (World.grownBy_alloc w4 _ none)
  obtain ⟨wS, hwS⟩ : ∃ wS, wS = w4.alloc (.cells #[.pointer (some ⟨dp, 0, none⟩), .int .i64 1, .int .u64 (a1 : Int), .int .i64 (c1 : Int), .int .i64 (n1 : Int), .slice none 0 0, .bool false] 51) := ⟨_, rfl⟩
  rw [← hwS] at hbS hg5 ⊢
  obtain ⟨sp, hsp⟩ : ∃ sp, sp = w4.heap.size := ⟨_, rfl⟩
  have hspl : w.heap.size ≤ sp := by rw [hsp]; exact hg14.size
  rw [← hsp] at hbS ⊢
  have HBS := Lib.hid hbS
  have HG5 := Lib.hid hg5
  have hnn2 : n ≤ 4096 := hnn
  clear hwS hsp hbS hg5 hg14 kH0 kH1
  obtain ⟨TL, hTL⟩ : ∃ TL, TL = loadT B nh a1 n1 c1 1 0 [] := ⟨_, rfl⟩
  rw [← hTL] at HT
  have HTL := Lib.hid hTL
  clear hTL
  go_loopw [18, 19, 20, 21, 22, 23, 24, 25, 26, 27] (fun x y _ _ _ _ _ _ _ _ wr => ∃ (j a : Nat) (L : List (List UInt8 × List UInt8)) (A : Option Addr) (cl : Nat), j ≤ c1 ∧ y = .int .i64 ((j + 1 : Nat) : Int) ∧ x = .int .i64 (a : Int) ∧ a ≤ 4096 ∧ Hid (TL = loadT B nh a1 n1 (c1 - j) a j L) ∧ L.length ≤ 64 ∧ Hid (Blk wr sp 51 (rscells dp 1 a1 c1 n1 (.slice A L.length cl) false)) ∧ Hid (Chs wr (fun b => w.heap.size ≤ b ∧ b < wr.heap.size ∧ b ≠ sp) A (chgs L)) ∧ Hid (w.grownBy wr none)) (fun _ y _ _ _ _ _ _ _ _ _ => c1 + 1 - (intOf y).toNat)
  case atStart => exact ⟨0, 1, [], none, 0, Nat.zero_le _, rfl, rfl, by decide, HTL.out, by decide, HBS.out, Chs.nil, HG5.out⟩
  case round =>
    clear HBS HG5 HTL
    obtain ⟨j, a, L, A, cl, hj, rfl, rfl, ha, HTJ, hL64, HB, HX, HG⟩ := hrel
    obtain ⟨wo, rfl⟩ : ∃ wo : World, wo = wr := ⟨_, rfl⟩
    have z1 : wo.cell? ⟨sp, 1, none⟩ = some (.int .i64 1) := HB.out.get 1 _ rfl
    have z2 : wo.cell? ⟨sp, 2, none⟩ = some (.int .u64 (a1 : Int)) := HB.out.get 2 _ rfl
    have z3 : wo.cell? ⟨sp, 3, none⟩ = some (.int .i64 (c1 : Int)) := HB.out.get 3 _ rfl
    have z4 : wo.cell? ⟨sp, 4, none⟩ = some (.int .i64 (n1 : Int)) := HB.out.get 4 _ rfl
    have hgs := HG.out.size
    obtain ⟨kk, hkk⟩ : ∃ kk, kk = j + 1 := ⟨_, rfl⟩
    rw [← hkk]
    have HKK := Lib.hid hkk
    have hend : ∀ (W : World) (e : Nat) (v : Value), T = (e, s, none) → w.grownBy W none → ROpenE w foot dp T (.returned (.tuple #[v, .int .i64 (e : Int)])) W := fun W e v h1 h2 => ropenE_none h1 (HD.out.grown h2) (Md.of_grown h2 (by simp)) v
    have HEND := Lib.hid hend
    clear hend
    by_cases hlt : j < c1
    · have hk1 : kk ≤ c1 := by omega
      have hTJ := HTJ.out
      rw [show c1 - j = (c1 - (j + 1)) + 1 by omega, loadT] at hTJ
      clear HTJ
      by_cases haN : n1 ≤ a
      · have hTn : Hid (T = (160, s, none)) := Lib.hid (by
          rw [show readT B nh a1 n1 a (j + 1) = none by rw [readT, if_pos haN]] at hTJ
          rw [HT.out, hTJ])
        clear hTJ hkk
        go_wp2
        go_ret2
        exact HEND.out _ 160 _ hTn.out HG.out
      have HTJ := Lib.hid hTJ
      have hbn : nh + n1 ≤ n := by omega
      clear hTJ hkk
      go_wp2
      go_loopw [20, 21, 22, 23] (fun u x _ _ wr => ∃ (m : Nat) (v : Value), m ≤ n1 - a ∧ x = .int .i64 ((a + m : Nat) : Int) ∧ v = u ∧ Hid (wr.ownsRow wo.heap.size 5 1 v (64 * m) (u8s (secs B (nh + a) m))) ∧ Hid (Below wo.heap.size wo wr)) (fun _ x _ _ _ => n1 - (intOf x).toNat)
      case atStart => exact ⟨0, _, Nat.zero_le _, by simp, rfl, by show Hid _; rw [show secs B (nh + a) 0 = [] by simp [secs]]; exact Lib.hid (World.ownsRow_nil _ _ _ _), Lib.hid (Below.refl _ _)⟩
      case round =>
        obtain ⟨m, v, hm, rfl, hvu, HO, HBW⟩ := hrel
        subst hvu
        obtain ⟨q, hq⟩ : ∃ q, q = a + m := ⟨_, rfl⟩
        rw [← hq]
        have HQ := Lib.hid hq
        have hgi : w.grownBy wr none := HG.out.trans (grown_of_below HBW.out)
        have HBi := HB.out.grown (grown_of_below HBW.out) (by simp)
        have y1_ : wr.cell? ⟨sp, 1, none⟩ = some (.int .i64 1) := HBi.get 1 _ rfl
        have y2_ : wr.cell? ⟨sp, 2, none⟩ = some (.int .u64 (a1 : Int)) := HBi.get 2 _ rfl
        have y4_ : wr.cell? ⟨sp, 4, none⟩ = some (.int .i64 (n1 : Int)) := HBi.get 4 _ rfl
        have HBI := Lib.hid HBi
        have HGI := Lib.hid hgi
        clear HBi hgi z1 z2 z3 z4
        by_cases hlt2 : m < n1 - a
        · have hqN : q < n1 := by omega
          have hbl : (blk B (nh + q)).length = 64 := blk_length HIL.out (by omega)
          have hrd : Calls Tryz.prog 32 #[.pointer (some ⟨dp, 0, none⟩), .int .i64 ((nh : Int) + (q : Int))] wr (ReadR wr (blk B (nh + q))) := by
            have := kR.out wr (nh + q) HGI.out (by omega)
            rwa [show (((nh + q : Nat)) : Int) = ((nh : Int) + (q : Int)) by omega] at this
          obtain ⟨i0, hi, hz0, hz1, hz2⟩ := info_parts Tryz.info5
          have hs64 : 64 * m + (blk B (nh + q)).length ≤ 140737488355328 := by rw [hbl]; omega
          have HBLN := Lib.hid hbl
          have hms := HBW.out.size
          clear hq hbl
          go_wp2_with (first
            | (go_at_call 32; (with_reducible refine hrd.mono ?_); rintro _ w3 ⟨g3, l3, rfl, m3, e3, y3, hg3, u3, x3⟩)
            | (at_builtin; refine wpList_append_byt _ rfl _ _ 40 rfl wo.heap.size i0 (.int .u8 0) Tryz.underlying40 hi hz0 hz1 hz2 rfl v (64 * m) _ rfl (own_keep HO.out hg3) (fun b => b = g3) (some ⟨g3, 0, none⟩) l3 (blk B (nh + q)) (by rw [HBLN.out]; rfl) y3 hs64 (Nat.le_trans hms hg3.size) ?_; intro v4 w4' ho4 hg4 hv4)
            | fail)
          go_roundw
          case rel =>
            have hqq := HQ.out
            refine ⟨m + 1, _, hlt2, congrArg (Value.int .i64) (by omega), rfl, ?_, ?_⟩
            · have ho5 := ho4
              rw [HBLN.out, show 64 * m + 64 = 64 * (m + 1) by omega, show nh + q = nh + a + m by omega, secs_succ] at ho5
              exact ho5
            · have hb3' : Below wo.heap.size wo w3 := HBW.out.trans ((below_of_grown hg3).mono hms)
              exact hb3'.grown hg4 hb3'.size fun g hg => (HO.out.lt g hg).1
          case measure => simp [intOf]; omega
        · obtain rfl : m = n1 - a := by omega
          have hqN : q = n1 := by omega
          obtain ⟨xs, hxs⟩ : ∃ xs, xs = secs B (nh + a) (n1 - a) := ⟨_, rfl⟩
          obtain ⟨Q, hQ⟩ : ∃ Q, Q = 64 * (n1 - a) := ⟨_, rfl⟩
          have hxl : xs.length = Q := by rw [hxs, hQ]; exact secs_length HIL.out (by omega)
          have ho := HO.out
          rw [← hxs, ← hQ] at ho
          have hQ1 : 64 ≤ Q := by omega
          have hQm : Q ≤ 262144 := by omega
          obtain ⟨g5, c5, rfl, -, l5, m5, y5⟩ := own_some ho (by omega)
          obtain ⟨size, hsz⟩ : ∃ size, size = nb ((blk B (nh + a)).take 4) := ⟨_, rfl⟩
          obtain ⟨M, hM⟩ : ∃ M, M = nblk (8 + size) := ⟨_, rfl⟩
          have hbl64 : (blk B (nh + a)).length = 64 := blk_length HIL.out (by omega)
          have hszl : size < 4294967296 := by rw [hsz]; exact nb_lt 4 _ (by rw [List.length_take, hbl64]; decide)
          have hx4 : xs.take 4 = (blk B (nh + a)).take 4 := by rw [hxs]; exact secs_head B _ _ 4 (by omega) (by decide)
          have hx8 : xs.take 8 = (blk B (nh + a)).take 8 := by rw [hxs]; exact secs_head B _ _ 8 (by omega) (by decide)
          obtain ⟨b0, b1, b2, b3, hb4⟩ : ∃ b0 b1 b2 b3, xs.take 4 = [b0, b1, b2, b3] := by
            match xs, hxl with
            | b0 :: b1 :: b2 :: b3 :: r, _ => exact ⟨b0, b1, b2, b3, rfl⟩
            | [], h => simp at h; omega
            | [_], h => simp at h; omega
            | [_, _], h => simp at h; omega
            | [_, _, _], h => simp at h; omega
          have hsz4 : size = ((b0.toNat * 256 + b1.toNat) * 256 + b2.toNat) * 256 + b3.toNat := by rw [hsz, ← hx4, hb4]; simp [nb]
          have hxi : ∀ (i : Nat) (u : UInt8), i < 4 → (xs.take 4)[i]? = some u → wr.cell? ⟨g5, i, none⟩ = some (.int .u8 (u.toNat : Int)) := fun i u hi hu => by
            obtain ⟨ad, e, _, hc⟩ := y5 i (by omega)
            cases e
            rw [Addr.add_mid, Nat.zero_add] at hc
            rw [List.getElem?_take, if_pos hi, List.getElem?_eq_getElem (by omega)] at hu
            rw [hc, show xs[i] = u from Option.some.inj hu]
          have x0 := hxi 0 b0 (by decide) (by rw [hb4]; rfl)
          have x1 := hxi 1 b1 (by decide) (by rw [hb4]; rfl)
          have x2 := hxi 2 b2 (by decide) (by rw [hb4]; rfl)
          have x3 := hxi 3 b3 (by decide) (by rw [hb4]; rfl)
          have t0 := b0.toNat_lt
          have t1 := b1.toNat_lt
          have t2 := b2.toNat_lt
          have t3 := b3.toNat_lt
          have HXS := Lib.hid hxs
          have HXL := Lib.hid hxl
          have HX8 := Lib.hid hx8
          have HSZ := Lib.hid hsz
          have HM := Lib.hid hM
          have HS4 := Lib.hid hsz4
          have HY5 := Lib.hid y5
          have HOO := Lib.hid ho
          clear hxs hxl hx4 hx8 hsz hM hsz4 hb4 hxi y5 ho HO hq
          have hRT : readT B nh a1 n1 a (j + 1) = if n1 < a + M then none else if (blk B (nh + a)).take 8 = frontB a1 (j + 1) (((secs B (nh + a) M).drop 8).take size) then (chgsT (((secs B (nh + a) M).drop 8).take size)).map fun l => (l, a + M) else none := by
            rw [readT, if_neg haN, ← HSZ.out, ← HM.out]
          have HRT := Lib.hid hRT
          have HQQ := Lib.hid hQ
          clear hRT hQ
          go_wp2_with fail
          go_quiet (fail)
          rw [show (b0.toNat : Int) * 16777216 + (b1.toNat : Int) * 65536 + (b2.toNat : Int) * 256 + (b3.toNat : Int) = (size : Int) by have := HS4.out; omega]
          obtain ⟨wD, hwD⟩ : ∃ X : World, X = wr.drewN nq := ⟨_, rfl⟩
          have hgD : wr.grownBy wD none := by rw [hwD]; exact grown_drewN nq
          rw [← hwD]
          clear hwD x0 x1 x2 x3 y1_ y2_ y4_ t0 t1 t2 t3
          have HGD := Lib.hid (HGI.out.trans hgD)
          have HGW_ := Lib.hid hgD
          have HBD := Lib.hid (HBI.out.grown hgD (by simp))
          have HYD := Lib.hid (HY5.out.old (below_of_grown hgD))
          clear hgD
          by_cases h2 : n1 < a + M
          · have hTn : Hid (T = (160, s, none)) := Lib.hid (by
              have hTJ := HTJ.out
              rw [HRT.out, if_pos h2] at hTJ
              rw [HT.out, hTJ])
            have hdI : decide ((Q : Int) - 8 < (size : Int)) = true := decide_eq_true (by have := HM.out; have := HQQ.out; unfold nblk at *; omega)
            clear h2
            go_wp2
            go_ret2
            exact HEND.out _ 160 _ hTn.out HGD.out
          have hdI : decide ((Q : Int) - 8 < (size : Int)) = false := decide_eq_false (by have := HM.out; have := HQQ.out; unfold nblk at *; omega)
          have hM8 : 8 + size ≤ Q := by have := HM.out; have := HQQ.out; unfold nblk at *; omega
          obtain ⟨p, hp⟩ : ∃ p, p = (xs.drop 8).take size := ⟨_, rfl⟩
          have hpl : p.length = size := by rw [hp, List.length_take, List.length_drop, HXL.out]; omega
          have hps : ((secs B (nh + a) M).drop 8).take size = p := by
            rw [hp, HXS.out]
            exact secs_mid (by have := HM.out; unfold nblk at *; omega) (by omega)
          have hRT2 : readT B nh a1 n1 a (j + 1) = if xs.take 8 = frontB a1 kk p then (chgsT p).map fun l => (l, a + M) else none := by
            rw [HRT.out, if_neg h2, hps, HX8.out, HKK.out]
          have HRT2 := Lib.hid hRT2
          have hyp := HYD.out.mid 8 size
          rw [← hp] at hyp
          have kRec : Hid (∀ W, wD.grownBy W none → Calls Tryz.prog 35 #[.int .u64 (a1 : Int), .int .i64 (kk : Int), .slice (some ⟨g5, 8, none⟩) size (c5 - 8)] W (OwnB W (recB a1 kk p))) := Lib.hid fun W hW =>
            refRecord_any (cp := c5 - 8) a1 kk (hyp.old (below_of_grown hW)) (fun _ hb => hb) hpl (by omega) (by omega) (by omega) hE (by omega)
          have kChg : Hid (∀ W, wD.grownBy W none → Calls Tryz.prog 36 #[.slice (some ⟨g5, 8, none⟩) size (c5 - 8)] W (RChgE W (chgsT p))) := Lib.hid fun W hW =>
            rchanges_any (cp := c5 - 8) (hyp.old (below_of_grown hW)) (fun _ hb => hb) hpl (by omega) (by omega)
          have HPL := Lib.hid hpl
          have HP := Lib.hid hp
          clear hps hRT2 hyp hpl hp HRT HSZ
          have q1 : (8 + (size : Int)).toNat = 8 + size := by omega
          have q2 : (8 : Int) ≤ 8 + (size : Int) := by omega
          have q3 : 8 + (size : Int) ≤ (c5 : Int) := by omega
          have q4 : ¬ c5 = 8 := by omega
          have q5 : 8 + size - 8 = size := by omega
          have q6 : 8 + size ≤ c5 := by omega
          have q7 : 8 ≤ c5 := by omega
          have q8 : IntKind.i64.wrap (8 + (size : Int)) = 8 + (size : Int) := IntWalk.i64_in _ (by omega)
          have s0 : wD.drew.cell? ⟨sp, 2, none⟩ = some (.int .u64 (a1 : Int)) := HBD.out.get 2 _ rfl
          go_wp2
          go_region_held3 (fun W => W.cell? ⟨sp, 2, none⟩ = some (.int .u64 (a1 : Int))) (first | exact s0 | exact s2) (first
            | (go_at_call 35; (with_reducible refine (kRec.out wD.drew (grown_drewN 1)).mono ?_); rintro _ w6 ⟨v6, rfl, n6, b6⟩; have s2 : w6.cell? ⟨sp, 2, none⟩ = some (.int .u64 (a1 : Int)) := (grown_of_below b6).cell s0 (by simp))
            | fail)
          have hg6 : wD.grownBy w6 none := (grown_drewN 1).trans (grown_of_below b6)
          rw [recB_length, HPL.out, ← HM.out] at n6
          have hM1 : 1 ≤ M := by rw [HM.out]; unfold nblk; omega
          obtain ⟨g6, c6, rfl, l6, m6, y6⟩ := own_new n6 (by omega)
          obtain ⟨f8, hf8⟩ : ∃ f8, f8 = frontB a1 kk p := ⟨_, rfl⟩
          obtain ⟨x8, hx8⟩ : ∃ x8, x8 = xs.take 8 := ⟨_, rfl⟩
          have hl8 : (xs.take 8).length = 8 := by rw [List.length_take, HXL.out]; omega
          have y68 := y6.mid 0 8
          rw [List.drop_zero, recB_take8] at y68
          have yx8 := HYD.out.mid 0 8
          rw [List.drop_zero] at yx8
          have hfl8 : f8.length = 8 := by rw [hf8]; exact frontB_length _ _ _
          rw [← hf8] at y68
          rw [← hx8] at yx8 hl8
          have kS : Hid (∀ W, w6.grownBy W none → (convert 40 9 (.slice (some ⟨g6, 0, none⟩) 8 c6)).run Tryz.prog W = .ok (.string ⟨f8.toArray⟩) W ∧ (convert 40 9 (.slice (some ⟨g5, 0, none⟩) 8 c5)).run Tryz.prog W = .ok (.string ⟨x8.toArray⟩) W) := Lib.hid fun W hW => by
            have h1 := (y68.keep fun b hb => hW.block b hb.2 (by simp)).str c6
            have h2 := (yx8.keep fun b hb => (hg6.trans hW).block b hb (by simp)).str c5
            rw [hfl8] at h1
            rw [hl8] at h2
            exact ⟨h1, h2⟩
          have HF8 := Lib.hid hf8
          have HX88 := Lib.hid hx8
          have HG6 := Lib.hid (HGD.out.trans hg6)
          have HG56 := Lib.hid hg6
          have HB6 := Lib.hid (HBD.out.grown hg6 (by simp))
          have hch := kChg.out w6 hg6
          have hRT3 := HRT2.out
          rw [← hf8, ← hx8] at hRT3
          have HRT3 := Lib.hid hRT3
          have qc6 : 8 ≤ c6 := by omega
          have qc7 : ¬ c6 = 0 := by omega
          clear s0 s2 hRT3 hf8 hx8 hl8 y68 yx8 hfl8 y6 n6 b6 hg6 kRec kChg HOO HY5
          cases hcT : chgsT p with
          | none =>
            rw [hcT] at hch
            have hTn : Hid (T = (160, s, none)) := Lib.hid (by
              have hTJ := HTJ.out
              rw [HRT3.out, hcT, Option.map_none, ite_self] at hTJ
              rw [HT.out, hTJ])
            clear hcT
            go_wp2_with (first
              | (go_at_call 36; (with_reducible refine hch.mono ?_); rintro _ w7 ⟨b7, v7, rfl⟩)
              | fail)
            go_quiet (fail)
            go_wp2
            go_ret2
            exact HEND.out _ 160 _ hTn.out ((HG6.out.trans (grown_of_below b7)).trans (grown_drewN _))
          | some l =>
            rw [hcT] at hch
            by_cases hfe : x8 = f8
            · have hTJ2 : Hid (TL = if 64 < (doAll L l).length then none else loadT B nh a1 n1 (c1 - (j + 1)) (a + M) (j + 1) (doAll L l)) := Lib.hid (by
                have hTJ := HTJ.out
                rw [HRT3.out, hcT, if_pos hfe] at hTJ
                exact hTJ)
              rw [hfe] at kS
              clear hcT hfe HTJ HRT3 HX88 HRT2
              go_wp2_with (first
                | (go_at_call 36; (with_reducible refine hch.mono ?_); rintro _ w7 ⟨b7, A7, c7, rfl, x7, e7, l7⟩)
                | fail)
              have hs1 : ∀ k, (convert 40 9 (.slice (some ⟨g6, 0, none⟩) 8 c6)).run Tryz.prog (w7.drewN k) = .ok (.string ⟨f8.toArray⟩) (w7.drewN k) := fun k => (kS.out _ ((grown_of_below b7).trans (grown_drewN k))).1
              have hs2 : ∀ k, (convert 40 9 (.slice (some ⟨g5, 0, none⟩) 8 c5)).run Tryz.prog (w7.drewN k) = .ok (.string ⟨f8.toArray⟩) (w7.drewN k) := fun k => (kS.out _ ((grown_of_below b7).trans (grown_drewN k))).2
              go_quiet (fail)
              clear hs1 hs2 kS
              obtain ⟨w8, hw8⟩ : ∃ X : World, X = w7.drewN nq := ⟨_, rfl⟩
              have hg78 : w7.grownBy w8 none := by rw [hw8]; exact grown_drewN nq
              rw [← hw8]
              have hg68 := (grown_of_below b7).trans hg78
              have hg8 : w.grownBy w8 none := HG6.out.trans hg68
              have hB8 := HB6.out.grown hg68 (by simp)
              have v5_ : w8.cell? ⟨sp, 5, none⟩ = some (.slice A L.length cl) := hB8.get 5 _ rfl
              have hgo8 : wo.grownBy w8 none := (grown_of_below HBW.out).trans (((HGW_.out).trans (HG56.out)).trans hg68)
              have hxL : Chs w8 (fun b => w.heap.size ≤ b ∧ b < w8.heap.size ∧ b ≠ sp) A (chgs L) := (HX.out.keep fun b hb => hgo8.block b hb.2.1 (by simp)).imp fun b hb => ⟨hb.1, Nat.lt_of_lt_of_le hb.2.1 hgo8.size, hb.2.2⟩
              have hspw : sp < wo.heap.size := HB.out.lt
              have hwo6 : wo.heap.size ≤ w6.heap.size := ((grown_of_below HBW.out).trans ((HGW_.out).trans (HG56.out))).size
              have hxl7 : Chs w8 (fun b => w.heap.size ≤ b ∧ b < w8.heap.size ∧ b ≠ sp) A7 l := (x7.keep fun b hb => hg78.block b hb.2 (by simp)).imp fun b hb => ⟨by have := HG6.out.size; omega, Nat.lt_of_lt_of_le hb.2 hg78.size, by omega⟩
              have hlc : (chgs L).length = L.length := by simp [chgs]
              have hall := allr_any (cl := cl) (cc := c7) hxL hxl7 (fun b hb => hb.2.1) (by rw [hlc]; omega)
              rw [allR_chgs, hlc] at hall
              obtain ⟨L9, hL9⟩ : ∃ L9, L9 = doAll L l := ⟨_, rfl⟩
              rw [← hL9] at hall hTJ2
              have hlc9 : (chgs L9).length = L9.length := by simp [chgs]
              have HG8 := Lib.hid hg8
              have HB8 := Lib.hid hB8
              have q9 : (64 * (M : Int)).tdiv 64 = (M : Int) := by rw [Int.tdiv_eq_ediv_of_nonneg (by omega)]; omega
              have q10 : 64 * (M : Int) / 64 = (M : Int) := by omega
              have hsp8 : sp < w8.heap.size := hB8.lt
              have HAM : Hid (a + M ≤ n1) := Lib.hid (by omega)
              clear hw8 hg78 hg68 hg8 hB8 hgo8 hxL hxl7 x7 b7 hL9 hlc
              by_cases h64 : 64 < L9.length
              · have hdI2 : decide (64 < (L9.length : Int)) = true := decide_eq_true (by omega)
                have hTn : Hid (T = (160, s, none)) := Lib.hid (by
                  have hTJ := hTJ2.out
                  rw [if_pos h64] at hTJ
                  rw [HT.out, hTJ])
                clear h64 hTJ2
                go_wp2_with (first
                  | (go_at_call 37; (refine hall.mono ?_); rintro _ w9 ⟨A9, c9, rfl, x9, hg9⟩; rw [hlc9]; have HB9 := Lib.hid (HB8.out.grown hg9 (by simp)))
                  | (refine wpList_store_cell rfl 36 _ _ rfl size36r sp 5 (.slice A9 L9.length c9) rfl rfl rfl _ _ HB9.out (by simp [rscells]) ?_; intro w10 k10 r10; have v10_ : w10.cell? ⟨sp, 5, none⟩ = some (.slice A9 L9.length c9) := Blk.get (show Blk w10 sp 51 (rscells dp 1 a1 c1 n1 (.slice A9 L9.length c9) false) from k10.out) 5 _ rfl)
                  | fail)
                go_ret2
                exact HEND.out _ 160 _ hTn.out (World.grownBy.andThen (row' := some sp) (HG8.out.trans hg9) r10.out.grown (by rintro j ⟨⟩; exact .inl hspl))
              · have hdI2 : decide (64 < (L9.length : Int)) = false := decide_eq_false (by omega)
                have hTJ3 : Hid (TL = loadT B nh a1 n1 (c1 - (j + 1)) (a + M) (j + 1) L9) := Lib.hid (by
                  have hTJ := hTJ2.out
                  rw [if_neg h64] at hTJ
                  exact hTJ)
                clear hTJ2
                go_wp2_with (first
                  | (go_at_call 37; (refine hall.mono ?_); rintro _ w9 ⟨A9, c9, rfl, x9, hg9⟩; rw [hlc9]; have HB9 := Lib.hid (HB8.out.grown hg9 (by simp)))
                  | (refine wpList_store_cell rfl 36 _ _ rfl size36r sp 5 (.slice A9 L9.length c9) rfl rfl rfl _ _ HB9.out (by simp [rscells]) ?_; intro w10 k10 r10; have v10_ : w10.cell? ⟨sp, 5, none⟩ = some (.slice A9 L9.length c9) := Blk.get (show Blk w10 sp 51 (rscells dp 1 a1 c1 n1 (.slice A9 L9.length c9) false) from k10.out) 5 _ rfl)
                  | fail)
                have hX10 : Hid (Chs w10 (fun b => w.heap.size ≤ b ∧ b < w10.heap.size ∧ b ≠ sp) A9 (chgs L9)) := by
                  have hne : ∀ b, ((w.heap.size ≤ b ∧ b < w8.heap.size ∧ b ≠ sp) ∨ (w8.heap.size ≤ b ∧ b < w9.heap.size)) → b ≠ sp := fun b hb => by
                    rcases hb with h | h
                    · exact h.2.2
                    · omega
                  refine Lib.hid ((x9.keep fun b hb => r10.out.block b (hne b hb)).imp fun b hb => ⟨?_, ?_, hne b hb⟩)
                  · have := HG8.out.size
                    rcases hb with h | h
                    · exact h.1
                    · omega
                  · have := hg9.size
                    rw [r10.out.size]
                    rcases hb with h | h
                    · omega
                    · exact h.2
                have hB10 : Hid (Blk w10 sp 51 (rscells dp 1 a1 c1 n1 (.slice A9 L9.length c9) false)) := Lib.hid k10.out
                have hG10 : Hid (w.grownBy w10 none) := Lib.hid (World.grownBy.andThen (row' := some sp) (HG8.out.trans hg9) r10.out.grown (by rintro j ⟨⟩; exact .inl hspl))
                go_roundw
                case rel => exact ⟨j + 1, a + M, L9, A9, c9, by omega, congrArg (Value.int .i64) (by have := HKK.out; omega), by go_num, by have := HAM.out; omega, hTJ3, by omega, hB10, hX10, hG10⟩
                case measure => have := HKK.out; simp [intOf]; omega
            · have hTn : Hid (T = (160, s, none)) := Lib.hid (by
                have hTJ := HTJ.out
                rw [HRT3.out, hcT, if_neg hfe] at hTJ
                rw [HT.out, hTJ])
              have hfe2 : ¬ f8 = x8 := fun e => hfe e.symm
              have hfeB : (f8 == x8) = false := by simpa using hfe2
              clear hcT HTJ HRT3 HX88 HRT2
              go_wp2_with (first
                | (go_at_call 36; (with_reducible refine hch.mono ?_); rintro _ w7 ⟨b7, A7, c7, rfl, x7, e7, l7⟩)
                | fail)
              have hs1 : ∀ k, (convert 40 9 (.slice (some ⟨g6, 0, none⟩) 8 c6)).run Tryz.prog (w7.drewN k) = .ok (.string ⟨f8.toArray⟩) (w7.drewN k) := fun k => (kS.out _ ((grown_of_below b7).trans (grown_drewN k))).1
              have hs2 : ∀ k, (convert 40 9 (.slice (some ⟨g5, 0, none⟩) 8 c5)).run Tryz.prog (w7.drewN k) = .ok (.string ⟨x8.toArray⟩) (w7.drewN k) := fun k => (kS.out _ ((grown_of_below b7).trans (grown_drewN k))).2
              go_quiet (fail)
              go_wp2
              go_ret2
              exact HEND.out _ 160 _ hTn.out ((HG6.out.trans (grown_of_below b7)).trans (grown_drewN _))
    · have hjC : j = c1 := by omega
      have hTJ := HTJ.out
      rw [hjC, Nat.sub_self, loadT] at hTJ
      have hk1 : ¬ kk ≤ c1 := by omega
      clear hjC
      by_cases haN : a = n1
      · have hTr : Hid (T = (0, s, some ⟨1, a1, c1, n1, L⟩)) := Lib.hid (by
          rw [if_pos haN] at hTJ
          rw [HT.out, hTJ])
        clear hTJ hkk HTJ
        subst haN
        go_wp2
        go_ret2
        rw [hTr.out]
        refine ⟨foot, HD.out.grown HG.out, fun _ h => .inl h, Md.of_grown HG.out (by simp), sp, _, rfl, ⟨A, cl, ?_, HX.out, fun h => h.2.2 rfl, fun b hb => hb.2.1⟩, fun b hb => ⟨hb.1, fun hf => by have := hdl.out b hf; omega⟩, hspl, fun hf => by have := hdl.out sp hf; omega⟩
        show Blk wo sp 51 (rscells dp 1 a1 c1 _ (.slice A L.length cl) s.dead)
        rw [hdd]
        exact HB.out
      · have hTn : Hid (T = (160, s, none)) := Lib.hid (by
          rw [if_neg haN] at hTJ
          rw [HT.out, hTJ])
        have haI : ¬ (a : Int) = (n1 : Int) := by omega
        have haB : ((a : Int) == (n1 : Int)) = false := by simpa using haI
        clear hTJ hkk HTJ
        go_wp2
        go_ret2
        exact HEND.out _ 160 _ hTn.out HG.out
end Go.Proofs.YtonpcenjipigpaaGreat
