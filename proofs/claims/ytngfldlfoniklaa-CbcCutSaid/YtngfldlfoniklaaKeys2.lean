/- The reference's words of a key. Conditions: the table of S lies as it should. -/
import Derived.Test.YtngfldlfoniklaaKeys1
import Derived.Deep.RegionHeld3
namespace Go.Proofs.Ytngfldlfoniklaa
open Go.RowKit
theorem nw_first (ks : List UInt8) (ws : List (List Nat)) (i : Nat) (h : i < 8) : nw (kn ks) ws i = [(ks.getD (4 * i) 0).toNat, (ks.getD (4 * i + 1) 0).toNat, (ks.getD (4 * i + 2) 0).toNat, (ks.getD (4 * i + 3) 0).toNat] := by
  unfold nw
  rw [if_pos h, kn_get, kn_get, kn_get, kn_get]
theorem size_alloc2 (w : World) (o p : Obj) : ((w.alloc o).alloc p).heap.size = w.heap.size + 1 + 1 := by simp
theorem le_alloc2 {B : Nat} {w : World} (h : B ≤ w.heap.size) (o p : Obj) : B ≤ ((w.alloc o).alloc p).heap.size := by simp; omega
theorem news_alloc2 (w : World) (o : Obj) (x : Value) (ty : TypeId) : ∀ j u, [x][j]? = some u → ((w.alloc o).alloc (.cells #[x] ty)).cell? ((⟨w.heap.size + 1, 0, none⟩ : Addr).add j) = some u := by
  have h := World.news_of_block (heap_alloc_new (w.alloc o) (.cells #[x] ty))
  rw [World.size_alloc] at h
  exact h
theorem cell_alloc2 {w : World} {a : Addr} {v : Value} (h : w.cell? a = some v) (o p : Obj) : ((w.alloc o).alloc p).cell? a = some v :=
  (World.grownBy_alloc _ p none).cell ((World.grownBy_alloc w o none).cell h (by simp)) (by simp)
theorem grown_alloc2 (w : World) (o p : Obj) : w.grownBy ((w.alloc o).alloc p) none := World.grownBy.trans (World.grownBy_alloc w o none) (World.grownBy_alloc _ p none)
theorem Wps.weak {w : World} {B B' : Nat} {v : Value} {ws : List (List Nat)} (h : Wps w B' v ws) (hB : B ≤ B') : Wps w B v ws := by
  obtain ⟨vals, ho, hp⟩ := h
  refine ⟨vals, ⟨ho.1, ?_⟩, fun n hn => ?_⟩
  · rcases ho.2 with h | ⟨g, cap, cur, e, h1, h2⟩
    · exact .inl h
    · exact .inr ⟨g, cap, cur, e, Nat.le_trans hB h1, h2⟩
  · obtain ⟨gt, c, e1, e2, e3, e4⟩ := hp n hn
    exact ⟨gt, c, e1, e2, Nat.le_trans hB e3, e4⟩
theorem T4.news {w : World} {g : Nat} {ys : List Nat} (h : T4 w g ys) : ∀ j u, (ints ys)[j]? = some u → w.cell? ((⟨g, 0, none⟩ : Addr).add j) = some u := fun j u hu => by
  have hj : j < ys.length := by
    rw [← ints_length ys]
    exact (List.getElem?_eq_some_iff.1 hu).1
  rw [Addr.add_lit, Nat.zero_add, h.get j hj]
  rw [ints_get ys j hj] at hu
  exact hu
theorem four_list (l : List Nat) (h : l.length = 4) : l = [l.getD 0 0, l.getD 1 0, l.getD 2 0, l.getD 3 0] := by
  obtain ⟨a, l1, rfl⟩ := List.exists_cons_of_length_pos (l := l) (by omega)
  obtain ⟨b, l2, rfl⟩ := List.exists_cons_of_length_pos (l := l1) (by simp only [List.length_cons] at h; omega)
  obtain ⟨c, l3, rfl⟩ := List.exists_cons_of_length_pos (l := l2) (by simp only [List.length_cons] at h; omega)
  obtain ⟨d, l4, rfl⟩ := List.exists_cons_of_length_pos (l := l3) (by simp only [List.length_cons] at h; omega)
  obtain rfl : l4 = [] := List.eq_nil_of_length_eq_zero (by simp only [List.length_cons] at h; omega)
  rfl
theorem word_list (ks : List UInt8) (i n : Nat) (h : n < i) : (kws (kn ks) i).getD n [] = [wb (kws (kn ks) i) n 0, wb (kws (kn ks) i) n 1, wb (kws (kn ks) i) n 2, wb (kws (kn ks) i) n 3] :=
  four_list _ (by rw [kws_get _ _ _ h]; exact nw_length _ _ _)
theorem stab_get (x : Nat) (h : x < 256) : stab.getD x 0 = sbox x := by
  unfold stab
  rw [List.getD_eq_getElem?_getD, List.getElem?_map, List.getElem?_range h]
  rfl
theorem stab_length : stab.length = 256 := by simp [stab]
theorem nw_late (ks : List UInt8) (i : Nat) (h : 8 ≤ i) : nw (kn ks) (kws (kn ks) i) i = pl 4 (fun r => tw (kws (kn ks) i) i r ^^^ wb (kws (kn ks) i) (i - 8) r) (tw (kws (kn ks) i) i) 4 := by
  unfold nw
  rw [if_neg (by omega)]
  rfl
theorem pl_old (f old : Nat → Nat) : pl 4 f old 0 = [old 0, old 1, old 2, old 3] := rfl
theorem one_slice (A : Option Addr) (n c : Nat) : ∀ u ∈ [Value.slice A n c], u.oneCell' = true := by
  intro u hu
  obtain rfl : u = .slice A n c := by simpa using hu
  rfl
set_option maxRecDepth 100000 in
set_option maxHeartbeats 3200000 in
theorem refkeys_any {W : World} {gs : Nat} (hS : Blk W gs 3 (ints stab)) (k : Fin 32 → UInt8) :
    Calls Try.prog 31 #[.slice (some ⟨gs, 0, none⟩) 256 256, .agg (u8s (k32 k)).toArray] W fun e w' => ∃ v, e = .returned v ∧ Wps w' W.heap.size v (kws (kn (k32 k)) 60) ∧ W.grownBy w' none := by
  obtain ⟨ks, hks⟩ : ∃ ks, ks = k32 k := ⟨_, rfl⟩
  rw [← hks]
  have hkl : ks.length = 32 := by rw [hks, k32_length]
  have HKS := Lib.hid hks
  have HKL := Lib.hid hkl
  have HS := Lib.hid hS
  clear hS hks hkl
  go_enter Try.func31, Try.ntmps31
  go_wp2_with (refine wpList_box22 rfl _ k rfl (by rw [← HKS.out]; rfl) ?_)
  intro w2 hb2 hg2 hz2
  obtain ⟨gk, hgk⟩ : ∃ g, g = W.heap.size := ⟨_, rfl⟩
  obtain ⟨B, hB⟩ : ∃ B, B = w2.heap.size := ⟨_, rfl⟩
  rw [← hgk, ← HKS.out] at hb2
  rw [← hgk]
  have HK2 := Lib.hid hb2
  have HG2 := Lib.hid hg2
  have HB2 := Lib.hid (show B ≤ w2.heap.size by omega)
  have HBE := Lib.hid (show w2.heap.size ≤ B by omega)
  have HWB := Lib.hid (show W.heap.size ≤ B by omega)
  have HKB := Lib.hid (show gk < B by omega)
  clear hb2 hg2 hz2 hgk hB
  go_wp2_with (fail)
  go_loopw [5, 6, 7] (fun v p x wr => ∃ i : Nat, i ≤ 60 ∧ x = .int .i64 (i : Int) ∧ p = .int .i64 ((pw ((i - 1) / 8) : Nat) : Int) ∧ Wps wr B v (kws (kn ks) i) ∧ w2.grownBy wr none) (fun _ _ x _ => 60 - (intOf x).toNat)
  case atStart => exact ⟨0, by omega, rfl, rfl, Wps.nil _ _, World.grownBy.refl _ _⟩
  case round =>
    obtain ⟨i, hi, rfl, rfl, hw, hg⟩ := hrel
    have HK := Lib.hid (HK2.out.grown hg (by simp))
    have HSR := Lib.hid ((HS.out.grown HG2.out (by simp)).grown hg (by simp))
    have HBR := Lib.hid (Nat.le_trans HB2.out hg.size)
    have HW := Lib.hid hw
    have HG := Lib.hid hg
    have HI := Lib.hid hi
    clear hw hg
    by_cases hlt : i < 60
    · by_cases h8 : i < 8
      · have e0 : pw ((i - 1) / 8) = 1 := by rw [show (i - 1) / 8 = 0 by omega]; rfl
        have e1 : pw ((i + 1 - 1) / 8) = 1 := by rw [show (i + 1 - 1) / 8 = 0 by omega]; rfl
        rw [e0]
        obtain ⟨q0, h0⟩ : ∃ q, q = 4 * i := ⟨_, rfl⟩
        obtain ⟨q1, h1⟩ : ∃ q, q = 4 * i + 1 := ⟨_, rfl⟩
        obtain ⟨q2, h2⟩ : ∃ q, q = 4 * i + 2 := ⟨_, rfl⟩
        obtain ⟨q3, h3⟩ : ∃ q, q = 4 * i + 3 := ⟨_, rfl⟩
        have hnw := nw_first ks (kws (kn ks) i) i h8
        rw [← h3, ← h2, ← h1, ← h0] at hnw
        have c0 := HK.out.get q0 _ (u8s_at ks q0 (by rw [HKL.out]; omega))
        have c1 := HK.out.get q1 _ (u8s_at ks q1 (by rw [HKL.out]; omega))
        have c2 := HK.out.get q2 _ (u8s_at ks q2 (by rw [HKL.out]; omega))
        have c3 := HK.out.get q3 _ (u8s_at ks q3 (by rw [HKL.out]; omega))
        have l0 := (ks.getD q0 0).toNat_lt
        have l1 := (ks.getD q1 0).toNat_lt
        have l2 := (ks.getD q2 0).toNat_lt
        have l3 := (ks.getD q3 0).toNat_lt
        generalize (ks.getD q0 0).toNat = n0 at c0 l0 hnw
        generalize (ks.getD q1 0).toNat = n1 at c1 l1 hnw
        generalize (ks.getD q2 0).toNat = n2 at c2 l2 hnw
        generalize (ks.getD q3 0).toNat = n3 at c3 l3 hnw
        have HNW := Lib.hid hnw
        have b0 : (q0 : Int) < 32 := by omega
        have b1 : (q1 : Int) < 32 := by omega
        have b2 : (q2 : Int) < 32 := by omega
        have b3 : (q3 : Int) < 32 := by omega
        have f0 : 4 * (i : Int) = (q0 : Int) := by omega
        have f1 : (q0 : Int) + 1 = (q1 : Int) := by omega
        have f2 : (q0 : Int) + 2 = (q2 : Int) := by omega
        have f3 : (q0 : Int) + 3 = (q3 : Int) := by omega
        have g0 := i64_keep q0 (by omega)
        have g1 := i64_keep q1 (by omega)
        have g2 := i64_keep q2 (by omega)
        have g3 := i64_keep q3 (by omega)
        have m0 := i64_keep n0 (by omega)
        have m1 := i64_keep n1 (by omega)
        have m2 := i64_keep n2 (by omega)
        have m3 := i64_keep n3 (by omega)
        clear h0 h1 h2 h3 l0 l1 l2 l3 hnw e0
        obtain ⟨vals, hvals, _⟩ := HW.out
        have hlen := kws_length (kn ks) i
        rw [hlen] at hvals
        have HV := Lib.hid hvals
        obtain ⟨i0, hi0, hz0, hz1, hz2⟩ := info_parts Try.info28
        have k1 : i + 1 ≤ maxLen := by unfold maxLen; omega
        have k2 : (i + 1) * 24 ≤ 140737488355328 := by omega
        clear hvals
        have hne : some gk ≠ u5.ownBlock := fun h => by have h1 := (HV.out.lt gk h.symm).1; have h2 := HKB.out; omega
        have HNE := Lib.hid hne
        have HBD : Hid (B ≤ wr.drew.heap.size) := HBR
        clear hne
        go_wp2_with (fail)
        go_region_held3 (fun w' => w'.cell? ⟨gk, q0, none⟩ = some (.int .u8 (n0 : Int)) ∧ w'.cell? ⟨gk, q1, none⟩ = some (.int .u8 (n1 : Int)) ∧ w'.cell? ⟨gk, q2, none⟩ = some (.int .u8 (n2 : Int)) ∧ w'.cell? ⟨gk, q3, none⟩ = some (.int .u8 (n3 : Int)))
          (first
            | exact ⟨c0, c1, c2, c3⟩
            | exact ⟨hg5.cell (cell_alloc2 c0 _ _) HNE.out, hg5.cell (cell_alloc2 c1 _ _) HNE.out, hg5.cell (cell_alloc2 c2 _ _) HNE.out, hg5.cell (cell_alloc2 c3 _ _) HNE.out⟩
            | go_keep)
          (first
            | (refine step_append_lies _ rfl _ _ _ rfl B 40 i0 _ 1 24 Try.underlying41 hi0 hz0 hz1 hz2 rfl Nat.one_pos u5 i vals rfl ((HV.out.alloc _).alloc _) ⟨wr.heap.size + 1, 0, none⟩ 1 1 [.slice (some ⟨wr.heap.size, 0, none⟩) 4 4] rfl rfl (news_alloc2 wr.drew _ _ _) (one_slice _ _ _) Nat.one_pos k1 k2 (le_alloc2 HBR.out _ _) (wr.heap.size + 1 + 1) (size_alloc2 _ _ _) ?_
               intro g' cap w5 hown hg5 hat hlt5)
            | fail)
        have hpush := Wps.push (v := u5) (ws := kws (kn ks) i) (y := [n0, n1, n2, n3]) (gt := wr.heap.size) (c := 4) HW.out (by rw [hlen]; exact HV.out) (World.grownBy_alloc wr (.cells #[.int .i64 (n0 : Int), .int .i64 (n1 : Int), .int .i64 (n2 : Int), .int .i64 (n3 : Int)] 3) none) (Nat.le_refl _) HBR.out (Nat.le_refl _) (T4.blk (Blk.of_alloc wr _ 3)) (grown_drew (World.grownBy_alloc _ (.cells #[.slice (some ⟨wr.heap.size, 0, none⟩) 4 4] 40) none)) (World.size_alloc _ _) (by rw [hlen]; exact hown) hg5 (hat.imp id fun h => h.trans (size_alloc2 _ _ _).symm)
        rw [hlen, ← HNW.out] at hpush
        have hg5' : w2.grownBy w5 none := World.grownBy.andThen (World.grownBy.trans HG.out (grown_drew (grown_alloc2 wr _ _))) hg5 (fun j hj => .inl (Nat.le_trans HBE.out (HV.out.lt j hj).1))
        have HP := Lib.hid hpush
        have HG5 := Lib.hid hg5'
        clear hown hg5 hat hlt5 hpush hg5' b0 b1 b2 b3 f0 f1 f2 f3 g0 g1 g2 g3 m0 m1 m2 m3 c0 c1 c2 c3
        go_wp2
        go_roundw
        case rel => exact ⟨i + 1, by omega, by go_num, by rw [e1]; rfl, HP.out, HG5.out⟩
        case measure => simp [intOf]; omega
      · have hlen := kws_length (kn ks) i
        obtain ⟨gw, cw, hu⟩ := HW.out.form (by rw [hlen]; omega)
        rw [hlen] at hu
        subst hu
        have hwl : Wps wr B (.slice (some ⟨gw, 0, none⟩) (kws (kn ks) i).length cw) (kws (kn ks) i) := by rw [hlen]; exact HW.out
        obtain ⟨g1, cc1, r1, r2, r3, r4, r5⟩ := hwl.read (i - 1) (by rw [hlen]; omega)
        obtain ⟨g8, cc8, s1, s2, s3, s4, s5⟩ := hwl.read (i - 8) (by rw [hlen]; omega)
        rw [word_list ks i (i - 1) (by omega)] at r5
        obtain ⟨vals, hvals, _⟩ := HW.out
        rw [hlen] at hvals
        have HV := Lib.hid hvals
        have hx : ∀ r, wb (kws (kn ks) i) (i - 1) r < 256 := kws_lt _ (kn_lt ks) i hi (i - 1)
        have ho : ∀ r, wb (kws (kn ks) i) (i - 8) r < 256 := kws_lt _ (kn_lt ks) i hi (i - 8)
        have hl0 := hx 0
        have hl1 := hx 1
        have hl2 := hx 2
        have hl3 := hx 3
        have HO8 := Lib.hid ho
        have htw := fun r (hr : r < 4) => (kt_tw ks i r (by omega) hlt hr).2
        have HTW := Lib.hid htw
        obtain ⟨x0, hx0⟩ : ∃ x, x = wb (kws (kn ks) i) (i - 1) 0 := ⟨_, rfl⟩
        obtain ⟨x1, hx1⟩ : ∃ x, x = wb (kws (kn ks) i) (i - 1) 1 := ⟨_, rfl⟩
        obtain ⟨x2, hx2⟩ : ∃ x, x = wb (kws (kn ks) i) (i - 1) 2 := ⟨_, rfl⟩
        obtain ⟨x3, hx3⟩ : ∃ x, x = wb (kws (kn ks) i) (i - 1) 3 := ⟨_, rfl⟩
        rw [← hx0, ← hx1, ← hx2, ← hx3] at r5
        rw [← hx0] at hl0
        rw [← hx1] at hl1
        rw [← hx2] at hl2
        rw [← hx3] at hl3
        have HR5 := Lib.hid r5
        have HS1 := Lib.hid s1
        have HS5 := Lib.hid s5
        have HG8 := Lib.hid s4
        have HLEN := Lib.hid hlen
        obtain ⟨p1, hp1⟩ : ∃ p, p = i - 1 := ⟨_, rfl⟩
        have d1 : (i : Int) - 1 = (p1 : Int) := by omega
        have d2 := i64_keep p1 (by omega)
        have d3 : (p1 : Int) < (i : Int) := by omega
        rw [← hp1] at r1
        obtain ⟨q, hq⟩ : ∃ q, q = (i - 1) / 8 := ⟨_, rfl⟩
        have hq8 : q < 8 := by omega
        rw [← hq]
        have HQ := Lib.hid hq
        have HX0 := Lib.hid hx0
        have HX1 := Lib.hid hx1
        have HX2 := Lib.hid hx2
        have HX3 := Lib.hid hx3
        have hT0 : ∀ k, tw (kws (kn ks) i) i k = if i % 8 = 0 then (if k = 0 then sbox x1 ^^^ pw (i / 8 - 1) else sbox (wb (kws (kn ks) i) (i - 1) ((k + 1) % 4))) else if i % 8 = 4 then sbox (wb (kws (kn ks) i) (i - 1) k) else wb (kws (kn ks) i) (i - 1) k := fun k => by rw [hx1]; rfl
        have HT0 := Lib.hid hT0
        obtain ⟨i3, hi3, hy0, hy1, hy2⟩ := info_parts Try.info3
        have k0 : 0 + 4 ≤ maxLen := by unfold maxLen; omega
        have k00 : (0 + 4) * 8 ≤ 140737488355328 := by omega
        have H8 := Lib.hid (show 8 ≤ i by omega)
        have HLT := Lib.hid hlt
        have b8 : ¬ ((i : Int) < 8) := by omega
        obtain ⟨w0, hw0⟩ : ∃ w0, w0 = wr := ⟨_, rfl⟩
        have HW0 := Lib.hid hw0
        clear hw0
        clear hwl hvals hx ho htw r2 r3 r4 r5 s1 s2 s3 s4 s5 hlen hx0 hx1 hx2 hx3 hT0 hp1 hq
        rcases (show i % 8 = 0 ∨ i % 8 = 4 ∨ (i % 8 ≠ 0 ∧ i % 8 ≠ 4) by omega) with hr | hr | ⟨hr, hr4⟩
        · have b0 : ((i : Int) % 8 == 0) = true := by rw [beq_iff_eq]; omega
          have b4 : ((i : Int) % 8 == 4) = false := by rw [beq_eq_false_iff_ne]; omega
          go_wp2_with (at_builtin; refine wpList_append_lies _ rfl _ _ _ rfl wr.heap.size 3 i3 _ 1 8 Try.underlying40 hi3 hy0 hy1 hy2 rfl Nat.one_pos (.slice none 0 0) 0 [] rfl (World.ownsRow_nil wr wr.heap.size 3 1) ⟨g1, 0, none⟩ 4 cc1 (ints [x0, x1, x2, x3]) rfl rfl (T4.news HR5.out) (ints_one _) (by omega) k0 k00 (Nat.le_refl _) wr.heap.size rfl ?_; intro gt c w3 hown hg3 hat hlt3; have hT := T4.own (B := wr.heap.size) hown; have HT := Lib.hid hT.1; have HC := Lib.hid hT.2; have HG3 : Hid (wr.grownBy w3 none) := Lib.hid hg3; have HGT : Hid (wr.heap.size ≤ gt) := (by rcases hat with h | h; exact absurd h (by simp [Value.ownBlock]); exact Lib.hid (Nat.le_of_eq h.symm)); clear hown hg3 hat hlt3 hT)
          have S0 : w3.cell? ⟨gs, x0, none⟩ = some (.int .i64 ((sbox x0 : Nat) : Int)) := by
            have h := (HSR.out.grown HG3.out (by simp)).get x0 _ (ints_get stab x0 (by rw [stab_length]; exact hl0))
            rw [stab_get x0 hl0] at h
            exact h
          have L0 : (x0 : Int) < 256 := by omega
          have V0 := HT.out.get 0 (by simp)
          change w3.cell? ⟨gt, 0, none⟩ = some (.int .i64 (x0 : Int)) at V0
          have S1 : w3.cell? ⟨gs, x1, none⟩ = some (.int .i64 ((sbox x1 : Nat) : Int)) := by
            have h := (HSR.out.grown HG3.out (by simp)).get x1 _ (ints_get stab x1 (by rw [stab_length]; exact hl1))
            rw [stab_get x1 hl1] at h
            exact h
          have L1 : (x1 : Int) < 256 := by omega
          have V1 := HT.out.get 1 (by simp)
          change w3.cell? ⟨gt, 1, none⟩ = some (.int .i64 (x1 : Int)) at V1
          have S2 : w3.cell? ⟨gs, x2, none⟩ = some (.int .i64 ((sbox x2 : Nat) : Int)) := by
            have h := (HSR.out.grown HG3.out (by simp)).get x2 _ (ints_get stab x2 (by rw [stab_length]; exact hl2))
            rw [stab_get x2 hl2] at h
            exact h
          have L2 : (x2 : Int) < 256 := by omega
          have V2 := HT.out.get 2 (by simp)
          change w3.cell? ⟨gt, 2, none⟩ = some (.int .i64 (x2 : Int)) at V2
          have S3 : w3.cell? ⟨gs, x3, none⟩ = some (.int .i64 ((sbox x3 : Nat) : Int)) := by
            have h := (HSR.out.grown HG3.out (by simp)).get x3 _ (ints_get stab x3 (by rw [stab_length]; exact hl3))
            rw [stab_get x3 hl3] at h
            exact h
          have L3 : (x3 : Int) < 256 := by omega
          have V3 := HT.out.get 3 (by simp)
          change w3.cell? ⟨gt, 3, none⟩ = some (.int .i64 (x3 : Int)) at V3
          obtain ⟨y0, hy0'⟩ : ∃ y, y = sbox x1 ^^^ pw q := ⟨_, rfl⟩
          obtain ⟨y1, hy1'⟩ : ∃ y, y = sbox x2 := ⟨_, rfl⟩
          obtain ⟨y2, hy2'⟩ : ∃ y, y = sbox x3 := ⟨_, rfl⟩
          obtain ⟨y3, hy3'⟩ : ∃ y, y = sbox x0 := ⟨_, rfl⟩
          have hxor := xor_small (sbox x1) (pw q) (sbox_lt x1 hl1) (pw_lt q hq8)
          rw [← hy0'] at hxor
          rw [← hy1'] at S2
          rw [← hy2'] at S3
          rw [← hy3'] at S0
          have HY : Hid (y0 = tw (kws (kn ks) i) i 0 ∧ y1 = tw (kws (kn ks) i) i 1 ∧ y2 = tw (kws (kn ks) i) i 2 ∧ y3 = tw (kws (kn ks) i) i 3) := Lib.hid (by
            have hq' : i / 8 - 1 = q := by rw [HQ.out]; omega
            rw [HT0.out 0, HT0.out 1, HT0.out 2, HT0.out 3]
            simp only [if_pos hr, hq']
            exact ⟨hy0', by rw [hy1', HX2.out]; rfl, by rw [hy2', HX3.out]; rfl, by rw [hy3', HX0.out]; rfl⟩)
          have HPN : Hid (pw ((i + 1 - 1) / 8) = pw (q + 1)) := Lib.hid (by rw [HQ.out]; congr 1; have := H8.out; omega)
          have HTM : Hid (∀ V, Calls Try.prog 32 #[.int .i64 ((pw q : Nat) : Int), .int .i64 2] V fun e w' => e = .returned (.int .i64 ((pw (q + 1) : Nat) : Int)) ∧ w' = V) := Lib.hid (fun V => times_any (pw q) 2 (pw_lt q hq8) (by decide) V)
          generalize sbox x1 = z1 at S1 hxor
          clear hy0' hy1' hy2' hy3' HT0 hr
          go_wp2_with (fail)
          refine wp_region_still_tail 26 (by kernel_rfl) (by kernel_rfl) ?_
          change wpStill _ _ w3.drew (fun a' => wpList _ _ _ _ a' w3.drew) _ _
          simp only [List.take_succ_cons, List.take_zero, List.drop_succ_cons, List.drop_zero]
          repeat still_step
          refine wpStill_nil ?_
          clear S0 S1 S2 S3 L0 L1 L2 L3 V0 V1 V2 V3 hxor
          refine wpList_words rfl _ _ _ _ rfl y0 y1 y2 y3 rfl rfl rfl rfl ?_
          intro w4 hb4 hg4 hz4
          obtain ⟨gu, hgu⟩ : ∃ g, g = w3.drew.heap.size := ⟨_, rfl⟩
          rw [← hgu] at hb4 ⊢
          have HTT := Lib.hid (T4.blk hb4)
          have HGA : Hid (wr.grownBy w4 none) := Lib.hid (World.grownBy.trans (grown_drew HG3.out) hg4)
          have HGE : Hid (wr.heap.size ≤ gu) := Lib.hid (by rw [hgu]; exact HG3.out.size)
          have HC4 : Hid (4 ≤ 4) := Lib.hid (Nat.le_refl 4)
          clear hb4 hg4 hz4 hgu HT HG3 HGT HC
          go_wp2_with (go_at_call 32; with_reducible refine (HTM.out _).mono ?_; rintro _ V ⟨rfl, hV⟩; rw [hV]; clear hV)
          clear HTM b0 b4
          go_loopw [9] (fun v wx => ∃ j : Nat, j ≤ 4 ∧ v = .int .i64 (j : Int) ∧ T4 wx gu (pl 4 (fun r => tw (kws (kn ks) i) i r ^^^ wb (kws (kn ks) i) (i - 8) r) (tw (kws (kn ks) i) i) j) ∧ w0.grownBy wx none) (fun v _ => 4 - (intOf v).toNat)
          case atStart => exact ⟨0, by omega, rfl, by rw [pl_old, ← HY.out.1, ← HY.out.2.1, ← HY.out.2.2.1, ← HY.out.2.2.2]; exact HTT.out, by rw [HW0.out]; exact HGA.out⟩
          case round =>
            clear HTT HGA
            obtain ⟨j, hj, rfl, hT, hg⟩ := hrel
            by_cases hj4 : j < 4
            · have e0 := hT.get j (by rw [pl_length]; exact hj4)
              rw [pl_get _ _ _ _ j hj4, if_neg (Nat.lt_irrefl j)] at e0
              have hf := hT.frozen j
              have h5 := HS5.out
              have h8' := H8.out
              rw [word_list ks i (i - 8) (by omega)] at h5
              have e1 : wr.cell? ⟨g8, j, none⟩ = some (.int .i64 ((wb (kws (kn ks) i) (i - 8) j : Nat) : Int)) := by
                have h := h5.get j hj4
                have hw0 := HW0.out
                have h' := hg.cell (a := ⟨g8, j, none⟩) (by rw [hw0]; exact h) (by simp)
                rw [h']
                obtain rfl | rfl | rfl | rfl : j = 0 ∨ j = 1 ∨ j = 2 ∨ j = 3 := by omega
                all_goals rfl
              have e2 := hg.cell (by rw [HW0.out]; exact HS1.out) (by simp)
              obtain ⟨p8, hp8⟩ : ∃ p, p = i - 8 := ⟨_, rfl⟩
              rw [← hp8] at e2
              have d4 : (i : Int) - 8 = (p8 : Int) := by omega
              have d5 := i64_keep p8 (by omega)
              have d6 : (p8 : Int) < (i : Int) := by omega
              have d7 : (j : Int) < 4 := by omega
              have hx := xor_small _ _ (HTW.out j hj4) (HO8.out j)
              have hset := hT.set j (tw (kws (kn ks) i) i j ^^^ wb (kws (kn ks) i) (i - 8) j) (by rw [pl_length]; exact hj4)
              rw [pl_set 4 (fun r => tw (kws (kn ks) i) i r ^^^ wb (kws (kn ks) i) (i - 8) r) (tw (kws (kn ks) i) i) j] at hset
              obtain ⟨z, hz⟩ : ∃ z, z = tw (kws (kn ks) i) i j ^^^ wb (kws (kn ks) i) (i - 8) j := ⟨_, rfl⟩
              rw [← hz] at hx hset
              have HSET := Lib.hid hset
              have HGG := Lib.hid hg
              clear hset hz hg hT h5 h8' hp8
              generalize tw (kws (kn ks) i) i j = t at e0 hx
              generalize wb (kws (kn ks) i) (i - 8) j = o at e1 hx
              go_wp2_with (fail)
              refine wp_region_still_tail 16 (by kernel_rfl) (by kernel_rfl) ?_
              change wpStill _ _ wr.drew (fun a' => wpList _ _ _ _ a' wr.drew) _ _
              simp only [List.take_succ_cons, List.take_zero, List.drop_succ_cons, List.drop_zero]
              repeat still_step
              refine wpStill_nil ?_
              go_wp2
              go_roundw
              case rel => exact ⟨j + 1, by omega, by go_num, HSET.out.keep rfl, World.grownBy.andThen (grown_drew HGG.out) (grown_set _ _ _ _) (by rintro _ ⟨⟩; rw [HW0.out]; exact .inl HGE.out)⟩
              case measure => simp [intOf]; omega
            · have ej : j = 4 := by omega
              subst ej
              have hw0 := HW0.out
              rw [← nw_late ks i H8.out] at hT
              have HTF := Lib.hid hT
              have HGF : Hid (w0.grownBy wr none) := Lib.hid hg
              have HW' : Hid (Wps w0 B (.slice (some ⟨gw, 0, none⟩) i cw) (kws (kn ks) i)) := Lib.hid (by rw [hw0]; exact HW.out)
              have HV' : Hid (w0.ownsRow B 40 1 (.slice (some ⟨gw, 0, none⟩) i cw) i vals) := Lib.hid (by rw [hw0]; exact HV.out)
              have HGE' : Hid (w0.heap.size ≤ gu) := Lib.hid (by rw [hw0]; exact HGE.out)
              have HBR' : Hid (B ≤ w0.heap.size) := Lib.hid (by rw [hw0]; exact HBR.out)
              have HG' : Hid (w2.grownBy w0 none) := Lib.hid (by rw [hw0]; exact HG.out)
              obtain ⟨i0, hi0, hz0, hz1, hz2⟩ := info_parts Try.info28
              have hlt' := HLT.out
              have k1 : i + 1 ≤ maxLen := by unfold maxLen; omega
              have k2 : (i + 1) * 24 ≤ 140737488355328 := by omega
              clear hT hg hj4 hj hlt' hw0
              go_wp2_with (first
                | (refine wpList_one rfl _ rfl (some ⟨gu, 0, none⟩) 4 4 rfl ?_
                   intro w5 hb5 hg5 hz5
                   obtain ⟨go, hgo⟩ : ∃ g, g = wr.heap.size := ⟨_, rfl⟩
                   rw [← hgo] at hb5 ⊢
                   have HB5 := Lib.hid hb5
                   have HG5 := Lib.hid hg5
                   have HZ5 := Lib.hid hz5
                   clear hb5 hg5 hz5 hgo)
                | (at_builtin
                   refine wpList_append_lies _ rfl _ _ _ rfl B 40 i0 _ 1 24 Try.underlying41 hi0 hz0 hz1 hz2 rfl Nat.one_pos (.slice (some ⟨gw, 0, none⟩) i cw) i vals rfl (HV'.out.kept (World.grownBy.trans HGF.out HG5.out) (.inr (by simp [Value.ownBlock]))) ⟨go, 0, none⟩ 1 1 [.slice (some ⟨gu, 0, none⟩) 4 4] rfl rfl (World.news_of_block HB5.out) (one_slice _ _ _) Nat.one_pos k1 k2 (Nat.le_trans HBR'.out (World.grownBy.trans HGF.out HG5.out).size) w5.heap.size rfl ?_
                   intro g' cap w6 hown hg6 hat hlt6
                   have hpush := Wps.push (v := .slice (some ⟨gw, 0, none⟩) i cw) (ws := kws (kn ks) i) (y := nw (kn ks) (kws (kn ks) i) i) (gt := gu) (c := 4) HW'.out (by rw [HLEN.out]; exact HV'.out) HGF.out HGE'.out HBR'.out HC4.out HTF.out HG5.out HZ5.out (by rw [HLEN.out]; exact hown) hg6 hat
                   rw [HLEN.out] at hpush
                   have HP := Lib.hid hpush
                   have HG6 : Hid (w2.grownBy w6 none) := Lib.hid (World.grownBy.andThen (World.grownBy.trans HG'.out (World.grownBy.trans HGF.out HG5.out)) hg6 (fun j hj => .inl (Nat.le_trans HBE.out (HV'.out.lt j hj).1)))
                   clear hown hg6 hat hlt6 hpush))
              go_roundw
              case rel => exact ⟨i + 1, by have := HLT.out; omega, by go_num, by rw [HPN.out], HP.out, HG6.out⟩
              case measure => have := HLT.out; simp [intOf]; omega
        · have b0 : ((i : Int) % 8 == 0) = false := by rw [beq_eq_false_iff_ne]; omega
          have b4 : ((i : Int) % 8 == 4) = true := by rw [beq_iff_eq]; omega
          go_wp2_with (at_builtin; refine wpList_append_lies _ rfl _ _ _ rfl wr.heap.size 3 i3 _ 1 8 Try.underlying40 hi3 hy0 hy1 hy2 rfl Nat.one_pos (.slice none 0 0) 0 [] rfl (World.ownsRow_nil wr wr.heap.size 3 1) ⟨g1, 0, none⟩ 4 cc1 (ints [x0, x1, x2, x3]) rfl rfl (T4.news HR5.out) (ints_one _) (by omega) k0 k00 (Nat.le_refl _) wr.heap.size rfl ?_; intro gt c w3 hown hg3 hat hlt3; have hT := T4.own (B := wr.heap.size) hown; have HT := Lib.hid hT.1; have HC := Lib.hid hT.2; have HG3 : Hid (wr.grownBy w3 none) := Lib.hid hg3; have HGT : Hid (wr.heap.size ≤ gt) := (by rcases hat with h | h; exact absurd h (by simp [Value.ownBlock]); exact Lib.hid (Nat.le_of_eq h.symm)); clear hown hg3 hat hlt3 hT)
          have S0 : w3.cell? ⟨gs, x0, none⟩ = some (.int .i64 ((sbox x0 : Nat) : Int)) := by
            have h := (HSR.out.grown HG3.out (by simp)).get x0 _ (ints_get stab x0 (by rw [stab_length]; exact hl0))
            rw [stab_get x0 hl0] at h
            exact h
          have L0 : (x0 : Int) < 256 := by omega
          have V0 := HT.out.get 0 (by simp)
          change w3.cell? ⟨gt, 0, none⟩ = some (.int .i64 (x0 : Int)) at V0
          have S1 : w3.cell? ⟨gs, x1, none⟩ = some (.int .i64 ((sbox x1 : Nat) : Int)) := by
            have h := (HSR.out.grown HG3.out (by simp)).get x1 _ (ints_get stab x1 (by rw [stab_length]; exact hl1))
            rw [stab_get x1 hl1] at h
            exact h
          have L1 : (x1 : Int) < 256 := by omega
          have V1 := HT.out.get 1 (by simp)
          change w3.cell? ⟨gt, 1, none⟩ = some (.int .i64 (x1 : Int)) at V1
          have S2 : w3.cell? ⟨gs, x2, none⟩ = some (.int .i64 ((sbox x2 : Nat) : Int)) := by
            have h := (HSR.out.grown HG3.out (by simp)).get x2 _ (ints_get stab x2 (by rw [stab_length]; exact hl2))
            rw [stab_get x2 hl2] at h
            exact h
          have L2 : (x2 : Int) < 256 := by omega
          have V2 := HT.out.get 2 (by simp)
          change w3.cell? ⟨gt, 2, none⟩ = some (.int .i64 (x2 : Int)) at V2
          have S3 : w3.cell? ⟨gs, x3, none⟩ = some (.int .i64 ((sbox x3 : Nat) : Int)) := by
            have h := (HSR.out.grown HG3.out (by simp)).get x3 _ (ints_get stab x3 (by rw [stab_length]; exact hl3))
            rw [stab_get x3 hl3] at h
            exact h
          have L3 : (x3 : Int) < 256 := by omega
          have V3 := HT.out.get 3 (by simp)
          change w3.cell? ⟨gt, 3, none⟩ = some (.int .i64 (x3 : Int)) at V3
          obtain ⟨y0, hy0'⟩ : ∃ y, y = sbox x0 := ⟨_, rfl⟩
          obtain ⟨y1, hy1'⟩ : ∃ y, y = sbox x1 := ⟨_, rfl⟩
          obtain ⟨y2, hy2'⟩ : ∃ y, y = sbox x2 := ⟨_, rfl⟩
          obtain ⟨y3, hy3'⟩ : ∃ y, y = sbox x3 := ⟨_, rfl⟩
          rw [← hy0'] at S0
          rw [← hy1'] at S1
          rw [← hy2'] at S2
          rw [← hy3'] at S3
          have hr0 : ¬ i % 8 = 0 := by omega
          have HY : Hid (y0 = tw (kws (kn ks) i) i 0 ∧ y1 = tw (kws (kn ks) i) i 1 ∧ y2 = tw (kws (kn ks) i) i 2 ∧ y3 = tw (kws (kn ks) i) i 3) := Lib.hid (by
            rw [HT0.out 0, HT0.out 1, HT0.out 2, HT0.out 3]
            simp only [if_neg hr0, if_pos hr]
            exact ⟨by rw [hy0', HX0.out], by rw [hy1', HX1.out], by rw [hy2', HX2.out], by rw [hy3', HX3.out]⟩)
          have HPN : Hid (pw ((i + 1 - 1) / 8) = pw q) := Lib.hid (by rw [HQ.out]; congr 1; omega)
          clear hy0' hy1' hy2' hy3' HT0 hr hr0
          go_wp2_with (fail)
          refine wp_region_still_tail 24 (by kernel_rfl) (by kernel_rfl) ?_
          change wpStill _ _ w3.drew (fun a' => wpList _ _ _ _ a' w3.drew) _ _
          simp only [List.take_succ_cons, List.take_zero, List.drop_succ_cons, List.drop_zero]
          repeat still_step
          refine wpStill_nil ?_
          clear S0 S1 S2 S3 L0 L1 L2 L3 V0 V1 V2 V3
          refine wpList_words rfl _ _ _ _ rfl y0 y1 y2 y3 rfl rfl rfl rfl ?_
          intro w4 hb4 hg4 hz4
          obtain ⟨gu, hgu⟩ : ∃ g, g = w3.drew.heap.size := ⟨_, rfl⟩
          rw [← hgu] at hb4 ⊢
          have HTT := Lib.hid (T4.blk hb4)
          have HGA : Hid (wr.grownBy w4 none) := Lib.hid (World.grownBy.trans (grown_drew HG3.out) hg4)
          have HGE : Hid (wr.heap.size ≤ gu) := Lib.hid (by rw [hgu]; exact HG3.out.size)
          have HC4 : Hid (4 ≤ 4) := Lib.hid (Nat.le_refl 4)
          clear hb4 hg4 hz4 hgu HT HG3 HGT HC
          go_wp2_with (fail)
          clear b0 b4
          go_loopw [9] (fun v wx => ∃ j : Nat, j ≤ 4 ∧ v = .int .i64 (j : Int) ∧ T4 wx gu (pl 4 (fun r => tw (kws (kn ks) i) i r ^^^ wb (kws (kn ks) i) (i - 8) r) (tw (kws (kn ks) i) i) j) ∧ w0.grownBy wx none) (fun v _ => 4 - (intOf v).toNat)
          case atStart => exact ⟨0, by omega, rfl, by rw [pl_old, ← HY.out.1, ← HY.out.2.1, ← HY.out.2.2.1, ← HY.out.2.2.2]; exact HTT.out, by rw [HW0.out]; exact HGA.out⟩
          case round =>
            clear HTT HGA
            obtain ⟨j, hj, rfl, hT, hg⟩ := hrel
            by_cases hj4 : j < 4
            · have e0 := hT.get j (by rw [pl_length]; exact hj4)
              rw [pl_get _ _ _ _ j hj4, if_neg (Nat.lt_irrefl j)] at e0
              have hf := hT.frozen j
              have h5 := HS5.out
              have h8' := H8.out
              rw [word_list ks i (i - 8) (by omega)] at h5
              have e1 : wr.cell? ⟨g8, j, none⟩ = some (.int .i64 ((wb (kws (kn ks) i) (i - 8) j : Nat) : Int)) := by
                have h := h5.get j hj4
                have hw0 := HW0.out
                have h' := hg.cell (a := ⟨g8, j, none⟩) (by rw [hw0]; exact h) (by simp)
                rw [h']
                obtain rfl | rfl | rfl | rfl : j = 0 ∨ j = 1 ∨ j = 2 ∨ j = 3 := by omega
                all_goals rfl
              have e2 := hg.cell (by rw [HW0.out]; exact HS1.out) (by simp)
              obtain ⟨p8, hp8⟩ : ∃ p, p = i - 8 := ⟨_, rfl⟩
              rw [← hp8] at e2
              have d4 : (i : Int) - 8 = (p8 : Int) := by omega
              have d5 := i64_keep p8 (by omega)
              have d6 : (p8 : Int) < (i : Int) := by omega
              have d7 : (j : Int) < 4 := by omega
              have hx := xor_small _ _ (HTW.out j hj4) (HO8.out j)
              have hset := hT.set j (tw (kws (kn ks) i) i j ^^^ wb (kws (kn ks) i) (i - 8) j) (by rw [pl_length]; exact hj4)
              rw [pl_set 4 (fun r => tw (kws (kn ks) i) i r ^^^ wb (kws (kn ks) i) (i - 8) r) (tw (kws (kn ks) i) i) j] at hset
              obtain ⟨z, hz⟩ : ∃ z, z = tw (kws (kn ks) i) i j ^^^ wb (kws (kn ks) i) (i - 8) j := ⟨_, rfl⟩
              rw [← hz] at hx hset
              have HSET := Lib.hid hset
              have HGG := Lib.hid hg
              clear hset hz hg hT h5 h8' hp8
              generalize tw (kws (kn ks) i) i j = t at e0 hx
              generalize wb (kws (kn ks) i) (i - 8) j = o at e1 hx
              go_wp2_with (fail)
              refine wp_region_still_tail 16 (by kernel_rfl) (by kernel_rfl) ?_
              change wpStill _ _ wr.drew (fun a' => wpList _ _ _ _ a' wr.drew) _ _
              simp only [List.take_succ_cons, List.take_zero, List.drop_succ_cons, List.drop_zero]
              repeat still_step
              refine wpStill_nil ?_
              go_wp2
              go_roundw
              case rel => exact ⟨j + 1, by omega, by go_num, HSET.out.keep rfl, World.grownBy.andThen (grown_drew HGG.out) (grown_set _ _ _ _) (by rintro _ ⟨⟩; rw [HW0.out]; exact .inl HGE.out)⟩
              case measure => simp [intOf]; omega
            · have ej : j = 4 := by omega
              subst ej
              have hw0 := HW0.out
              rw [← nw_late ks i H8.out] at hT
              have HTF := Lib.hid hT
              have HGF : Hid (w0.grownBy wr none) := Lib.hid hg
              have HW' : Hid (Wps w0 B (.slice (some ⟨gw, 0, none⟩) i cw) (kws (kn ks) i)) := Lib.hid (by rw [hw0]; exact HW.out)
              have HV' : Hid (w0.ownsRow B 40 1 (.slice (some ⟨gw, 0, none⟩) i cw) i vals) := Lib.hid (by rw [hw0]; exact HV.out)
              have HGE' : Hid (w0.heap.size ≤ gu) := Lib.hid (by rw [hw0]; exact HGE.out)
              have HBR' : Hid (B ≤ w0.heap.size) := Lib.hid (by rw [hw0]; exact HBR.out)
              have HG' : Hid (w2.grownBy w0 none) := Lib.hid (by rw [hw0]; exact HG.out)
              obtain ⟨i0, hi0, hz0, hz1, hz2⟩ := info_parts Try.info28
              have hlt' := HLT.out
              have k1 : i + 1 ≤ maxLen := by unfold maxLen; omega
              have k2 : (i + 1) * 24 ≤ 140737488355328 := by omega
              clear hT hg hj4 hj hlt' hw0
              go_wp2_with (first
                | (refine wpList_one rfl _ rfl (some ⟨gu, 0, none⟩) 4 4 rfl ?_
                   intro w5 hb5 hg5 hz5
                   obtain ⟨go, hgo⟩ : ∃ g, g = wr.heap.size := ⟨_, rfl⟩
                   rw [← hgo] at hb5 ⊢
                   have HB5 := Lib.hid hb5
                   have HG5 := Lib.hid hg5
                   have HZ5 := Lib.hid hz5
                   clear hb5 hg5 hz5 hgo)
                | (at_builtin
                   refine wpList_append_lies _ rfl _ _ _ rfl B 40 i0 _ 1 24 Try.underlying41 hi0 hz0 hz1 hz2 rfl Nat.one_pos (.slice (some ⟨gw, 0, none⟩) i cw) i vals rfl (HV'.out.kept (World.grownBy.trans HGF.out HG5.out) (.inr (by simp [Value.ownBlock]))) ⟨go, 0, none⟩ 1 1 [.slice (some ⟨gu, 0, none⟩) 4 4] rfl rfl (World.news_of_block HB5.out) (one_slice _ _ _) Nat.one_pos k1 k2 (Nat.le_trans HBR'.out (World.grownBy.trans HGF.out HG5.out).size) w5.heap.size rfl ?_
                   intro g' cap w6 hown hg6 hat hlt6
                   have hpush := Wps.push (v := .slice (some ⟨gw, 0, none⟩) i cw) (ws := kws (kn ks) i) (y := nw (kn ks) (kws (kn ks) i) i) (gt := gu) (c := 4) HW'.out (by rw [HLEN.out]; exact HV'.out) HGF.out HGE'.out HBR'.out HC4.out HTF.out HG5.out HZ5.out (by rw [HLEN.out]; exact hown) hg6 hat
                   rw [HLEN.out] at hpush
                   have HP := Lib.hid hpush
                   have HG6 : Hid (w2.grownBy w6 none) := Lib.hid (World.grownBy.andThen (World.grownBy.trans HG'.out (World.grownBy.trans HGF.out HG5.out)) hg6 (fun j hj => .inl (Nat.le_trans HBE.out (HV'.out.lt j hj).1)))
                   clear hown hg6 hat hlt6 hpush))
              go_roundw
              case rel => exact ⟨i + 1, by have := HLT.out; omega, by go_num, by rw [HPN.out], HP.out, HG6.out⟩
              case measure => have := HLT.out; simp [intOf]; omega
        · have b0 : ((i : Int) % 8 == 0) = false := by rw [beq_eq_false_iff_ne]; omega
          have b4 : ((i : Int) % 8 == 4) = false := by rw [beq_eq_false_iff_ne]; omega
          go_wp2_with (at_builtin; refine wpList_append_lies _ rfl _ _ _ rfl wr.heap.size 3 i3 _ 1 8 Try.underlying40 hi3 hy0 hy1 hy2 rfl Nat.one_pos (.slice none 0 0) 0 [] rfl (World.ownsRow_nil wr wr.heap.size 3 1) ⟨g1, 0, none⟩ 4 cc1 (ints [x0, x1, x2, x3]) rfl rfl (T4.news HR5.out) (ints_one _) (by omega) k0 k00 (Nat.le_refl _) wr.heap.size rfl ?_; intro gt c w3 hown hg3 hat hlt3; have hT := T4.own (B := wr.heap.size) hown; have HT := Lib.hid hT.1; have HC := Lib.hid hT.2; have HG3 : Hid (wr.grownBy w3 none) := Lib.hid hg3; have HGT : Hid (wr.heap.size ≤ gt) := (by rcases hat with h | h; exact absurd h (by simp [Value.ownBlock]); exact Lib.hid (Nat.le_of_eq h.symm)); clear hown hg3 hat hlt3 hT)
          obtain ⟨y0, hy0'⟩ : ∃ y, y = x0 := ⟨_, rfl⟩
          obtain ⟨y1, hy1'⟩ : ∃ y, y = x1 := ⟨_, rfl⟩
          obtain ⟨y2, hy2'⟩ : ∃ y, y = x2 := ⟨_, rfl⟩
          obtain ⟨y3, hy3'⟩ : ∃ y, y = x3 := ⟨_, rfl⟩
          have HY : Hid (y0 = tw (kws (kn ks) i) i 0 ∧ y1 = tw (kws (kn ks) i) i 1 ∧ y2 = tw (kws (kn ks) i) i 2 ∧ y3 = tw (kws (kn ks) i) i 3) := Lib.hid (by
            rw [HT0.out 0, HT0.out 1, HT0.out 2, HT0.out 3]
            simp only [if_neg hr, if_neg hr4]
            exact ⟨by rw [hy0', HX0.out], by rw [hy1', HX1.out], by rw [hy2', HX2.out], by rw [hy3', HX3.out]⟩)
          have HPN : Hid (pw ((i + 1 - 1) / 8) = pw q) := Lib.hid (by rw [HQ.out]; congr 1; omega)
          have HTT : Hid (T4 w3 gt [y0, y1, y2, y3]) := Lib.hid (by rw [hy0', hy1', hy2', hy3']; exact HT.out)
          have HGA := HG3
          have HGE := HGT
          clear hy0' hy1' hy2' hy3' HT0 hr hr4 HT HG3 HGT
          clear b0 b4
          go_loopw [9] (fun v wx => ∃ j : Nat, j ≤ 4 ∧ v = .int .i64 (j : Int) ∧ T4 wx gt (pl 4 (fun r => tw (kws (kn ks) i) i r ^^^ wb (kws (kn ks) i) (i - 8) r) (tw (kws (kn ks) i) i) j) ∧ w0.grownBy wx none) (fun v _ => 4 - (intOf v).toNat)
          case atStart => exact ⟨0, by omega, rfl, by rw [pl_old, ← HY.out.1, ← HY.out.2.1, ← HY.out.2.2.1, ← HY.out.2.2.2]; exact HTT.out, by rw [HW0.out]; exact HGA.out⟩
          case round =>
            clear HTT HGA
            obtain ⟨j, hj, rfl, hT, hg⟩ := hrel
            by_cases hj4 : j < 4
            · have e0 := hT.get j (by rw [pl_length]; exact hj4)
              rw [pl_get _ _ _ _ j hj4, if_neg (Nat.lt_irrefl j)] at e0
              have hf := hT.frozen j
              have h5 := HS5.out
              have h8' := H8.out
              rw [word_list ks i (i - 8) (by omega)] at h5
              have e1 : wr.cell? ⟨g8, j, none⟩ = some (.int .i64 ((wb (kws (kn ks) i) (i - 8) j : Nat) : Int)) := by
                have h := h5.get j hj4
                have hw0 := HW0.out
                have h' := hg.cell (a := ⟨g8, j, none⟩) (by rw [hw0]; exact h) (by simp)
                rw [h']
                obtain rfl | rfl | rfl | rfl : j = 0 ∨ j = 1 ∨ j = 2 ∨ j = 3 := by omega
                all_goals rfl
              have e2 := hg.cell (by rw [HW0.out]; exact HS1.out) (by simp)
              obtain ⟨p8, hp8⟩ : ∃ p, p = i - 8 := ⟨_, rfl⟩
              rw [← hp8] at e2
              have d4 : (i : Int) - 8 = (p8 : Int) := by omega
              have d5 := i64_keep p8 (by omega)
              have d6 : (p8 : Int) < (i : Int) := by omega
              have d7 : (j : Int) < 4 := by omega
              have hx := xor_small _ _ (HTW.out j hj4) (HO8.out j)
              have hset := hT.set j (tw (kws (kn ks) i) i j ^^^ wb (kws (kn ks) i) (i - 8) j) (by rw [pl_length]; exact hj4)
              rw [pl_set 4 (fun r => tw (kws (kn ks) i) i r ^^^ wb (kws (kn ks) i) (i - 8) r) (tw (kws (kn ks) i) i) j] at hset
              obtain ⟨z, hz⟩ : ∃ z, z = tw (kws (kn ks) i) i j ^^^ wb (kws (kn ks) i) (i - 8) j := ⟨_, rfl⟩
              rw [← hz] at hx hset
              have HSET := Lib.hid hset
              have HGG := Lib.hid hg
              clear hset hz hg hT h5 h8' hp8
              generalize tw (kws (kn ks) i) i j = t at e0 hx
              generalize wb (kws (kn ks) i) (i - 8) j = o at e1 hx
              go_wp2_with (fail)
              refine wp_region_still_tail 16 (by kernel_rfl) (by kernel_rfl) ?_
              change wpStill _ _ wr.drew (fun a' => wpList _ _ _ _ a' wr.drew) _ _
              simp only [List.take_succ_cons, List.take_zero, List.drop_succ_cons, List.drop_zero]
              repeat still_step
              refine wpStill_nil ?_
              go_wp2
              go_roundw
              case rel => exact ⟨j + 1, by omega, by go_num, HSET.out.keep rfl, World.grownBy.andThen (grown_drew HGG.out) (grown_set _ _ _ _) (by rintro _ ⟨⟩; rw [HW0.out]; exact .inl HGE.out)⟩
              case measure => simp [intOf]; omega
            · have ej : j = 4 := by omega
              subst ej
              have hw0 := HW0.out
              rw [← nw_late ks i H8.out] at hT
              have HTF := Lib.hid hT
              have HGF : Hid (w0.grownBy wr none) := Lib.hid hg
              have HW' : Hid (Wps w0 B (.slice (some ⟨gw, 0, none⟩) i cw) (kws (kn ks) i)) := Lib.hid (by rw [hw0]; exact HW.out)
              have HV' : Hid (w0.ownsRow B 40 1 (.slice (some ⟨gw, 0, none⟩) i cw) i vals) := Lib.hid (by rw [hw0]; exact HV.out)
              have HGE' : Hid (w0.heap.size ≤ gt) := Lib.hid (by rw [hw0]; exact HGE.out)
              have HBR' : Hid (B ≤ w0.heap.size) := Lib.hid (by rw [hw0]; exact HBR.out)
              have HG' : Hid (w2.grownBy w0 none) := Lib.hid (by rw [hw0]; exact HG.out)
              obtain ⟨i0, hi0, hz0, hz1, hz2⟩ := info_parts Try.info28
              have hlt' := HLT.out
              have k1 : i + 1 ≤ maxLen := by unfold maxLen; omega
              have k2 : (i + 1) * 24 ≤ 140737488355328 := by omega
              clear hT hg hj4 hj hlt' hw0
              go_wp2_with (first
                | (refine wpList_one rfl _ rfl (some ⟨gt, 0, none⟩) 4 c rfl ?_
                   intro w5 hb5 hg5 hz5
                   obtain ⟨go, hgo⟩ : ∃ g, g = wr.heap.size := ⟨_, rfl⟩
                   rw [← hgo] at hb5 ⊢
                   have HB5 := Lib.hid hb5
                   have HG5 := Lib.hid hg5
                   have HZ5 := Lib.hid hz5
                   clear hb5 hg5 hz5 hgo)
                | (at_builtin
                   refine wpList_append_lies _ rfl _ _ _ rfl B 40 i0 _ 1 24 Try.underlying41 hi0 hz0 hz1 hz2 rfl Nat.one_pos (.slice (some ⟨gw, 0, none⟩) i cw) i vals rfl (HV'.out.kept (World.grownBy.trans HGF.out HG5.out) (.inr (by simp [Value.ownBlock]))) ⟨go, 0, none⟩ 1 1 [.slice (some ⟨gt, 0, none⟩) 4 c] rfl rfl (World.news_of_block HB5.out) (one_slice _ _ _) Nat.one_pos k1 k2 (Nat.le_trans HBR'.out (World.grownBy.trans HGF.out HG5.out).size) w5.heap.size rfl ?_
                   intro g' cap w6 hown hg6 hat hlt6
                   have hpush := Wps.push (v := .slice (some ⟨gw, 0, none⟩) i cw) (ws := kws (kn ks) i) (y := nw (kn ks) (kws (kn ks) i) i) (gt := gt) (c := c) HW'.out (by rw [HLEN.out]; exact HV'.out) HGF.out HGE'.out HBR'.out HC.out HTF.out HG5.out HZ5.out (by rw [HLEN.out]; exact hown) hg6 hat
                   rw [HLEN.out] at hpush
                   have HP := Lib.hid hpush
                   have HG6 : Hid (w2.grownBy w6 none) := Lib.hid (World.grownBy.andThen (World.grownBy.trans HG'.out (World.grownBy.trans HGF.out HG5.out)) hg6 (fun j hj => .inl (Nat.le_trans HBE.out (HV'.out.lt j hj).1)))
                   clear hown hg6 hat hlt6 hpush))
              go_roundw
              case rel => exact ⟨i + 1, by have := HLT.out; omega, by go_num, by rw [HPN.out], HP.out, HG6.out⟩
              case measure => have := HLT.out; simp [intOf]; omega
    · have ei : i = 60 := by omega
      subst ei
      have hwk := HW.out.weak HWB.out
      have hgk := World.grownBy.trans HG2.out HG.out
      clear hlt hi
      go_wp2
      go_ret
      exact ⟨u5, rfl, hwk, hgk⟩
end Go.Proofs.Ytngfldlfoniklaa
