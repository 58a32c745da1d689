/- The words of a key are laid. Conditions: the table of S lies in the cipher's block. A new cipher. Conditions: none. -/
import Derived.Test.YtkbffponemihoaaGreatDoorCf
import Derived.BigRegion
namespace Go.Proofs.YtkbffponemihoaaGreatDoor.C
open Go.RowKit
/-- A key's bytes. -/
def k32 (k : Fin 32 → UInt8) : List UInt8 := (List.finRange 32).map k
theorem k32_length (k : Fin 32 → UInt8) : (k32 k).length = 32 := by simp [k32]
theorem run_box22 (w : World) (k : Fin 32 → UInt8) : (Instr.box 22 (.agg (u8s (k32 k)).toArray)).run Tryz.prog w = .ok (.pointer (some ⟨w.heap.size, 0, none⟩)) (w.alloc (.cells (u8s (k32 k)).toArray 22)) := by kernel_rfl
theorem run_alloc52 (w : World) : (Instr.alloc 124 true (.tuple #[])).run Tryz.prog w = .ok (.pointer (some ⟨w.heap.size, 0, none⟩)) (w.alloc (.cells (u8s [0, 0, 0, 0]).toArray 124)) := by kernel_rfl
section
variable {w : World} {ops : Array Oper} {rest : List Oper} {o : Oper} {a : Act} {Q : Exit → Act → World → Prop}
theorem wpList_box22 (hgd : o.guard = none) (x : Operand) (k : Fin 32 → UInt8) (ho : o.op = .box 22 x) (hx : a.eval x = .agg (u8s (k32 k)).toArray)
    (h : ∀ w', Blk w' w.heap.size 22 (u8s (k32 k)) → w.grownBy w' none → w'.heap.size = w.heap.size + 1 → wpList Tryz.prog ops Q rest (a.put o.dst (.pointer (some ⟨w.heap.size, 0, none⟩))) w') : wpList Tryz.prog ops Q (o :: rest) a w := by
  refine wpList_plain hgd fun K hK => ?_
  have hrun := run_box22 w k
  generalize u8s (k32 k) = z at hrun h hx
  unfold Oper.wp
  simp only [execOp, ho, hx, Sem.run_bind, hrun, Result.andThen_ok, Sem.run_pure]
  exact hK _ _ (h _ (Blk.of_alloc w _ 22) (World.grownBy_alloc w _ none) (World.size_alloc w _))
theorem wpList_alloc52 (hgd : o.guard = none) (ho : o.op = .alloc 124)
    (h : ∀ w', Blk w' w.heap.size 124 (u8s [0, 0, 0, 0]) → w.grownBy w' none → w'.heap.size = w.heap.size + 1 → wpList Tryz.prog ops Q rest (a.put o.dst (.pointer (some ⟨w.heap.size, 0, none⟩))) w') : wpList Tryz.prog ops Q (o :: rest) a w := by
  refine wpList_plain hgd fun K hK => ?_
  have hrun := run_alloc52 w
  generalize u8s [0, 0, 0, 0] = z at hrun h
  unfold Oper.wp
  simp only [execOp, ho, Sem.run_bind, hrun, Result.andThen_ok, Sem.run_pure]
  exact hK _ _ (h _ (Blk.of_alloc w _ 124) (World.grownBy_alloc w _ none) (World.size_alloc w _))
end
theorem fl_at (L : Nat) (f : Nat → UInt8) (n j : Nat) (hL : j < L) : (fl L f n)[j]? = some (if j < n then f j else 0) := by
  unfold fl
  rw [List.getElem?_map, List.getElem?_range hL]
  rfl
theorem lay_first (ks : List UInt8) (h : ks.length = 32) (f : Nat → UInt8) : lay ks (fl 240 f 0) = fl 240 (kf ks) 32 := by
  apply List.ext_getElem?
  intro j
  by_cases hj : j < 240
  · rw [fl_at _ _ _ _ hj]
    unfold lay
    by_cases h32 : j < 32
    · rw [if_pos h32, List.getElem?_append_left (by rw [List.length_take, fl_length]; omega), List.getElem?_take, if_pos (by rw [fl_length]; exact hj), kf_first ks j h32, List.getD_eq_getElem?_getD, List.getElem?_eq_getElem (by omega)]
      rfl
    · rw [if_neg h32, List.getElem?_append_right (by rw [List.length_take]; omega), List.length_take, fl_length, List.getElem?_drop, fl_at _ _ _ _ (by omega)]
      rfl
  · rw [List.getElem?_eq_none (by rw [lay_length, fl_length]; omega), List.getElem?_eq_none (by rw [fl_length]; omega)]
/-- While words are laid. -/
def Kl (W : World) (g : Nat) (B ks : List UInt8) (n : Nat) (V : World) : Prop := Blk V g 107 (cph (tabS 256) B (fl 240 (kf ks) n)) ∧ W.grownBy V (some g)
theorem byt_keys {w : World} {g n a : Nat} {B : List UInt8} {f : Nat → UInt8} (h : Blk w g 107 (cph (tabS 256) B (fl 240 f n))) (hB : B.length = 256) (ha : a + 4 ≤ n) (hn : n ≤ 240) : Byt w (fun b => b = g) (some ⟨g, 512 + a, none⟩) [f a, f (a + 1), f (a + 2), f (a + 3)] := fun j hj => by
  have hj4 : j < 4 := hj
  refine ⟨_, rfl, rfl, ?_⟩
  have h1 := h.get (512 + (a + j)) _ (cph_getK (tabS 256) B (fl 240 f n) (a + j) (tabS_length _) hB (by rw [fl_length]; omega))
  rw [fl_get 240 f n (a + j) (by omega) (by omega), ← Nat.add_assoc] at h1
  rw [Addr.add_lit, h1]
  obtain rfl | rfl | rfl | rfl : j = 0 ∨ j = 1 ∨ j = 2 ∨ j = 3 := by omega
  all_goals rfl
theorem Kl.drew {W V : World} {g n : Nat} {B ks : List UInt8} (h : Kl W g B ks n V) : Kl W g B ks n V.drew := ⟨h.1.keep rfl, grown_drew h.2⟩
theorem Kl.put {W V : World} {g n : Nat} {B ks : List UInt8} (h : Kl W g B ks n V) (hB : B.length = 256) : Kl W g B ks (n + 1) (V.setCell ⟨g, 512 + n, none⟩ (.int .u8 ((kf ks n).toNat : Int))) := by
  refine ⟨?_, World.grownBy.trans h.2 (grown_set _ _ _ _)⟩
  have h1 := h.1.set (512 + n) (.int .u8 ((kf ks n).toNat : Int))
  rw [cph_setK _ _ _ _ _ (tabS_length _) hB, fl_set] at h1
  exact h1
theorem Kl.far {W V V' : World} {g n gt : Nat} {B ks : List UInt8} (h : Kl W g B ks n V) (hg : V.grownBy V' (some gt)) (h1 : g ≠ gt) (h2 : W.heap.size ≤ gt) : Kl W g B ks n V' :=
  ⟨h.1.grown hg (fun e => h1 (Option.some.inj e)), World.grownBy.andThen h.2 hg (by rintro _ ⟨⟩; exact .inl h2)⟩
theorem idx52 (y0 y1 y2 y3 : UInt8) (j : Nat) (h : j < 4) (w : World) : (Instr.index 124 (.agg (u8s [y0, y1, y2, y3]).toArray) (.int .i64 (j : Int))).run Tryz.prog w = .ok (.int .u8 (([y0, y1, y2, y3].getD j 0).toNat : Int)) w := by
  obtain rfl | rfl | rfl | rfl : j = 0 ∨ j = 1 ∨ j = 2 ∨ j = 3 := by omega
  all_goals kernel_rfl
theorem size52 : (Tryz.prog.info? 124).map (·.size) = some 4 := by kernel_rfl
theorem range_blk {w : World} {g : Nat} {ty : TypeId} {vs : List Value} (h : Blk w g ty vs) : w.rangeAt g 0 vs := fun j v hv => by
  have := h.get j v hv
  simpa using this
theorem four_get {P : Nat → UInt8 → Prop} {y0 y1 y2 y3 : UInt8} (h : P 0 y0 ∧ P 1 y1 ∧ P 2 y2 ∧ P 3 y3) (j : Nat) (hj : j < 4) : P j ([y0, y1, y2, y3].getD j 0) := by
  obtain rfl | rfl | rfl | rfl : j = 0 ∨ j = 1 ∨ j = 2 ∨ j = 3 := by omega
  · exact h.1
  · exact h.2.1
  · exact h.2.2.1
  · exact h.2.2.2
set_option maxRecDepth 100000 in
set_option maxHeartbeats 3200000 in
theorem lay_any {W : World} {g : Nat} {B : List UInt8} (hb : Blk W g 107 (cph (tabS 256) B (fl 240 px 0))) (hB : B.length = 256) (k : Fin 32 → UInt8) :
    Calls Tryz.prog 66 #[.pointer (some ⟨g, 0, none⟩), .agg (u8s (k32 k)).toArray] W fun e w' => e = .returned (.tuple #[]) ∧ Blk w' g 107 (cph (tabS 256) B (fl 240 (kf (k32 k)) 240)) ∧ W.grownBy w' (some g) := by
  have hgl := hb.lt
  obtain ⟨ks, hks⟩ : ∃ ks, ks = k32 k := ⟨_, rfl⟩
  rw [← hks]
  have HKS := Lib.hid hks
  have hkl : ks.length = 32 := by rw [hks, k32_length]
  have HKL := Lib.hid hkl
  have HB := Lib.hid hb
  have HBL := Lib.hid hB
  clear hb hB hks hkl
  go_enter Tryz.func66, Tryz.ntmps66
  go_wp2_with (refine wpList_box22 rfl _ k rfl (by rw [← HKS.out]; rfl) ?_)
  intro w2 hb2 hg2 hz2
  obtain ⟨gk, hgk⟩ : ∃ g, g = W.heap.size := ⟨_, rfl⟩
  rw [← hgk, ← HKS.out] at hb2
  rw [← hgk]
  have n1 : gk ≠ g := by omega
  have HK := Lib.hid hb2
  have HB2 := Lib.hid (HB.out.grown hg2 (by simp))
  have HG2 := Lib.hid hg2
  have HGK := Lib.hid hgk
  clear hb2 hg2 hz2 hgk HB
  go_wp2_with (fail)
  refine wp_region_still_tail 5 (by kernel_rfl) (by kernel_rfl) ?_
  change wpStill _ _ w2.drew (fun a' => wpList _ _ _ _ a' w2.drew) _ _
  simp only [List.take_succ_cons, List.take_zero, List.drop_succ_cons, List.drop_zero]
  repeat still_step
  refine wpStill_nil ?_
  go_wp2_with (refine wpList_copy_blk rfl _ _ rfl g 512 240 240 32 32 (some ⟨gk, 0, none⟩) ks (fl 240 px 0) rfl rfl HKL.out (fl_length _ _ _) 107 (u8s (tabS 256) ++ u8s B) [] (HB2.out.to (by unfold cph; rw [List.append_nil, List.append_assoc])) (by rw [List.length_append, u8s_length, u8s_length, tabS_length, HBL.out]) (fun b => b = gk) (Blk.byt (pre := []) (post := []) (HK.out.to (by simp)) rfl) 32 (by rw [HKL.out, fl_length]; rfl) ?_)
  intro w3 hb3 hg3 hz3
  rw [lay_first ks HKL.out] at hb3
  have hk3 : Kl W g B ks 32 w3 := ⟨hb3, World.grownBy.trans (grown_drew (HG2.out.but _)) hg3⟩
  have HK3 := Lib.hid hk3
  clear hb3 hg3 hz3 hk3 HB2 HG2 HK HKS HKL n1
  go_wp2_with (fail)
  go_loopw [4, 5] (fun p v wr => ∃ i : Nat, 8 ≤ i ∧ i ≤ 60 ∧ v = .int .i64 (i : Int) ∧ p = .int .u8 ((pwb ((i - 1) / 8)).toNat : Int) ∧ Kl W g B ks (4 * i) wr) (fun _ v _ => 60 - (intOf v).toNat)
  case atStart => exact ⟨8, by omega, by omega, rfl, rfl, HK3.out⟩
  case round =>
    clear HK3
    obtain ⟨i, h8, hi, rfl, rfl, hk⟩ := hrel
    by_cases hlt : i < 60
    · obtain ⟨p0, hp0⟩ : ∃ p, p = pwb ((i - 1) / 8) := ⟨_, rfl⟩
      rw [← hp0]
      obtain ⟨a, ha⟩ : ∃ a, a = 4 * i - 4 := ⟨_, rfl⟩
      obtain ⟨e, he⟩ : ∃ e, e = 4 * i := ⟨_, rfl⟩
      have d0 : IntKind.i64.wrap (e : Int) = (e : Int) := i64_keep e (by omega)
      have d1 : (i : Int) * 4 = (e : Int) := by omega
      have d2 : (e : Int) - 4 = (a : Int) := by omega
      have d3 : IntKind.i64.wrap (a : Int) = (a : Int) := i64_keep a (by omega)
      have d4 : (a : Int) ≤ (e : Int) := by omega
      have d5 : (e : Int) ≤ 240 := by omega
      have d6 : e - a = 4 := by omega
      have d7 : ¬ 240 = a := by omega
      have HA := Lib.hid ha
      have HE := Lib.hid he
      have HKK := Lib.hid hk
      have HP0 := Lib.hid hp0
      have HLT := Lib.hid hlt
      have H8 := Lib.hid h8
      clear hk ha he hp0
      go_wp2_with (refine wpList_alloc52 rfl rfl ?_)
      intro w4 hb4 hg4 hz4
      obtain ⟨gt, hgt⟩ : ∃ g, g = wr.heap.size := ⟨_, rfl⟩
      rw [← hgt] at hb4 ⊢
      have m1 : g ≠ gt := by have := HKK.out.2.size; omega
      have m2 : W.heap.size ≤ gt := by have := HKK.out.2.size; omega
      have HM1 := Lib.hid m1
      have HM2 := Lib.hid m2
      have hk4 : Kl W g B ks (4 * i) w4 := ⟨HKK.out.1.grown hg4 (by simp), World.grownBy.trans HKK.out.2 (hg4.but _)⟩
      have HK4 := Lib.hid hk4
      have HB4 := Lib.hid hb4
      have hx4 := byt_keys (a := a) hk4.1 HBL.out (by rw [HA.out]; omega) (by omega)
      have HX4 := Lib.hid hx4
      clear hb4 hg4 hz4 hgt hk4 HKK m1 m2 hx4
      go_wp2_with (fail)
      refine wp_region_still_tail 8 (by kernel_rfl) (by kernel_rfl) ?_
      change wpStill _ _ w4.drew (fun a' => wpList _ _ _ _ a' w4.drew) _ _
      simp only [List.take_succ_cons, List.take_zero, List.drop_succ_cons, List.drop_zero]
      repeat still_step
      refine wpStill_nil ?_
      go_wp2_with (refine wpList_copy_blk rfl _ _ rfl gt 0 4 4 4 (240 - a) (some ⟨g, 512 + a, none⟩) [kf ks a, kf ks (a + 1), kf ks (a + 2), kf ks (a + 3)] [0, 0, 0, 0] rfl rfl rfl rfl 124 [] [] (HB4.out.to (by simp)) rfl (fun b => b = g) (HX4.out.keep (fun _ _ => rfl)) 4 rfl ?_)
      intro w5 hb5 hg5 hz5
      have hb5' : Blk w5 gt 124 (u8s [kf ks a, kf ks (a + 1), kf ks (a + 2), kf ks (a + 3)]) := hb5
      have hk5 : Kl W g B ks (4 * i) w5 := ⟨HK4.out.1.grown (World.grownBy.trans (grown_drew (World.grownBy.refl _ _)) hg5) (fun e => HM1.out (Option.some.inj e)), World.grownBy.andThen HK4.out.2 (World.grownBy.trans (grown_drew (World.grownBy.refl _ _)) hg5) (by rintro _ ⟨⟩; exact .inl HM2.out)⟩
      have HK5 := Lib.hid hk5
      have HB5 := Lib.hid hb5'
      clear hb5 hb5' hg5 hz5 hk5 HK4 HB4 HX4 d3 d4 d5 d6 d7
      have hE0 : 4 * (i - 1) = a := by have := HA.out; omega
      generalize hx0 : kf ks a = x0 at HB5
      generalize hx1 : kf ks (a + 1) = x1 at HB5
      generalize hx2 : kf ks (a + 2) = x2 at HB5
      generalize hx3 : kf ks (a + 3) = x3 at HB5
      have v0 := HB5.out.get 0 _ (u8s_at [x0, x1, x2, x3] 0 (by simp))
      have v1 := HB5.out.get 1 _ (u8s_at [x0, x1, x2, x3] 1 (by simp))
      have v2 := HB5.out.get 2 _ (u8s_at [x0, x1, x2, x3] 2 (by simp))
      have v3 := HB5.out.get 3 _ (u8s_at [x0, x1, x2, x3] 3 (by simp))
      change w5.cell? ⟨gt, 0, none⟩ = some (.int .u8 (x0.toNat : Int)) at v0
      change w5.cell? ⟨gt, 1, none⟩ = some (.int .u8 (x1.toNat : Int)) at v1
      change w5.cell? ⟨gt, 2, none⟩ = some (.int .u8 (x2.toNat : Int)) at v2
      change w5.cell? ⟨gt, 3, none⟩ = some (.int .u8 (x3.toNat : Int)) at v3
      rcases (show i % 8 = 0 ∨ i % 8 = 4 ∨ (i % 8 ≠ 0 ∧ i % 8 ≠ 4) by omega) with hr | hr | ⟨hr, hr4⟩
      · have b0 : ((i : Int) % 8 == 0) = true := by rw [beq_iff_eq]; omega
        have s0 := HK5.out.1.get x0.toNat _ (cph_getS (tabS 256) B (fl 240 (kf ks) (4 * i)) x0.toNat (by rw [tabS_length]; exact x0.toNat_lt))
        rw [tabS_get] at s0
        have l0 : (x0.toNat : Int) < 256 := by have := x0.toNat_lt; omega
        have s1 := HK5.out.1.get x1.toNat _ (cph_getS (tabS 256) B (fl 240 (kf ks) (4 * i)) x1.toNat (by rw [tabS_length]; exact x1.toNat_lt))
        rw [tabS_get] at s1
        have l1 : (x1.toNat : Int) < 256 := by have := x1.toNat_lt; omega
        have s2 := HK5.out.1.get x2.toNat _ (cph_getS (tabS 256) B (fl 240 (kf ks) (4 * i)) x2.toNat (by rw [tabS_length]; exact x2.toNat_lt))
        rw [tabS_get] at s2
        have l2 : (x2.toNat : Int) < 256 := by have := x2.toNat_lt; omega
        have s3 := HK5.out.1.get x3.toNat _ (cph_getS (tabS 256) B (fl 240 (kf ks) (4 * i)) x3.toNat (by rw [tabS_length]; exact x3.toNat_lt))
        rw [tabS_get] at s3
        have l3 : (x3.toNat : Int) < 256 := by have := x3.toNat_lt; omega
        obtain ⟨y0, hy0⟩ : ∃ y, y = sb x1 ^^^ p0 := ⟨_, rfl⟩
        obtain ⟨y1, hy1⟩ : ∃ y, y = sb x2 := ⟨_, rfl⟩
        obtain ⟨y2, hy2⟩ : ∃ y, y = sb x3 := ⟨_, rfl⟩
        obtain ⟨y3, hy3⟩ : ∃ y, y = sb x0 := ⟨_, rfl⟩
        have hxor := b_xor (sb x1) p0
        rw [← hy0] at hxor
        rw [← hy1] at s2
        rw [← hy2] at s3
        rw [← hy3] at s0
        have hq : (i - 1) / 8 = i / 8 - 1 := by omega
        have HY : Hid (y0 = kt ks i 0 ∧ y1 = kt ks i 1 ∧ y2 = kt ks i 2 ∧ y3 = kt ks i 3) := Lib.hid (by
          unfold kt
          simp only [if_pos hr, hE0, ← hq, ← HP0.out, hx1]
          exact ⟨hy0, by rw [hy1, ← hx2]; rfl, by rw [hy2, ← hx3]; rfl, by rw [hy3, ← hx0]; rfl⟩)
        obtain ⟨p1, hp1⟩ : ∃ p, p = xt p0 := ⟨_, rfl⟩
        have hdb := fun V => dbl_any p0 V
        rw [← hp1] at hdb
        have HPN : Hid (pwb ((i + 1 - 1) / 8) = p1) := Lib.hid (by rw [hp1, HP0.out, pwb_next _ (by omega)]; congr 1; omega)
        have HDB := Lib.hid hdb
        generalize sb x1 = z1 at s1 hxor
        clear hy0 hy1 hy2 hy3 hx0 hx1 hx2 hx3 hE0 hq hp1 hdb HP0
        go_wp2_with (fail)
        refine wp_region_still_tail 31 (by kernel_rfl) (by kernel_rfl) ?_
        change wpStill _ _ w5.drew (fun a' => wpList _ _ _ _ a' w5.drew) _ _
        simp only [List.take_succ_cons, List.take_zero, List.drop_succ_cons, List.drop_zero]
        repeat still_step
        refine wpStill_nil ?_
        clear s0 s1 s2 s3 l0 l1 l2 l3 v0 v1 v2 v3 hxor
        go_wp2_with (refine wpList_store_row rfl 124 _ _ rfl gt (u8s [y0, y1, y2, y3]).toArray rfl rfl 124 _ (HB5.out.keep (w' := w5.drew) rfl) size52 rfl (all_oneCell_toArray (u8s_one _)) ?_)
        obtain ⟨w6, hw6⟩ : ∃ w6, w6 = w5.drew.setRow gt (u8s [y0, y1, y2, y3]).toArray := ⟨_, rfl⟩
        have HB6 : Hid (Blk w6 gt 124 (u8s [y0, y1, y2, y3])) := by rw [hw6]; exact Lib.hid (Blk.setRow (HB5.out.keep (w' := w5.drew) rfl))
        have HK6 : Hid (Kl W g B ks (4 * i) w6) := by rw [hw6]; exact Lib.hid (HK5.out.drew.far (grown_setRow _ _ _) HM1.out HM2.out)
        rw [← hw6]
        clear hw6 HB5 HK5
        have hr6 : w6.rangeAt gt 0 (u8s [y0, y1, y2, y3]) := fun j v hv => by
          have := HB6.out.get j v hv
          simpa using this
        go_wp2_with (first
          | (go_at_call 85; with_reducible refine (HDB.out _).mono ?_; rintro _ V ⟨rfl, hV⟩; rw [hV]; clear hV)
          | (refine wpList_load_mid rfl 124 _ rfl gt 0 rfl (u8s [y0, y1, y2, y3]) _ hr6 Tryz.underlying124 rfl size52 ?_))
        clear HDB b0
        clear hr6 HB6
        go_loopw [100] (fun v wx => ∃ j : Nat, j ≤ 4 ∧ v = .int .i64 (j : Int) ∧ Kl W g B ks (4 * i + j) wx) (fun v _ => 4 - (intOf v).toNat)
        case atStart => exact ⟨0, by omega, rfl, HK6.out⟩
        case round =>
          clear HK6
          obtain ⟨j, hj, rfl, hk⟩ := hrel
          by_cases hj4 : j < 4
          · have hyk := four_get (P := fun k y => y = kt ks i k) HY.out j hj4
            have hidx := idx52 y0 y1 y2 y3 j hj4
            have hlt' := HLT.out
            have h8' := H8.out
            have hnext := kf_next ks i j h8' hlt' hj4
            rw [← hyk] at hnext
            generalize [y0, y1, y2, y3].getD j 0 = y at hidx hnext
            obtain ⟨q, hq⟩ : ∃ q, q = 4 * i + j := ⟨_, rfl⟩
            obtain ⟨p, hp⟩ : ∃ p, p = 4 * i + j - 32 := ⟨_, rfl⟩
            rw [← hp, ← hq] at hnext
            rw [← hq] at hk
            have he := HE.out
            have f1 : IntKind.i64.wrap (q : Int) = (q : Int) := i64_keep q (by omega)
            have f2 : (e : Int) + (j : Int) = (q : Int) := by omega
            have f3 : (q : Int) - 32 = (p : Int) := by omega
            have f4 : IntKind.i64.wrap (p : Int) = (p : Int) := i64_keep p (by omega)
            have f5 : (q : Int) < 240 := by omega
            have f6 : (p : Int) < 240 := by omega
            have c1 := hk.1.get (512 + p) _ (cph_getK (tabS 256) B (fl 240 (kf ks) q) p (tabS_length _) HBL.out (by rw [fl_length]; omega))
            rw [fl_get 240 (kf ks) q p (by omega) (by omega)] at c1
            have c2 := hk.1.get (512 + q) _ (cph_getK (tabS 256) B (fl 240 (kf ks) q) q (tabS_length _) HBL.out (by rw [fl_length]; omega))
            generalize (fl 240 (kf ks) q).getD q 0 = old at c2
            have hf := hk.1.frozen (512 + q)
            have hx := b_xor (kf ks p) y
            rw [← hnext] at hx
            have HKP := Lib.hid (Kl.put hk.drew HBL.out)
            have HQ := Lib.hid (show q + 1 = 4 * i + (j + 1) by omega)
            generalize kf ks q = z at hx HKP
            generalize kf ks p = x at hx c1
            clear hk hyk hnext hq hp he hlt' h8'
            go_wp2_with (fail)
            refine wp_region_still_tail 18 (by kernel_rfl) (by kernel_rfl) ?_
            change wpStill _ _ wr.drew (fun a' => wpList _ _ _ _ a' wr.drew) _ _
            simp only [List.take_succ_cons, List.take_zero, List.drop_succ_cons, List.drop_zero]
            repeat still_step
            refine wpStill_nil ?_
            go_wp2
            go_roundw
            case rel => exact ⟨j + 1, by omega, by go_num, by rw [← HQ.out]; exact HKP.out⟩
            case measure => simp [intOf]; omega
          · have ej : j = 4 := by omega
            subst ej
            have HKN : Hid (Kl W g B ks (4 * (i + 1)) wr) := Lib.hid hk
            clear hk hj4 hj
            go_wp2
            go_roundw
            case rel => exact ⟨i + 1, by omega, by omega, by go_num, by rw [HPN.out], HKN.out⟩
            case measure => simp [intOf]; omega
      · have b0 : ((i : Int) % 8 == 0) = false := by rw [beq_eq_false_iff_ne]; omega
        have b4 : ((i : Int) % 8 == 4) = true := by rw [beq_iff_eq]; omega
        have s0 := HK5.out.1.get x0.toNat _ (cph_getS (tabS 256) B (fl 240 (kf ks) (4 * i)) x0.toNat (by rw [tabS_length]; exact x0.toNat_lt))
        rw [tabS_get] at s0
        have l0 : (x0.toNat : Int) < 256 := by have := x0.toNat_lt; omega
        have s1 := HK5.out.1.get x1.toNat _ (cph_getS (tabS 256) B (fl 240 (kf ks) (4 * i)) x1.toNat (by rw [tabS_length]; exact x1.toNat_lt))
        rw [tabS_get] at s1
        have l1 : (x1.toNat : Int) < 256 := by have := x1.toNat_lt; omega
        have s2 := HK5.out.1.get x2.toNat _ (cph_getS (tabS 256) B (fl 240 (kf ks) (4 * i)) x2.toNat (by rw [tabS_length]; exact x2.toNat_lt))
        rw [tabS_get] at s2
        have l2 : (x2.toNat : Int) < 256 := by have := x2.toNat_lt; omega
        have s3 := HK5.out.1.get x3.toNat _ (cph_getS (tabS 256) B (fl 240 (kf ks) (4 * i)) x3.toNat (by rw [tabS_length]; exact x3.toNat_lt))
        rw [tabS_get] at s3
        have l3 : (x3.toNat : Int) < 256 := by have := x3.toNat_lt; omega
        obtain ⟨y0, hy0⟩ : ∃ y, y = sb x0 := ⟨_, rfl⟩
        obtain ⟨y1, hy1⟩ : ∃ y, y = sb x1 := ⟨_, rfl⟩
        obtain ⟨y2, hy2⟩ : ∃ y, y = sb x2 := ⟨_, rfl⟩
        obtain ⟨y3, hy3⟩ : ∃ y, y = sb x3 := ⟨_, rfl⟩
        rw [← hy0] at s0
        rw [← hy1] at s1
        rw [← hy2] at s2
        rw [← hy3] at s3
        have hr0 : ¬ i % 8 = 0 := by omega
        have HY : Hid (y0 = kt ks i 0 ∧ y1 = kt ks i 1 ∧ y2 = kt ks i 2 ∧ y3 = kt ks i 3) := Lib.hid (by
          unfold kt
          simp only [if_neg hr0, if_pos hr, hE0]
          exact ⟨by rw [hy0, ← hx0]; rfl, by rw [hy1, ← hx1], by rw [hy2, ← hx2], by rw [hy3, ← hx3]⟩)
        have HPN : Hid (pwb ((i + 1 - 1) / 8) = p0) := Lib.hid (by rw [HP0.out]; congr 1; omega)
        clear hy0 hy1 hy2 hy3 hx0 hx1 hx2 hx3 hE0 HP0 hr0
        go_wp2_with (fail)
        refine wp_region_still_tail 29 (by kernel_rfl) (by kernel_rfl) ?_
        change wpStill _ _ w5.drew (fun a' => wpList _ _ _ _ a' w5.drew) _ _
        simp only [List.take_succ_cons, List.take_zero, List.drop_succ_cons, List.drop_zero]
        repeat still_step
        refine wpStill_nil ?_
        clear s0 s1 s2 s3 l0 l1 l2 l3 v0 v1 v2 v3
        go_wp2_with (first
          | (refine wpList_store_row rfl 124 _ _ rfl gt (u8s [y0, y1, y2, y3]).toArray rfl rfl 124 _ (HB5.out.keep (w' := w5.drew) rfl) size52 rfl (all_oneCell_toArray (u8s_one _)) ?_
             obtain ⟨w6, hw6⟩ : ∃ w6, w6 = w5.drew.setRow gt (u8s [y0, y1, y2, y3]).toArray := ⟨_, rfl⟩
             have HB6 : Hid (Blk w6 gt 124 (u8s [y0, y1, y2, y3])) := by rw [hw6]; exact Lib.hid (Blk.setRow (HB5.out.keep (w' := w5.drew) rfl))
             have HK6 : Hid (Kl W g B ks (4 * i) w6) := by rw [hw6]; exact Lib.hid (HK5.out.drew.far (grown_setRow _ _ _) HM1.out HM2.out)
             rw [← hw6]
             clear hw6 HB5 HK5)
          | (refine wpList_load_mid rfl 124 _ rfl gt 0 rfl (u8s [y0, y1, y2, y3]) _ (range_blk HB6.out) Tryz.underlying124 rfl size52 ?_))
        have hr6 : True := trivial
        clear b0 b4
        clear hr6 HB6
        go_loopw [100] (fun v wx => ∃ j : Nat, j ≤ 4 ∧ v = .int .i64 (j : Int) ∧ Kl W g B ks (4 * i + j) wx) (fun v _ => 4 - (intOf v).toNat)
        case atStart => exact ⟨0, by omega, rfl, HK6.out⟩
        case round =>
          clear HK6
          obtain ⟨j, hj, rfl, hk⟩ := hrel
          by_cases hj4 : j < 4
          · have hyk := four_get (P := fun k y => y = kt ks i k) HY.out j hj4
            have hidx := idx52 y0 y1 y2 y3 j hj4
            have hlt' := HLT.out
            have h8' := H8.out
            have hnext := kf_next ks i j h8' hlt' hj4
            rw [← hyk] at hnext
            generalize [y0, y1, y2, y3].getD j 0 = y at hidx hnext
            obtain ⟨q, hq⟩ : ∃ q, q = 4 * i + j := ⟨_, rfl⟩
            obtain ⟨p, hp⟩ : ∃ p, p = 4 * i + j - 32 := ⟨_, rfl⟩
            rw [← hp, ← hq] at hnext
            rw [← hq] at hk
            have he := HE.out
            have f1 : IntKind.i64.wrap (q : Int) = (q : Int) := i64_keep q (by omega)
            have f2 : (e : Int) + (j : Int) = (q : Int) := by omega
            have f3 : (q : Int) - 32 = (p : Int) := by omega
            have f4 : IntKind.i64.wrap (p : Int) = (p : Int) := i64_keep p (by omega)
            have f5 : (q : Int) < 240 := by omega
            have f6 : (p : Int) < 240 := by omega
            have c1 := hk.1.get (512 + p) _ (cph_getK (tabS 256) B (fl 240 (kf ks) q) p (tabS_length _) HBL.out (by rw [fl_length]; omega))
            rw [fl_get 240 (kf ks) q p (by omega) (by omega)] at c1
            have c2 := hk.1.get (512 + q) _ (cph_getK (tabS 256) B (fl 240 (kf ks) q) q (tabS_length _) HBL.out (by rw [fl_length]; omega))
            generalize (fl 240 (kf ks) q).getD q 0 = old at c2
            have hf := hk.1.frozen (512 + q)
            have hx := b_xor (kf ks p) y
            rw [← hnext] at hx
            have HKP := Lib.hid (Kl.put hk.drew HBL.out)
            have HQ := Lib.hid (show q + 1 = 4 * i + (j + 1) by omega)
            generalize kf ks q = z at hx HKP
            generalize kf ks p = x at hx c1
            clear hk hyk hnext hq hp he hlt' h8'
            go_wp2_with (fail)
            refine wp_region_still_tail 18 (by kernel_rfl) (by kernel_rfl) ?_
            change wpStill _ _ wr.drew (fun a' => wpList _ _ _ _ a' wr.drew) _ _
            simp only [List.take_succ_cons, List.take_zero, List.drop_succ_cons, List.drop_zero]
            repeat still_step
            refine wpStill_nil ?_
            go_wp2
            go_roundw
            case rel => exact ⟨j + 1, by omega, by go_num, by rw [← HQ.out]; exact HKP.out⟩
            case measure => simp [intOf]; omega
          · have ej : j = 4 := by omega
            subst ej
            have HKN : Hid (Kl W g B ks (4 * (i + 1)) wr) := Lib.hid hk
            clear hk hj4 hj
            go_wp2
            go_roundw
            case rel => exact ⟨i + 1, by omega, by omega, by go_num, by rw [HPN.out], HKN.out⟩
            case measure => simp [intOf]; omega
      · have b0 : ((i : Int) % 8 == 0) = false := by rw [beq_eq_false_iff_ne]; omega
        have b4 : ((i : Int) % 8 == 4) = false := by rw [beq_eq_false_iff_ne]; omega
        obtain ⟨y0, hy0⟩ : ∃ y, y = x0 := ⟨_, rfl⟩
        obtain ⟨y1, hy1⟩ : ∃ y, y = x1 := ⟨_, rfl⟩
        obtain ⟨y2, hy2⟩ : ∃ y, y = x2 := ⟨_, rfl⟩
        obtain ⟨y3, hy3⟩ : ∃ y, y = x3 := ⟨_, rfl⟩
        rw [← hy0, ← hy1, ← hy2, ← hy3] at HB5
        have HY : Hid (y0 = kt ks i 0 ∧ y1 = kt ks i 1 ∧ y2 = kt ks i 2 ∧ y3 = kt ks i 3) := Lib.hid (by
          unfold kt
          simp only [if_neg hr, if_neg hr4, hE0]
          exact ⟨by rw [hy0, ← hx0]; rfl, by rw [hy1, ← hx1], by rw [hy2, ← hx2], by rw [hy3, ← hx3]⟩)
        have HPN : Hid (pwb ((i + 1 - 1) / 8) = p0) := Lib.hid (by rw [HP0.out]; congr 1; omega)
        clear hy0 hy1 hy2 hy3 hx0 hx1 hx2 hx3 hE0 HP0 v0 v1 v2 v3
        obtain ⟨w6, hw6⟩ : ∃ w6, w6 = w5 := ⟨_, rfl⟩
        have HB6 := HB5
        have HK6 := HK5
        rw [← hw6] at HB6 HK6 ⊢
        clear hw6 HB5 HK5
        have hr6 : w6.rangeAt gt 0 (u8s [y0, y1, y2, y3]) := fun j v hv => by
          have := HB6.out.get j v hv
          simpa using this
        go_wp2_with (refine wpList_load_mid rfl 124 _ rfl gt 0 rfl (u8s [y0, y1, y2, y3]) _ hr6 Tryz.underlying124 rfl size52 ?_)
        clear b0 b4
        clear hr6 HB6
        go_loopw [100] (fun v wx => ∃ j : Nat, j ≤ 4 ∧ v = .int .i64 (j : Int) ∧ Kl W g B ks (4 * i + j) wx) (fun v _ => 4 - (intOf v).toNat)
        case atStart => exact ⟨0, by omega, rfl, HK6.out⟩
        case round =>
          clear HK6
          obtain ⟨j, hj, rfl, hk⟩ := hrel
          by_cases hj4 : j < 4
          · have hyk := four_get (P := fun k y => y = kt ks i k) HY.out j hj4
            have hidx := idx52 y0 y1 y2 y3 j hj4
            have hlt' := HLT.out
            have h8' := H8.out
            have hnext := kf_next ks i j h8' hlt' hj4
            rw [← hyk] at hnext
            generalize [y0, y1, y2, y3].getD j 0 = y at hidx hnext
            obtain ⟨q, hq⟩ : ∃ q, q = 4 * i + j := ⟨_, rfl⟩
            obtain ⟨p, hp⟩ : ∃ p, p = 4 * i + j - 32 := ⟨_, rfl⟩
            rw [← hp, ← hq] at hnext
            rw [← hq] at hk
            have he := HE.out
            have f1 : IntKind.i64.wrap (q : Int) = (q : Int) := i64_keep q (by omega)
            have f2 : (e : Int) + (j : Int) = (q : Int) := by omega
            have f3 : (q : Int) - 32 = (p : Int) := by omega
            have f4 : IntKind.i64.wrap (p : Int) = (p : Int) := i64_keep p (by omega)
            have f5 : (q : Int) < 240 := by omega
            have f6 : (p : Int) < 240 := by omega
            have c1 := hk.1.get (512 + p) _ (cph_getK (tabS 256) B (fl 240 (kf ks) q) p (tabS_length _) HBL.out (by rw [fl_length]; omega))
            rw [fl_get 240 (kf ks) q p (by omega) (by omega)] at c1
            have c2 := hk.1.get (512 + q) _ (cph_getK (tabS 256) B (fl 240 (kf ks) q) q (tabS_length _) HBL.out (by rw [fl_length]; omega))
            generalize (fl 240 (kf ks) q).getD q 0 = old at c2
            have hf := hk.1.frozen (512 + q)
            have hx := b_xor (kf ks p) y
            rw [← hnext] at hx
            have HKP := Lib.hid (Kl.put hk.drew HBL.out)
            have HQ := Lib.hid (show q + 1 = 4 * i + (j + 1) by omega)
            generalize kf ks q = z at hx HKP
            generalize kf ks p = x at hx c1
            clear hk hyk hnext hq hp he hlt' h8'
            go_wp2_with (fail)
            refine wp_region_still_tail 18 (by kernel_rfl) (by kernel_rfl) ?_
            change wpStill _ _ wr.drew (fun a' => wpList _ _ _ _ a' wr.drew) _ _
            simp only [List.take_succ_cons, List.take_zero, List.drop_succ_cons, List.drop_zero]
            repeat still_step
            refine wpStill_nil ?_
            go_wp2
            go_roundw
            case rel => exact ⟨j + 1, by omega, by go_num, by rw [← HQ.out]; exact HKP.out⟩
            case measure => simp [intOf]; omega
          · have ej : j = 4 := by omega
            subst ej
            have HKN : Hid (Kl W g B ks (4 * (i + 1)) wr) := Lib.hid hk
            clear hk hj4 hj
            go_wp2
            go_roundw
            case rel => exact ⟨i + 1, by omega, by omega, by go_num, by rw [HPN.out], HKN.out⟩
            case measure => simp [intOf]; omega
    · have ei : i = 60 := by omega
      subst ei
      have HKE : Hid (Kl W g B ks 240 wr) := Lib.hid hk
      clear hk hlt hi h8
      go_wp2
      go_end0
      exact ⟨rfl, HKE.out⟩
open Go.RowKit
def cells39 : Array Value := (cph (tabS 0) (tabB 0) (fl 240 px 0)).toArray
set_option maxRecDepth 100000 in
theorem run_build39 (w : World) : (Instr.build 107 #[]).run Tryz.prog w = .ok (.agg cells39) w := by kernel_rfl
set_option maxRecDepth 100000 in
theorem run_box39 (w : World) : (Instr.box 107 (.agg cells39)).run Tryz.prog w = .ok (.pointer (some ⟨w.heap.size, 0, none⟩)) (w.alloc (.cells cells39 107)) := by kernel_rfl
section
variable {w : World} {ops : Array Oper} {rest : List Oper} {o : Oper} {a : Act} {Q : Exit → Act → World → Prop}
theorem wpList_build39 (hgd : o.guard = none) (ho : o.op = .build 107 #[])
    (h : wpList Tryz.prog ops Q rest (a.put o.dst (.agg cells39)) w) : wpList Tryz.prog ops Q (o :: rest) a w := by
  refine wpList_plain hgd fun K hK => ?_
  have hrun := run_build39 w
  generalize cells39 = z at hrun h
  unfold Oper.wp
  simp only [execOp, ho, List.map_toArray, List.map_nil, Sem.run_bind, hrun, Result.andThen_ok, Sem.run_pure]
  exact hK _ _ h
theorem wpList_box39 (hgd : o.guard = none) (x : Operand) (ho : o.op = .box 107 x) (hx : a.eval x = .agg cells39)
    (h : ∀ w', Blk w' w.heap.size 107 (cph (tabS 0) (tabB 0) (fl 240 px 0)) → w.grownBy w' none → w'.heap.size = w.heap.size + 1 → wpList Tryz.prog ops Q rest (a.put o.dst (.pointer (some ⟨w.heap.size, 0, none⟩))) w') : wpList Tryz.prog ops Q (o :: rest) a w := by
  refine wpList_plain hgd fun K hK => ?_
  have hrun := run_box39 w
  have hb := Blk.of_alloc w cells39 107
  have hb' : Blk (w.alloc (.cells cells39 107)) w.heap.size 107 (cph (tabS 0) (tabB 0) (fl 240 px 0)) := hb
  clear hb
  generalize cells39 = z at hrun hx hb'
  unfold Oper.wp
  simp only [execOp, ho, hx, Sem.run_bind, hrun, Result.andThen_ok, Sem.run_pure]
  exact hK _ _ (h _ hb' (World.grownBy_alloc w _ none) (World.size_alloc w _))
end
theorem size22 : (Tryz.prog.info? 22).map (·.size) = some 32 := by kernel_rfl
set_option maxRecDepth 100000 in
set_option maxHeartbeats 1600000 in
theorem new_any (W : World) (k : Fin 32 → UInt8) :
    Calls Tryz.prog 46 #[.agg (u8s (k32 k)).toArray] W fun e w' => ∃ g, e = .returned (.pointer (some ⟨g, 0, none⟩)) ∧ Blk w' g 107 (cph (tabS 256) (tabB 256) (fl 240 (kf (k32 k)) 240)) ∧ W.grownBy w' none ∧ W.heap.size ≤ g := by
  go_enter Tryz.func46, Tryz.ntmps46
  go_wp2_with (refine wpList_box22 rfl _ k rfl rfl ?_)
  intro w2 hb2 hg2 hz2
  obtain ⟨gk, hgk⟩ : ∃ g, g = W.heap.size := ⟨_, rfl⟩
  rw [← hgk] at hb2 ⊢
  have HB2 := Lib.hid hb2
  have HG2 := Lib.hid hg2
  have HZ2 := Lib.hid hz2
  have HGK := Lib.hid hgk
  clear hb2 hg2 hz2 hgk
  go_wp2_with (first
    | (refine wpList_build39 rfl rfl ?_)
    | (refine wpList_box39 rfl _ rfl rfl ?_
       intro w3 hb3 hg3 hz3
       obtain ⟨g, hg⟩ : ∃ g, g = w2.heap.size := ⟨_, rfl⟩
       rw [← hg] at hb3 ⊢
       have hlt : W.heap.size ≤ g := by have := HZ2.out; omega
       have hne : gk ≠ g := by have h1 := HZ2.out; have h2 := HGK.out; omega
       have HLT := Lib.hid hlt
       have HNE := Lib.hid hne
       have hk3 : Blk w3 gk 22 (u8s (k32 k)) := HB2.out.grown hg3 (by simp)
       have hw3 : W.grownBy w3 none := World.grownBy.trans HG2.out hg3
       clear hg3 hz3 hg hlt hne)
    | (go_at_call 65
       refine (fill_any hb3).mono ?_
       rintro _ w4 ⟨rfl, hb4, hg4⟩
       have hk4 : Blk w4 gk 22 (u8s (k32 k)) := hk3.grown hg4 (fun e => HNE.out (Option.some.inj e))
       have hw4 : W.grownBy w4 none := World.grownBy.andThen hw3 hg4 (by rintro _ ⟨⟩; exact .inl HLT.out)
       clear hb3 hg4 hk3 hw3)
    | (refine wpList_load_mid rfl 22 _ rfl gk 0 rfl (u8s (k32 k)) _ (range_blk hk4) Tryz.underlying22 rfl (by rw [size22, u8s_length, k32_length]) ?_)
    | (go_at_call 66
       refine (lay_any hb4 (tabB_length _) k).mono ?_
       rintro _ w5 ⟨rfl, hb5, hg5⟩
       have hw5 : W.grownBy w5 none := World.grownBy.andThen hw4 hg5 (by rintro _ ⟨⟩; exact .inl HLT.out)
       clear hb4 hg5 hk4 hw4))
  go_ret
  exact ⟨g, rfl, hb5, hw5, HLT.out⟩
end Go.Proofs.YtkbffponemihoaaGreatDoor.C
