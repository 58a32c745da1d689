/- The code's Bytes. Conditions: the number is below p. -/
import Derived.Test.YtoookolekpblhaaDoorBy5
namespace Go.Proofs.YtoookolekpblhaaDoor
open Go.RowKit
set_option maxRecDepth 100000 in
set_option maxHeartbeats 1600000 in
theorem bytes5_any (w : World) (x : Nat) (hx : x < fq) : Calls Tryd.prog 8 #[.agg (ls x).toArray] w fun e w' => e = .returned (.agg (u8s (k32 (bt x))).toArray) ∧ w.grownBy w' none := by
  unfold ls
  have HX := Lib.hid hx
  clear hx
  go_enter Tryd.func8, Tryd.ntmps8
  go_wp2_with (refine wpList_box27 rfl _ (lf x) rfl rfl ?_)
  intro w1 hb1 hg1 hz1
  go_wp2_with (refine wpList_alloc22 rfl rfl ?_)
  intro w2 hb2 hg2 hz2
  go_wp2_with (refine wpList_new41 rfl rfl ?_)
  intro w3 hb3 hg3 hz3
  obtain ⟨ga, hga⟩ : ∃ g, g = w.heap.size := ⟨_, rfl⟩
  obtain ⟨gr, hgr⟩ : ∃ g, g = w.heap.size + 1 := ⟨_, rfl⟩
  obtain ⟨gl, hgl⟩ : ∃ g, g = w.heap.size + 1 + 1 := ⟨_, rfl⟩
  rw [← hgl, ← hgr, ← hga]
  rw [← hga] at hb1
  rw [← hgr] at hb2
  rw [← hgl] at hb3
  have n1 : gr ≠ gl := by omega
  have n2 : gl ≠ gr := by omega
  have HA : Hid (Blk w3 ga 27 (cl (lf x))) := Lib.hid ((hb1.grown hg2 (by simp)).grown hg3 (by simp))
  have HR : Hid (Blk w3 gr 22 (u8s (k32 fun _ => 0))) := Lib.hid (hb2.grown hg3 (by simp))
  have HL : Hid (Blk w3 gl 41 (zc 6)) := Lib.hid hb3
  have HG : Hid (w.grownBy w3 none) := Lib.hid (World.grownBy.trans (World.grownBy.trans hg1 hg2) hg3)
  have HWL : Hid (w.heap.size ≤ gl) := Lib.hid (by omega)
  have HWR : Hid (w.heap.size ≤ gr) := Lib.hid (by omega)
  clear hb1 hg1 hz1 hb2 hg2 hz2 hb3 hg3 hz3 hga hgr hgl
  go_wp2_with (fail)
  refine wp_region_still_tail 3 (by kernel_rfl) (by kernel_rfl) ?_
  change wpStill _ _ w3.drew (fun a' => wpList _ _ _ _ a' w3.drew) _ _
  simp only [List.take_succ_cons, List.take_zero, List.drop_succ_cons, List.drop_zero]
  repeat still_step
  refine wpStill_nil ?_
  refine wpList_copy5 rfl _ _ rfl gl 0 ga ⟨1, rfl⟩ rfl (lf x) 41 27 [] (zc 5) [.int .i64 0] rfl ((HL.out.keep (w' := w3.drew) rfl).to rfl) rfl (HA.out.keep rfl) ?_
  intro w4 hb4 hg4 hz4
  have HL4 : Hid (Blk w4 gl 41 (l6 x)) := Lib.hid (hb4.to (by simp [l6]))
  have HR4 : Hid (Blk w4 gr 22 (u8s (k32 (bq x 0)))) := Lib.hid (((HR.out.keep (w' := w3.drew) rfl).grown hg4 (fun e => n1 (Option.some.inj e))).to (by rw [bq_zero x]))
  have HG4 : Hid (w.grownBy w4 none) := Lib.hid (World.grownBy.andThen (grown_drew HG.out) hg4 (by rintro _ ⟨⟩; exact .inl HWL.out))
  clear hb4 hg4 hz4 HL HR HG HA HWL
  go_wp2_with (fail)
  go_loopw [11] (fun v wr => ∃ m : Nat, m ≤ 32 ∧ v = .int .i64 (m : Int) ∧ Blk wr gr 22 (u8s (k32 (bq x m))) ∧ w4.grownBy wr (some gr)) (fun v _ => 32 - (intOf v).toNat)
  case atStart => exact ⟨0, by omega, rfl, HR4.out, World.grownBy.refl _ _⟩
  case round =>
    clear HR4
    obtain ⟨m, hm, rfl, hb, hg⟩ := hrel
    by_cases hlt : m < 32
    · have hL := HL4.out.grown hg (fun e => n2 (Option.some.inj e))
      have c1 := hL.get (8 * m / 51) _ (l6_get HX.out (8 * m / 51) (by omega))
      have c2 := hL.get (8 * m / 51 + 1) _ (l6_get HX.out (8 * m / 51 + 1) (by omega))
      have hfz := hb.frozen m
      have c3 := hb.get m _ (k32_get _ m hlt)
      generalize (bq x m ⟨m, hlt⟩) = old at c3
      have hv := lm_byte x m
      have ha1 := lm_lt x (8 * m / 51)
      have ha2 := lm_lt x (8 * m / 51 + 1)
      have hset := bq_set x m hlt
      rw [← hv] at hset
      obtain ⟨a, ha⟩ : ∃ a, a = lm x (8 * m / 51) := ⟨_, rfl⟩
      obtain ⟨b, hb'⟩ : ∃ b, b = lm x (8 * m / 51 + 1) := ⟨_, rfl⟩
      rw [← ha, ← hb'] at hset
      rw [← ha] at c1 ha1
      rw [← hb'] at c2 ha2
      obtain ⟨q, hq⟩ : ∃ q, q = 8 * m / 51 := ⟨_, rfl⟩
      obtain ⟨r, hr⟩ : ∃ r, r = 8 * m % 51 := ⟨_, rfl⟩
      obtain ⟨s, hs⟩ : ∃ s, s = 51 - r := ⟨_, rfl⟩
      rw [← hr, ← hs] at hset
      rw [← hq] at c1 c2
      obtain ⟨q', hq'⟩ : ∃ q', q' = q + 1 := ⟨_, rfl⟩
      rw [← hq'] at c2
      have d1 : IntKind.i64.wrap (8 * (m : Int)) = 8 * (m : Int) := i64_in (by omega)
      have d2 : (8 * (m : Int)).tdiv 51 = (q : Int) := by rw [Int.tdiv_eq_ediv_of_nonneg (by omega)]; omega
      have d3 : (8 * (m : Int)).tmod 51 = (r : Int) := by rw [Int.tmod_eq_emod_of_nonneg (by omega)]; omega
      have d4 : 8 * (m : Int) / 51 = (q : Int) := by omega
      have d5 : 8 * (m : Int) % 51 = (r : Int) := by omega
      have d7 : (q : Int) < 5 := by omega
      have d8 : (r : Int) < 51 := by omega
      have d14 : (q : Int) < 6 := by omega
      have d15 : (q' : Int) < 6 := by omega
      have d9 : IntKind.i64.wrap (q : Int) = (q : Int) := i64_in (by omega)
      have d10 : IntKind.i64.wrap (r : Int) = (r : Int) := i64_in (by omega)
      have d11 : IntKind.i64.wrap ((q : Int) + 1) = (q' : Int) := by rw [i64_in (by omega)]; omega
      have d12 : IntKind.i64.wrap (51 - (r : Int)) = (s : Int) := by rw [i64_in (by omega)]; omega
      have hab : a / 2 ^ r < 2 ^ s := by
        have e : 2 ^ r * 2 ^ s = 2251799813685248 := by rw [← Nat.pow_add, show r + s = 51 by omega]
        exact Nat.div_lt_of_lt_mul (by rw [e]; exact ha1)
      have hor := or_byte (a / 2 ^ r) b s hab
      obtain ⟨z, hz⟩ : ∃ z, z = (a / 2 ^ r + b * 2 ^ s) % 256 := ⟨_, rfl⟩
      rw [← hz] at hor hset
      obtain ⟨p, hp⟩ : ∃ p, p = a / 2 ^ r := ⟨_, rfl⟩
      have d13 : (a : Int) / 2 ^ r = (p : Int) := by rw [hp, Int.natCast_ediv, Int.natCast_pow]; rfl
      have d17 : (a : Int).fdiv (2 ^ r) = (p : Int) := by rw [Int.fdiv_eq_ediv_of_nonneg _ (Int.pow_nonneg (by decide)), d13]
      have d18 : min r 64 = r := by omega
      have d19 : min s 64 = s := by omega
      rw [← hp] at hor
      have HB2 := Lib.hid hb
      have HG2 := Lib.hid hg
      have HSET := Lib.hid hset
      clear hL hb hg hset hv ha hb' hq hr hs hz hab hp hq'
      go_wp2_with (fail)
      refine wp_region_still_tail 16 (by kernel_rfl) (by kernel_rfl) ?_
      change wpStill _ _ wr.drew (fun a' => wpList _ _ _ _ a' wr.drew) _ _
      simp only [List.take_succ_cons, List.take_zero, List.drop_succ_cons, List.drop_zero]
      repeat still_step
      refine wpStill_nil ?_
      go_wp2
      go_roundw
      case rel => exact ⟨m + 1, by omega, by go_num, ((HB2.out.keep (w' := wr.drew) rfl).set m _).to HSET.out, World.grownBy.trans (grown_drew HG2.out) (grown_set wr.drew gr m _)⟩
      case measure => simp [intOf]; omega
    · have ei : m = 32 := by omega
      rw [ei, bq_all] at hb
      have HB5 := Lib.hid hb
      have HG5 := Lib.hid (World.grownBy.andThen HG4.out hg (by rintro _ ⟨⟩; exact .inl HWR.out))
      obtain ⟨n9, hn9⟩ : ∃ n : Int, n = (m : Int) := ⟨_, rfl⟩
      have hn5 : ¬ n9 < 32 := by omega
      rw [← hn9]
      clear hb hg hm hlt ei hn9 HG4 HL4
      go_wp2_with (first
        | (refine wpList_load_mid rfl 22 _ rfl gr 0 rfl (u8s (k32 (bt x))) _ (range_blk HB5.out) Tryd.underlying22 rfl (k32_size' _) ?_)
        | (refine wpList_store_row rfl 22 _ _ rfl gr (u8s (k32 (bt x))).toArray rfl rfl 22 _ HB5.out (k32_size _) (k32_same _ _) (all_oneCell_toArray (u8s_one _)) ?_))
      exact bodyPost_ret (results_cell_row rfl _ _ gr 22 (u8s (k32 (bt x))).toArray (0, 0) _ rfl (setRow_heap wr gr _ _ 22 (0, 0) HB5.out) Tryd.underlying22 rfl (k32_size _)) rfl ⟨rfl, World.grownBy.andThen HG5.out (grown_setRow _ _ _) (by rintro _ ⟨⟩; exact .inl HWR.out)⟩
end Go.Proofs.YtoookolekpblhaaDoor
