/- The code's Of: the number of 32 bytes, the topmost bit left out, modulo p. Conditions: none. -/
import Derived.Test.YtoookolekpblhaaDoorOf5
namespace Go.Proofs.YtoookolekpblhaaDoor
open Go.RowKit
theorem k32_set (k : Fin 32 → UInt8) : (u8s (k32 k)).set 31 (.int .u8 ((((k ⟨31, by decide⟩).toNat % 128 : Nat)) : Int)) = u8s (k32 (cut k)) := by
  apply List.ext_getElem?
  intro j
  by_cases hj : j < 32
  · rw [List.getElem?_set, u8s_length, k32_length, k32_get _ j hj, k32_get _ j hj]
    by_cases e : 31 = j
    · subst e
      rw [if_pos rfl, if_pos (by decide)]
      unfold cut
      rw [if_pos rfl, UInt8.toNat_ofNat']
      congr 3
      omega
    · rw [if_neg e]
      unfold cut
      rw [if_neg (fun h => e h.symm)]
  · rw [List.getElem?_eq_none (by rw [List.length_set, u8s_length, k32_length]; omega), List.getElem?_eq_none (by rw [u8s_length, k32_length]; omega)]
theorem idx22 (k : Fin 32 → UInt8) (i : Nat) (h : i < 32) (w : World) : (Instr.index 22 (.agg (u8s (k32 k)).toArray) (.int .i64 (i : Int))).run Tryd.prog w = .ok (.int .u8 ((bn k i : Nat) : Int)) w := by
  have e : bn k i = (k ⟨i, h⟩).toNat := by unfold bn; rw [dif_pos h]
  rw [e]
  clear e
  have : ∀ j : Fin 32, (Instr.index 22 (.agg (u8s (k32 k)).toArray) (.int .i64 ((j.val : Nat) : Int))).run Tryd.prog w = .ok (.int .u8 ((k j).toNat : Int)) w := by
    intro j
    obtain ⟨i, h⟩ := j
    have hz := k32_get k i h
    have hl : (u8s (k32 k)).length = 32 := by rw [u8s_length, k32_length]
    generalize u8s (k32 k) = cs at hz hl
    simp only [Instr.index, Sem.run_bind, run_underlying Tryd.underlying22, Result.andThen_ok]
    have hs5 : (sizeOf 5).run Tryd.prog w = .ok 1 w := by kernel_rfl
    have ha : (asIntOf (.int .i64 ((i : Nat) : Int))).run Tryd.prog w = .ok (.i64, (i : Int)) w := by kernel_rfl
    rw [ha]
    simp only [Result.andThen_ok]
    rw [if_pos ⟨by omega, by omega⟩]
    simp only [Sem.run_bind, hs5, Result.andThen_ok, part, isAgg, run_underlying Tryd.underlying5, Nat.mul_one]
    simp [hz]
  exact this ⟨i, h⟩
set_option maxRecDepth 100000 in
set_option maxHeartbeats 1600000 in
theorem of5_any (w : World) (k : Fin 32 → UInt8) : Calls Tryd.prog 9 #[.agg (u8s (k32 k)).toArray] w fun e w' => e = .returned (.agg (ls (nb k % t255 % fq)).toArray) ∧ w.grownBy w' none := by
  have hs : ∀ (W : World) (g : Nat), Blk W g 27 (cl (of5 k 32)) → Calls Tryd.prog 20 #[.pointer (some ⟨g, 0, none⟩)] W fun e w' => e = .returned (.tuple #[]) ∧ Blk w' g 27 (ls (nb k % t255 % fq)) ∧ W.grownBy w' (some g) ∧ w'.heap.size = W.heap.size := fun W g h => by
    refine settle_any h (fun i _ => ?_) (of5_tot k) ?_
    · have := oz_lt (bn_lt (cut k)) 32 i
      unfold of5
      omega
    · have := Nat.mod_lt (nb k) t255_pos
      unfold t255 at this ⊢
      unfold fq
      omega
  obtain ⟨s, hs'⟩ : ∃ s, s = nb k % t255 % fq := ⟨_, rfl⟩
  rw [← hs'] at hs ⊢
  have HS := Lib.hid hs
  clear hs hs'
  unfold ls at HS ⊢
  go_enter Tryd.func9, Tryd.ntmps9
  go_wp2_with (refine wpList_box22 rfl _ k rfl rfl ?_)
  intro w1 hb1 hg1 hz1
  go_wp2_with (refine wpList_new27 rfl rfl ?_)
  intro w3 hb3 hg3 hz3
  obtain ⟨ga, hga⟩ : ∃ g, g = w.heap.size := ⟨_, rfl⟩
  obtain ⟨gr, hgr⟩ : ∃ g, g = w.heap.size + 1 := ⟨_, rfl⟩
  rw [← hgr, ← hga]
  rw [← hga] at hb1
  rw [← hgr] at hb3
  have n1 : gr ≠ ga := by omega
  have ha := hb1.grown hg3 (by simp)
  have c1 := ha.get 31 _ (k32_get k 31 (by decide))
  have hfz := ha.frozen 31
  have d1 := and127 (k ⟨31, by decide⟩)
  have hset := k32_set k
  obtain ⟨x, hx⟩ : ∃ x, x = (k ⟨31, by decide⟩) := ⟨_, rfl⟩
  rw [← hx] at c1 d1 hset
  obtain ⟨y, hy⟩ : ∃ y, y = x.toNat % 128 := ⟨_, rfl⟩
  rw [← hy] at d1 hset
  have HA : Hid (Blk w3 ga 22 (u8s (k32 k))) := Lib.hid ha
  have HR : Hid (Blk w3 gr 27 (cl fun _ => 0)) := Lib.hid hb3
  have HG : Hid (w.grownBy w3 none) := Lib.hid (World.grownBy.trans hg1 hg3)
  have HWA : Hid (w.heap.size ≤ ga) := Lib.hid (by omega)
  have HWR : Hid (w.heap.size ≤ gr) := Lib.hid (by omega)
  obtain ⟨w4, hw4⟩ : ∃ w4, w4 = w3.setCell ⟨ga, 31, none⟩ (.int .u8 (y : Int)) := ⟨_, rfl⟩
  have hb4 : Blk w4 ga 22 (u8s (k32 (cut k))) := by rw [hw4]; exact (ha.set 31 _).to hset
  have hg4 : w3.grownBy w4 (some ga) := by rw [hw4]; exact grown_set w3 ga 31 _
  have HRG := Lib.hid (range_blk hb4)
  have HR4 : Hid (Blk w4 gr 27 (cl (of5 k 0))) := Lib.hid (hb3.grown hg4 (fun e => n1 (Option.some.inj e)))
  have HG4 := Lib.hid (World.grownBy.andThen HG.out hg4 (by rintro _ ⟨⟩; exact .inl HWA.out))
  clear hb1 hg1 hz1 hb3 hg3 hz3 hga hgr ha hset hx hy hb4 hg4 HA HR HG n1 HWA
  go_wp2_with (first
    | (rw [← hw4]
       refine wpList_load_mid rfl 22 _ rfl ga 0 rfl (u8s (k32 (cut k))) _ HRG.out Tryd.underlying22 rfl (k32_size' _) ?_
       clear hw4 HRG c1 d1 hfz))
  go_loopw [10] (fun v wr => ∃ i : Nat, i ≤ 32 ∧ v = .int .i64 (i : Int) ∧ Blk wr gr 27 (cl (of5 k i)) ∧ w4.grownBy wr (some gr)) (fun v _ => 32 - (intOf v).toNat)
  case atStart => exact ⟨0, by omega, rfl, HR4.out, World.grownBy.refl _ _⟩
  case round =>
    clear HR4
    obtain ⟨i, hi, rfl, hb, hg⟩ := hrel
    by_cases hlt : i < 32
    · have c2 := idx22 (cut k) i hlt
      have hq5 : 8 * i / 51 < 5 := by omega
      have c1 := hb.get (8 * i / 51) _ (cl_get _ _ hq5)
      have hfz := hb.frozen (8 * i / 51)
      have hb256 := bn_lt (cut k) i
      obtain ⟨b, hbb⟩ : ∃ b, b = bn (cut k) i := ⟨_, rfl⟩
      rw [← hbb] at c2 hb256
      obtain ⟨q, hq⟩ : ∃ q, q = 8 * i / 51 := ⟨_, rfl⟩
      obtain ⟨r, hr⟩ : ∃ r, r = 8 * i % 51 := ⟨_, rfl⟩
      rw [← hq] at c1 hfz hq5
      have d1 : IntKind.i64.wrap (8 * (i : Int)) = 8 * (i : Int) := i64_in (by omega)
      have d2 : (8 * (i : Int)).tdiv 51 = (q : Int) := by rw [Int.tdiv_eq_ediv_of_nonneg (by omega)]; omega
      have d3 : (8 * (i : Int)).tmod 51 = (r : Int) := by rw [Int.tmod_eq_emod_of_nonneg (by omega)]; omega
      have d4 : 8 * (i : Int) / 51 = (q : Int) := by omega
      have d5 : 8 * (i : Int) % 51 = (r : Int) := by omega
      have d6 : IntKind.i64.wrap (b : Int) = (b : Int) := i64_in (by omega)
      have d7 : (q : Int) < 5 := by omega
      have d9 : IntKind.i64.wrap (q : Int) = (q : Int) := i64_in (by omega)
      have d10 : IntKind.i64.wrap (r : Int) = (r : Int) := i64_in (by omega)
      obtain ⟨m, hm⟩ : ∃ m : Nat, m = b * 2 ^ r := ⟨_, rfl⟩
      have hm2 : m ≤ 255 * 2 ^ 50 := by
        have h1 : 2 ^ r ≤ 2 ^ 50 := Nat.pow_le_pow_right (by decide) (by omega)
        rw [hm]
        exact Nat.mul_le_mul (by omega) h1
      have d11 : IntKind.i64.wrap ((b : Int) * 2 ^ r) = (m : Int) := by
        have e : (b : Int) * 2 ^ r = (m : Int) := by rw [hm, Int.natCast_mul, Int.natCast_pow]; rfl
        rw [e]
        exact i64_in (by omega)
      obtain ⟨z, hz⟩ : ∃ z, z = of5 k (i + 1) q := ⟨_, rfl⟩
      have d12 : IntKind.i64.wrap (of5 k i q + (m : Int)) = z := by
        have h1 := oz_lt (bn_lt (cut k)) i q
        have h2 : z = of5 k i q + (m : Int) := by
          rw [hz, hm, hbb]
          unfold of5
          rw [oz, if_pos hq.symm, ← hr]
          omega
        rw [h2]
        unfold of5
        exact i64_in (by omega)
      have hset : (cl (of5 k i)).set q (.int .i64 z) = cl (of5 k (i + 1)) := by
        rw [cl_set]
        apply cl_congr
        intro j _
        by_cases e : j = q
        · rw [if_pos e, e, hz]
        · rw [if_neg e]
          unfold of5
          rw [oz, if_neg (fun h => e (by omega))]
      have HSET := Lib.hid hset
      have d8 : (r : Int) < 51 := by omega
      have HB2 := Lib.hid hb
      have HG2 := Lib.hid hg
      have HQ := Lib.hid hq
      have HR := Lib.hid hr
      have HBB := Lib.hid hbb
      clear hb hg hq hr hbb hz hset hm
      generalize of5 k i q = old at c1 d12
      go_wp2_with (fail)
      refine wp_region_still_tail 15 (by kernel_rfl) (by kernel_rfl) ?_
      change wpStill _ _ wr.drew (fun a' => wpList _ _ _ _ a' wr.drew) _ _
      simp only [List.take_succ_cons, List.take_zero, List.drop_succ_cons, List.drop_zero]
      repeat still_step
      refine wpStill_nil ?_
      go_wp2
      go_roundw
      case rel => exact ⟨i + 1, by omega, by go_num, ((HB2.out.keep (w' := wr.drew) rfl).set q _).to HSET.out, World.grownBy.trans (grown_drew HG2.out) (grown_set wr.drew gr q _)⟩
      case measure => simp [intOf]; omega
    · have ei : i = 32 := by omega
      rw [ei] at hb
      have HB2 := Lib.hid hb
      have HG2 := Lib.hid (World.grownBy.andThen HG4.out hg (by rintro _ ⟨⟩; exact .inl HWR.out))
      obtain ⟨n9, hn9⟩ : ∃ n : Int, n = (i : Int) := ⟨_, rfl⟩
      have hn5 : ¬ n9 < 32 := by omega
      rw [← hn9]
      clear hb hg hi hlt ei hn9 HG4
      go_wp2_with (first
        | (go_at_call 20
           refine (HS.out _ gr HB2.out).mono ?_
           rintro _ w5 ⟨rfl, hb5, hg5, hz5⟩
           have HB5 := Lib.hid hb5
           have HG5 := Lib.hid (World.grownBy.andThen HG2.out hg5 (by rintro _ ⟨⟩; exact .inl HWR.out))
           clear hb5 hg5 hz5 HB2 HG2)
        | (refine wpList_load_mid rfl 27 _ rfl gr 0 rfl (cl (lf s)) _ (range_blk HB5.out) Tryd.underlying27 rfl (cl_size' _) ?_)
        | (refine wpList_store_row rfl 27 _ _ rfl gr (cl (lf s)).toArray rfl rfl 27 _ HB5.out (cl_size _) (cl_same _ _) (all_oneCell_toArray (cl_one _)) ?_))
      exact bodyPost_ret (results_cell_row rfl _ _ gr 27 (cl (lf s)).toArray (0, 0) _ rfl (setRow_heap w5 gr _ _ 27 (0, 0) HB5.out) Tryd.underlying27 rfl (cl_size _)) rfl ⟨rfl, World.grownBy.andThen HG5.out (grown_setRow _ _ _) (by rintro _ ⟨⟩; exact .inl HWR.out)⟩
end Go.Proofs.YtoookolekpblhaaDoor
