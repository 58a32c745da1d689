/- The reference's numbers of bytes, and their bytes. Conditions: none. -/
import Derived.Test.YtoookolekpblhaaDoorNum6
namespace Go.Proofs.YtoookolekpblhaaDoor
open Go.RowKit
def t255 : Nat := 57896044618658097711785492504343953926634992332820282019728792003956564819968
theorem t255_eq : t255 = 65536 ^ 15 * 32768 := by decide +kernel
theorem of_set (v : Nat) : (dgs 16 v).set 15 (dgt v 15 % 32768) = dgs 16 (v % t255) := by
  apply List.ext_getElem?
  intro j
  by_cases hj : j < 16
  · have h1 : ∀ u, (dgs 16 u)[j]? = some (dgt u j) := fun u => by
      unfold dgs
      rw [List.getElem?_map, List.getElem?_range hj]
      rfl
    rw [List.getElem?_set, dgs_length, h1, h1, t255_eq]
    by_cases h : 15 = j
    · subst h
      rw [if_pos rfl, if_pos hj]
      unfold dgt
      rw [Nat.mod_mul_right_div_self]
      congr 1
      omega
    · rw [if_neg h]
      have h2 := dgt_mod v 15 j (by omega)
      have h3 := dgt_mod (v % (65536 ^ 15 * 32768)) 15 j (by omega)
      rw [Nat.mod_mod_of_dvd _ (Nat.dvd_mul_right _ _), h2] at h3
      rw [h3]
  · rw [List.getElem?_eq_none (by rw [List.length_set, dgs_length]; omega), List.getElem?_eq_none (by rw [dgs_length]; omega)]
theorem t255_lt : t255 < 65536 ^ 16 := by decide +kernel
theorem t255_pos : 0 < t255 := by decide
set_option maxRecDepth 100000 in
set_option maxHeartbeats 1600000 in
theorem of_any (w : World) (k : Fin 32 → UInt8) : Calls Tryd.prog 11 #[.agg (u8s (k32 k)).toArray] w fun e w' => e = .returned (.agg (num (dgt (nb k % t255 % fq))).toArray) ∧ w.grownBy w' none := by
  obtain ⟨V, hV⟩ : ∃ V, V = nb k := ⟨_, rfl⟩
  have hlt : V % t255 < 65536 ^ 16 := Nat.lt_trans (Nat.mod_lt _ t255_pos) t255_lt
  have hf : ∀ (W : World) (g : Nat), Blk W g 3 (ints (dgs 16 (V % t255))) → Calls Tryd.prog 21 #[.slice (some ⟨g, 0, none⟩) 16 16] W fun e w' => e = .returned (.agg (num (dgt (V % t255 % fq))).toArray) ∧ W.grownBy w' (some g) := fun W g h => by
    have := fold_any h (dgs_length _ _) (by omega) (by omega) (fun x hx => Nat.le_trans (Nat.le_of_lt (dgs_all 16 _ x hx)) (by omega)) (by rw [vl_dgs]; exact Nat.lt_trans (Nat.mod_lt _ (pow_pos' 16)) (by decide +kernel))
    rwa [vl_dgs, Nat.mod_eq_of_lt hlt] at this
  have HF := Lib.hid hf
  have hd : ∀ i (h : i < 16), dgt V i = (k ⟨2 * i, by omega⟩).toNat + 256 * (k ⟨2 * i + 1, by omega⟩).toNat := fun i h => by rw [hV]; exact nb_dgt k i h
  have HD := Lib.hid hd
  rw [← hV]
  clear hf hlt hd hV
  obtain ⟨i0, hi0, hz0, hz1, hz2⟩ := info_parts Tryd.info3
  go_enter Tryd.func11, Tryd.ntmps11
  go_wp2_with (refine wpList_box22 rfl _ k rfl rfl ?_)
  intro w1 hb1 hg1 hz1'
  go_wp2_with (refine wpList_alloc32 rfl rfl ?_)
  intro w3 hb3 hg3 hz3
  obtain ⟨ga, hga⟩ : ∃ g, g = w.heap.size := ⟨_, rfl⟩
  obtain ⟨gr, hgr⟩ : ∃ g, g = w.heap.size + 1 := ⟨_, rfl⟩
  rw [← hgr, ← hga]
  rw [← hga] at hb1
  rw [← hgr] at hb3
  have HA : Hid (Blk w3 ga 22 (u8s (k32 k))) := Lib.hid (hb1.grown hg3 (by simp))
  have HR : Hid (Blk w3 gr 31 (num fun _ => 0)) := Lib.hid hb3
  have HG : Hid (w.grownBy w3 none) := Lib.hid (World.grownBy.trans hg1 hg3)
  have HWR : Hid (w.heap.size ≤ gr) := Lib.hid (by omega)
  clear hb1 hg1 hz1' hb3 hg3 hz3 hga hgr
  go_wp2_with (with_reducible refine wpList_make_full _ rfl _ _ 43 rfl w3.heap.size 3 i0 (.int .i64 0) 1 Tryd.underlying43 hi0 hz0 hz1 .i64 .i64 _ _ 16 rfl rfl rfl rfl ?n1 ?n2 ?n3 ?_)
  case n1 => rw [hz2]; omega
  case n2 => unfold maxLen; omega
  case n3 => exact Nat.le_refl _
  intro w4 hown hg4
  rw [made_ints] at hown
  obtain ⟨gs, hgs⟩ : ∃ g, g = w3.heap.size := ⟨_, rfl⟩
  rw [← hgs] at hown ⊢
  have hb4 := Blk.of_owns_e hown
  have h1 := HA.out.lt
  have h3 := HR.out.lt
  have h4 := HG.out.size
  have HS : Hid (Blk w4 gs 3 (ints (dgs 0 V ++ zr.drop 0))) := Lib.hid hb4
  have HA4 := Lib.hid (HA.out.grown hg4 (by simp))
  have HR4 := Lib.hid (HR.out.grown hg4 (by simp))
  have HG4 := Lib.hid (World.grownBy.trans HG.out hg4)
  have HN : Hid (ga ≠ gs ∧ gr ≠ gs ∧ w.heap.size ≤ gs) := Lib.hid (by omega)
  clear hown hb4 hgs hg4 hi0 hz0 hz1 hz2 h1 h3 h4 HA HR HG
  go_wp2_with (fail)
  go_loopw [4] (fun x wr => ∃ i : Nat, i ≤ 16 ∧ x = .int .i64 (i : Int) ∧ Blk wr gs 3 (ints (dgs i V ++ zr.drop i)) ∧ w4.grownBy wr (some gs)) (fun x _ => 16 - (intOf x).toNat)
  case atStart => exact ⟨0, Nat.zero_le _, rfl, HS.out, World.grownBy.refl _ _⟩
  case round =>
    clear HS
    obtain ⟨i, hi, rfl, hs, hg⟩ := hrel
    by_cases hlt : i < 16
    · have e1 : (i : Int) < 16 := by omega
      have hA := HA4.out.grown hg (fun e => HN.out.1 (Option.some.inj e))
      obtain ⟨p, hp⟩ : ∃ p, p = 2 * i := ⟨_, rfl⟩
      obtain ⟨q, hq⟩ : ∃ q, q = 2 * i + 1 := ⟨_, rfl⟩
      have c1 := hA.get p _ (k32_get k p (by omega))
      have c2 := hA.get q _ (k32_get k q (by omega))
      have c3 := hs.get i _ (ints_at _ i (by rw [List.length_append, dgs_length, List.length_drop]; simp [zr]; omega))
      have hf := hs.frozen i
      obtain ⟨s, hs'⟩ : ∃ s, s = dgt V i := ⟨_, rfl⟩
      have hs2 := (hs.set i (.int .i64 (s : Int))).to (by rw [ints_set, hs', dgs_set V i zr rfl hlt])
      obtain ⟨x, hx⟩ : ∃ x, x = (k ⟨p, by omega⟩).toNat := ⟨_, rfl⟩
      obtain ⟨y, hy⟩ : ∃ y, y = (k ⟨q, by omega⟩).toNat := ⟨_, rfl⟩
      have hxy : s = x + 256 * y := by rw [hs', hx, hy, HD.out i hlt]; subst hp hq; rfl
      have hx1 : x < 256 := by rw [hx]; exact (k _).toNat_lt
      have hy1 : y < 256 := by rw [hy]; exact (k _).toNat_lt
      rw [← hx] at c1
      rw [← hy] at c2
      have d1 : (2 : Int) * (i : Int) = (p : Int) := by omega
      have d2 := i64_keep p (by omega)
      have d3 : (p : Int) + 1 = (q : Int) := by omega
      have d4 := i64_keep q (by omega)
      have d5 := i64_keep x (by omega)
      have d6 := i64_keep y (by omega)
      obtain ⟨t, ht⟩ : ∃ t, t = 256 * y := ⟨_, rfl⟩
      have d7 : (256 : Int) * (y : Int) = (t : Int) := by omega
      have d8 := i64_keep t (by omega)
      have d9 : (x : Int) + (t : Int) = (s : Int) := by omega
      have d10 := i64_keep s (by omega)
      have d11 : (p : Int) < 32 := by omega
      have d12 : (q : Int) < 32 := by omega
      have HS2 := Lib.hid hs2
      have HG2 := Lib.hid hg
      clear hx hy hs' hs2 hs hg hA hp hq ht hxy
      go_wp2_with (fail)
      refine wp_region_still_tail 16 (by kernel_rfl) (by kernel_rfl) ?_
      change wpStill _ _ wr.drew (fun a' => wpList _ _ _ _ a' wr.drew) _ _
      simp only [List.take_succ_cons, List.take_zero, List.drop_succ_cons, List.drop_zero]
      repeat still_step
      refine wpStill_nil ?_
      go_wp2
      exact ⟨⟨i + 1, by omega, by go_num, HS2.out.keep rfl, World.grownBy.trans (grown_drew HG2.out) (grown_set wr.drew gs i _)⟩, by simp [intOf]; omega⟩
    · have ei : i = 16 := by omega
      subst ei
      have hs3 : Blk wr gs 3 (ints (dgs 16 V)) := hs.to (by simp [zr])
      have c1 := hs3.get 15 _ (ints_at _ 15 (by rw [dgs_length]; omega))
      rw [dgs_getD _ _ _ (by omega)] at c1
      have hf := hs3.frozen 15
      obtain ⟨r, hr⟩ : ∃ r, r = dgt V 15 % 32768 := ⟨_, rfl⟩
      have hs4 := (hs3.set 15 (.int .i64 (r : Int))).to (by rw [ints_set, hr, of_set])
      have hx1 := dgt_lt V 15
      obtain ⟨x, hx⟩ : ∃ x, x = dgt V 15 := ⟨_, rfl⟩
      rw [← hx] at c1 hx1 hr
      have d1 : (x : Int).tmod 32768 = (r : Int) := by rw [Int.tmod_eq_emod_of_nonneg (by omega)]; omega
      have d2 : (x : Int) % 32768 = (r : Int) := by omega
      have d3 := i64_keep r (by omega)
      have hg9 : w4.grownBy (wr.setCell ⟨gs, 15, none⟩ (.int .i64 (r : Int))) (some gs) := World.grownBy.trans hg (grown_set wr gs 15 _)
      obtain ⟨w5, hw5⟩ : ∃ w5, w5 = wr.setCell ⟨gs, 15, none⟩ (.int .i64 (r : Int)) := ⟨_, rfl⟩
      rw [← hw5] at hs4 hg9
      have HW5 := Lib.hid hw5
      have HS3 := Lib.hid hs4
      have HR3 := Lib.hid (HR4.out.grown hg9 (fun e => HN.out.2.1 (Option.some.inj e)))
      have HG3 : Hid (w.grownBy w5 none) := Lib.hid (World.grownBy.andThen HG4.out hg9 (by rintro _ ⟨⟩; exact .inl HN.out.2.2))
      clear hs hs3 hs4 hg hg9 hlt hi hr hx hw5
      go_wp2_with (first
        | (go_at_call 21
           rw [← HW5.out]
           refine (HF.out w5 gs HS3.out).mono ?_
           rintro _ w6 ⟨rfl, hg5⟩
           have HR5 := Lib.hid (HR3.out.grown hg5 (fun e => HN.out.2.1 (Option.some.inj e)))
           have HG5 : Hid (w.grownBy w6 none) := Lib.hid (World.grownBy.andThen HG3.out hg5 (by rintro _ ⟨⟩; exact .inl HN.out.2.2))
           clear hg5)
        | (refine wpList_store_row rfl 31 _ _ rfl gr (num (dgt (V % t255 % fq))).toArray rfl rfl 31 _ HR5.out (num_size _) (num_same _ _) (all_oneCell_toArray (num_one _)) ?_))
      exact bodyPost_ret (results_cell_row rfl _ _ gr 31 (num (dgt (V % t255 % fq))).toArray (0, 0) _ rfl (setRow_heap w6 gr _ _ 31 (0, 0) HR5.out) Tryd.underlying31 rfl (num_size _)) rfl ⟨rfl, World.grownBy.andThen HG5.out (grown_setRow _ _ _) (by rintro _ ⟨⟩; exact .inl HWR.out)⟩
/-- The first m bytes. -/
def pb (x m : Nat) (j : Fin 32) : UInt8 := if j.val < m then bt x j else 0
theorem pb_set (x m : Nat) (h : m < 32) : (u8s (k32 (pb x m))).set m (.int .u8 ((bt x ⟨m, h⟩).toNat : Int)) = u8s (k32 (pb x (m + 1))) := by
  apply List.ext_getElem?
  intro j
  by_cases hj : j < 32
  · rw [List.getElem?_set, u8s_length, k32_length, k32_get _ j hj, k32_get _ j hj]
    unfold pb
    by_cases e : m = j
    · subst e
      rw [if_pos rfl, if_pos h, if_pos (by simp)]
    · rw [if_neg e]
      have h3 : (j < m + 1) = (j < m) := by simp; omega
      simp only [h3]
  · rw [List.getElem?_eq_none (by rw [List.length_set, u8s_length, k32_length]; omega), List.getElem?_eq_none (by rw [u8s_length, k32_length]; omega)]
theorem pb_zero (x : Nat) : (fun _ : Fin 32 => (0 : UInt8)) = pb x 0 := by
  funext j
  simp [pb]
theorem pb_all (x : Nat) : pb x 32 = bt x := by
  funext j
  simp [pb, j.isLt]
set_option maxRecDepth 100000 in
set_option maxHeartbeats 1600000 in
theorem bytes_any (w : World) (v : Nat) : Calls Tryd.prog 10 #[.agg (num (dgt v)).toArray] w fun e w' => e = .returned (.agg (u8s (k32 (bt v))).toArray) ∧ w.grownBy w' none := by
  go_enter Tryd.func10, Tryd.ntmps10
  go_wp2_with (refine wpList_box32 rfl _ (dgt v) rfl rfl ?_)
  intro w1 hb1 hg1 hz1'
  go_wp2_with (refine wpList_alloc22 rfl rfl ?_)
  intro w2 hb2 hg2 hz2'
  go_wp2_with (refine wpList_alloc22 rfl rfl ?_)
  intro w3 hb3 hg3 hz3
  obtain ⟨ga, hga⟩ : ∃ g, g = w.heap.size := ⟨_, rfl⟩
  obtain ⟨gr, hgr⟩ : ∃ g, g = w.heap.size + 1 := ⟨_, rfl⟩
  obtain ⟨gs, hgs⟩ : ∃ g, g = w.heap.size + 1 + 1 := ⟨_, rfl⟩
  rw [← hgs, ← hgr, ← hga]
  rw [← hga] at hb1
  rw [← hgr] at hb2
  rw [← hgs] at hb3
  have HA : Hid (Blk w3 ga 31 (num (dgt v))) := Lib.hid ((hb1.grown hg2 (by simp)).grown hg3 (by simp))
  have HR : Hid (Blk w3 gr 22 (u8s (k32 fun _ => 0))) := Lib.hid (hb2.grown hg3 (by simp))
  have HS : Hid (Blk w3 gs 22 (u8s (k32 (pb v 0)))) := Lib.hid (hb3.to (by rw [pb_zero v]))
  have HG : Hid (w.grownBy w3 none) := Lib.hid (World.grownBy.trans (World.grownBy.trans hg1 hg2) hg3)
  have HWR : Hid (w.heap.size ≤ gr) := Lib.hid (by omega)
  have HN : Hid (ga ≠ gs ∧ gr ≠ gs ∧ w.heap.size ≤ gs) := Lib.hid (by omega)
  clear hb1 hg1 hz1' hb2 hg2 hz2' hb3 hg3 hz3 hga hgr hgs
  go_wp2_with (fail)
  go_loopw [4] (fun x wr => ∃ i : Nat, i ≤ 16 ∧ x = .int .i64 (i : Int) ∧ Blk wr gs 22 (u8s (k32 (pb v (2 * i)))) ∧ w3.grownBy wr (some gs)) (fun x _ => 16 - (intOf x).toNat)
  case atStart => exact ⟨0, Nat.zero_le _, rfl, HS.out, World.grownBy.refl _ _⟩
  case round =>
    clear HS
    obtain ⟨i, hi, rfl, hs, hg⟩ := hrel
    by_cases hlt : i < 16
    · have e1 : (i : Int) < 16 := by omega
      have hA := HA.out.grown hg (fun e => HN.out.1 (Option.some.inj e))
      have c1 := hA.get i _ (num_get (dgt v) i hlt)
      obtain ⟨p, hp⟩ : ∃ p, p = 2 * i := ⟨_, rfl⟩
      rw [← hp] at hs
      obtain ⟨q, hq⟩ : ∃ q, q = p + 1 := ⟨_, rfl⟩
      have hp32 : p < 32 := by omega
      have hq32 : q < 32 := by omega
      have c2 := hs.get p _ (k32_get _ p hp32)
      have hf := hs.frozen p
      have hbl : (bt v ⟨p, hp32⟩).toNat = dgt v i % 256 := by subst hp; exact bt_low v i hp32
      have hbh : (bt v ⟨q, hq32⟩).toNat = dgt v i / 256 := by subst hq hp; exact bt_high v i hq32
      obtain ⟨x, hx⟩ : ∃ x, x = dgt v i := ⟨_, rfl⟩
      have hx1 := dgt_lt v i
      rw [← hx] at c1 hbl hbh hx1
      have hs2 := (hs.set p (.int .u8 ((bt v ⟨p, hp32⟩).toNat : Int))).to (pb_set v p hp32)
      rw [hbl, ← hq] at hs2
      obtain ⟨lo, hlo⟩ : ∃ lo, lo = x % 256 := ⟨_, rfl⟩
      obtain ⟨hi_, hhi⟩ : ∃ h, h = x / 256 := ⟨_, rfl⟩
      rw [← hlo] at hs2
      rw [← hhi] at hbh
      have c3 := hs2.get q _ (k32_get _ q hq32)
      have hf2 := hs2.frozen q
      have hs3 := (hs2.set q (.int .u8 ((bt v ⟨q, hq32⟩).toNat : Int))).to (pb_set v q hq32)
      rw [hbh] at hs3
      have cc : (wr.setCell ⟨gs, p, none⟩ (.int .u8 (lo : Int))).cell? ⟨ga, i, none⟩ = some (.int .i64 (x : Int)) := (hA.grown (grown_set wr gs p _) (fun e => HN.out.1 (Option.some.inj e))).get i _ (by rw [num_get _ i hlt, ← hx])
      have d1 : (2 : Int) * (i : Int) = (p : Int) := by omega
      have d2 := i64_keep p (by omega)
      have d3 : (p : Int) + 1 = (q : Int) := by omega
      have d4 := i64_keep q (by omega)
      have d5 : (x : Int).tmod 256 = (lo : Int) := by rw [Int.tmod_eq_emod_of_nonneg (by omega)]; omega
      have d6 : (x : Int) % 256 = (lo : Int) := by omega
      have d7 : (x : Int).tdiv 256 = (hi_ : Int) := by rw [Int.tdiv_eq_ediv_of_nonneg (by omega)]; omega
      have d8 : (x : Int) / 256 = (hi_ : Int) := by omega
      have d9 := i64_keep lo (by omega)
      have d10 := i64_keep hi_ (by omega)
      have d11 : IntKind.u8.wrap (lo : Int) = (lo : Int) := by rw [IntKind.wrap_u8]; omega
      have d12 : IntKind.u8.wrap (hi_ : Int) = (hi_ : Int) := by rw [IntKind.wrap_u8]; omega
      have d13 : (p : Int) < 32 := by omega
      have d14 : (q : Int) < 32 := by omega
      have hpq : q + 1 = 2 * (i + 1) := by omega
      rw [hpq] at hs3
      have HS3 := Lib.hid hs3
      have HG2 := Lib.hid hg
      clear hbl hbh hx hs hs2 hs3 hg hA hp hq hlo hhi hpq
      go_wp2_with (fail)
      exact ⟨⟨i + 1, by omega, by go_num, HS3.out, World.grownBy.trans (World.grownBy.trans HG2.out (grown_set wr gs p _)) (grown_set _ gs q _)⟩, by simp [intOf]; omega⟩
    · have ei : i = 16 := by omega
      subst ei
      have hs3 : Blk wr gs 22 (u8s (k32 (bt v))) := hs.to (by rw [← pb_all])
      have HS3 := Lib.hid hs3
      have HR3 := Lib.hid (HR.out.grown hg (fun e => HN.out.2.1 (Option.some.inj e)))
      have HG3 : Hid (w.grownBy wr none) := Lib.hid (World.grownBy.andThen HG.out hg (by rintro _ ⟨⟩; exact .inl HN.out.2.2))
      clear hs hs3 hg hlt hi
      go_wp2_with (first
        | (refine wpList_load_mid rfl 22 _ rfl gs 0 rfl (u8s (k32 (bt v))) _ (range_blk HS3.out) Tryd.underlying22 rfl (k32_size' _) ?_)
        | (refine wpList_store_row rfl 22 _ _ rfl gr (u8s (k32 (bt v))).toArray rfl rfl 22 _ HR3.out (k32_size _) (k32_same _ _) (all_oneCell_toArray (u8s_one _)) ?_))
      exact bodyPost_ret (results_cell_row rfl _ _ gr 22 (u8s (k32 (bt v))).toArray (0, 0) _ rfl (setRow_heap wr gr _ _ 22 (0, 0) HR3.out) Tryd.underlying22 rfl (k32_size _)) rfl ⟨rfl, World.grownBy.andThen HG3.out (grown_setRow _ _ _) (by rintro _ ⟨⟩; exact .inl HWR.out)⟩
end Go.Proofs.YtoookolekpblhaaDoor
