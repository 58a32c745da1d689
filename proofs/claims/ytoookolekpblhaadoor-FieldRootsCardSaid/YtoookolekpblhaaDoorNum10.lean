/- The reference's halves and powers. Conditions: the numbers have sixteen digits. -/
import Derived.Test.YtoookolekpblhaaDoorNum9
namespace Go.Proofs.YtoookolekpblhaaDoor
open Go.RowKit
theorem half_dgt (n j : Nat) : dgt (n / 2) j = dgt n j / 2 + dgt n (j + 1) % 2 * 32768 := by
  unfold dgt
  rw [pow_step, Nat.mul_comm 65536 (65536 ^ j), ← Nat.div_div_eq_div_mul, Nat.div_div_eq_div_mul, Nat.mul_comm 2, ← Nat.div_div_eq_div_mul]
  generalize n / 65536 ^ j = m
  omega
theorem half_top {n : Nat} (h : n < 65536 ^ 16) : dgt (n / 2) 15 = dgt n 15 / 2 := by
  rw [half_dgt, dgt_over (i := 15 + 1) h (by omega)]
  omega
/-- While halves are told. -/
def hf (n i j : Nat) : Nat := if j < i then dgt (n / 2) j else dgt n j
theorem hf_set (n i x : Nat) (h : x = dgt (n / 2) i) : ((num (hf n i)).set i (.int .i64 (x : Int))) = num (hf n (i + 1)) := by
  refine num_ext (by rw [List.length_set, num_length]) fun j hj => ?_
  rw [List.getElem?_set, num_length, num_get _ j hj]
  unfold hf
  by_cases hij : i = j
  · subst hij
    rw [if_pos rfl, if_pos hj, if_pos (by omega), h]
  · have h3 : (j < i + 1) = (j < i) := by simp; omega
    rw [if_neg hij]
    simp only [h3]
theorem set_twice (l : List Value) (i : Nat) (x y : Value) : (l.set i x).set i y = l.set i y := List.set_set ..
set_option maxRecDepth 100000 in
set_option maxHeartbeats 1600000 in
theorem half_any (w : World) (n : Nat) (hn : n < 65536 ^ 16) : Calls Tryd.prog 28 #[.agg (num (dgt n)).toArray] w fun e w' => e = .returned (.agg (num (dgt (n / 2))).toArray) ∧ w.grownBy w' none := by
  have HTOP := Lib.hid (half_top hn)
  clear hn
  go_enter Tryd.func28, Tryd.ntmps28
  go_wp2_with (refine wpList_box32 rfl _ (dgt n) rfl rfl ?_)
  intro w1 hb1 hg1 hz1'
  go_wp2_with (refine wpList_alloc32 rfl rfl ?_)
  intro w3 hb3 hg3 hz3
  obtain ⟨ga, hga⟩ : ∃ g, g = w.heap.size := ⟨_, rfl⟩
  obtain ⟨gr, hgr⟩ : ∃ g, g = w.heap.size + 1 := ⟨_, rfl⟩
  rw [← hgr, ← hga]
  rw [← hga] at hb1
  rw [← hgr] at hb3
  have HA : Hid (Blk w3 ga 31 (num (hf n 0))) := Lib.hid ((hb1.grown hg3 (by simp)).to (by congr 1))
  have HR : Hid (Blk w3 gr 31 (num fun _ => 0)) := Lib.hid hb3
  have HG : Hid (w.grownBy w3 none) := Lib.hid (World.grownBy.trans hg1 hg3)
  have HWR : Hid (w.heap.size ≤ gr) := Lib.hid (by omega)
  have HWA : Hid (w.heap.size ≤ ga) := Lib.hid (by omega)
  have HNE : Hid (gr ≠ ga) := Lib.hid (by omega)
  clear hb1 hg1 hz1' hb3 hg3 hz3 hga hgr
  go_wp2_with (fail)
  go_loopw [3] (fun x wr => ∃ i : Nat, i ≤ 16 ∧ x = .int .i64 (i : Int) ∧ Blk wr ga 31 (num (hf n i)) ∧ w3.grownBy wr (some ga)) (fun x _ => 16 - (intOf x).toNat)
  case atStart => exact ⟨0, Nat.zero_le _, rfl, HA.out, World.grownBy.refl _ _⟩
  case round =>
    clear HA
    obtain ⟨i, hi, rfl, hs, hg⟩ := hrel
    by_cases hlt : i < 16
    · have e1 : (i : Int) < 16 := by omega
      have c1 := hs.get i (.int .i64 ((dgt n i : Nat) : Int)) (by rw [num_get _ i hlt]; unfold hf; rw [if_neg (by omega)])
      have hfz := hs.frozen i
      have hx1 := dgt_lt n i
      obtain ⟨x, hx⟩ : ∃ x, x = dgt n i := ⟨_, rfl⟩
      rw [← hx] at c1 hx1
      obtain ⟨y, hy⟩ : ∃ y, y = x / 2 := ⟨_, rfl⟩
      have d1 : (x : Int).tdiv 2 = (y : Int) := by rw [Int.tdiv_eq_ediv_of_nonneg (by omega)]; omega
      have d2 : (x : Int) / 2 = (y : Int) := by omega
      have d3 := i64_keep y (by omega)
      have hs2 := hs.set i (.int .i64 (y : Int))
      have HG2 := Lib.hid hg
      by_cases h15 : i < 15
      · have e2 : (i : Int) < 15 := by omega
        obtain ⟨p, hp⟩ : ∃ p, p = i + 1 := ⟨_, rfl⟩
        have hp16 : p < 16 := by omega
        have c2 := hs2.get i (.int .i64 (y : Int)) (by rw [List.getElem?_set, num_length, if_pos rfl, if_pos hlt])
        have c3 := hs2.get p (.int .i64 ((dgt n p : Nat) : Int)) (by rw [List.getElem?_set, if_neg (by omega), num_get _ p hp16]; unfold hf; rw [if_neg (by omega)])
        have hfz2 := hs2.frozen i
        have hz1 := dgt_lt n p
        obtain ⟨z, hz⟩ : ∃ z, z = dgt n p := ⟨_, rfl⟩
        rw [← hz] at c3 hz1
        obtain ⟨r, hr⟩ : ∃ r, r = z % 2 := ⟨_, rfl⟩
        obtain ⟨s, hs'⟩ : ∃ s, s = y + r * 32768 := ⟨_, rfl⟩
        have hs3 := (hs2.set i (.int .i64 (s : Int))).to (by rw [set_twice, hf_set n i s (by rw [half_dgt, ← hx, ← hp, ← hz, ← hy, ← hr]; exact hs')])
        have d4 : (i : Int) + 1 = (p : Int) := by omega
        have d5 := i64_keep p (by omega)
        have d6 : (z : Int).tmod 2 = (r : Int) := by rw [Int.tmod_eq_emod_of_nonneg (by omega)]; omega
        have d7 : (z : Int) % 2 = (r : Int) := by omega
        have d8 := i64_keep r (by omega)
        obtain ⟨t, ht⟩ : ∃ t, t = r * 32768 := ⟨_, rfl⟩
        have d9 : (r : Int) * 32768 = (t : Int) := by omega
        have d10 := i64_keep t (by omega)
        have d11 : (y : Int) + (t : Int) = (s : Int) := by omega
        have d12 := i64_keep s (by omega)
        have d13 : (p : Int) < 16 := by omega
        have HS3 := Lib.hid hs3
        rw [← hp] at HS3
        clear hs hs2 hs3 hg hx hy hz hr hs' ht
        have HP := Lib.hid hp
        clear hp
        go_wp2_with (fail)
        refine wp_region_still_tail 12 (by kernel_rfl) (by kernel_rfl) ?_
        change wpStill _ _ (wr.setCell ⟨ga, i, none⟩ (.int .i64 (y : Int))).drew (fun a' => wpList _ _ _ _ a' (wr.setCell ⟨ga, i, none⟩ (.int .i64 (y : Int))).drew) _ _
        simp only [List.take_succ_cons, List.take_zero, List.drop_succ_cons, List.drop_zero]
        repeat still_step
        refine wpStill_nil ?_
        go_wp2
        exact ⟨⟨p, by have := HP.out; omega, by have := HP.out; go_num, HS3.out.keep rfl, World.grownBy.trans (grown_drew (World.grownBy.trans HG2.out (grown_set wr ga i _))) (grown_set _ ga i _)⟩, by have := HP.out; simp [intOf]; omega⟩
      · have ei : i = 15 := by omega
        subst ei
        have hs3 := hs2.to (by rw [hf_set n 15 y (by rw [HTOP.out, ← hx]; exact hy)])
        have HS3 := Lib.hid hs3
        clear hs hs2 hs3 hg hx hy
        go_wp2_with (fail)
        exact ⟨⟨16, Nat.le_refl _, rfl, HS3.out, World.grownBy.trans HG2.out (grown_set wr ga 15 _)⟩, by simp [intOf]⟩
    · have ei : i = 16 := by omega
      subst ei
      have hs3 : Blk wr ga 31 (num (dgt (n / 2))) := hs.to (num_ext (num_length _) fun j hj => by rw [num_get _ j hj]; unfold hf; rw [if_pos hj])
      have HS3 := Lib.hid hs3
      have HR3 := Lib.hid (HR.out.grown hg (fun e => HNE.out (Option.some.inj e)))
      have HG3 : Hid (w.grownBy wr none) := Lib.hid (World.grownBy.andThen HG.out hg (by rintro _ ⟨⟩; exact .inl HWA.out))
      clear hs hs3 hg hlt hi
      go_wp2_with (first
        | (refine wpList_load_mid rfl 31 _ rfl ga 0 rfl (num (dgt (n / 2))) _ (range_blk HS3.out) Tryd.underlying31 rfl (num_size' _) ?_)
        | (refine wpList_store_row rfl 31 _ _ rfl gr (num (dgt (n / 2))).toArray rfl rfl 31 _ HR3.out (num_size _) (num_same _ _) (all_oneCell_toArray (num_one _)) ?_))
      exact bodyPost_ret (results_cell_row rfl _ _ gr 31 (num (dgt (n / 2))).toArray (0, 0) _ rfl (setRow_heap wr gr _ _ 31 (0, 0) HR3.out) Tryd.underlying31 rfl (num_size _)) rfl ⟨rfl, World.grownBy.andThen HG3.out (grown_setRow _ _ _) (by rintro _ ⟨⟩; exact .inl HWR.out)⟩
end Go.Proofs.YtoookolekpblhaaDoor
