/- The reference's powers. Conditions: the numbers have sixteen digits. -/
import Derived.Test.YtoookolekpblhaaDoorNum10
namespace Go.Proofs.YtoookolekpblhaaDoor
open Go.RowKit
/-- Bit number i of a number of sixteen digits. -/
theorem bit_at (n i : Nat) : dgt n (i / 16) / 2 ^ (i % 16) % 2 = n / 2 ^ i % 2 := by
  have hr : i % 16 < 16 := Nat.mod_lt _ (by decide)
  have e : i = 16 * (i / 16) + i % 16 := by omega
  unfold dgt
  conv => rhs; rw [e, Nat.pow_add, Nat.pow_mul, ← Nat.div_div_eq_div_mul]
  show n / 65536 ^ (i / 16) % 65536 / 2 ^ (i % 16) % 2 = n / 65536 ^ (i / 16) / 2 ^ (i % 16) % 2
  generalize n / 65536 ^ (i / 16) = m
  generalize i % 16 = r at hr
  have e2 : 65536 = 2 ^ r * 2 ^ (16 - r) := by rw [← Nat.pow_add, show r + (16 - r) = 16 by omega]
  rw [e2, Nat.mod_mul_right_div_self, Nat.mod_mod_of_dvd]
  exact ⟨2 ^ (15 - r), by rw [Nat.mul_comm, ← Nat.pow_succ, show (15 - r).succ = 16 - r by omega]⟩
theorem pow_bit (a n i b : Nat) (h : n / 2 ^ i % 2 = b) : a ^ (n / 2 ^ i) = a ^ (n / 2 ^ (i + 1)) * a ^ (n / 2 ^ (i + 1)) * a ^ b := by
  have e : n / 2 ^ i = n / 2 ^ (i + 1) + n / 2 ^ (i + 1) + b := by
    rw [Nat.pow_succ, ← Nat.div_div_eq_div_mul]
    omega
  conv => lhs; rw [e]
  rw [Nat.pow_add, Nat.pow_add]
theorem pow_sq {a e q u : Nat} (h : u = a ^ e % q) : u * u % q = a ^ e * a ^ e % q := by rw [h, ← Nat.mul_mod]
theorem ofInt_64 (a : Nat) (ha : a < 9223372036854775808) : (BitVec.ofInt 64 (a : Int)).toNat = a := by
  rw [BitVec.ofInt_natCast, BitVec.toNat_ofNat]; exact Nat.mod_eq_of_lt (by omega)
theorem i64_and_nat (a b : Nat) (ha : a < 9223372036854775808) (hb : b < 9223372036854775808) : bits .and .i64 (a : Int) (b : Int) = ((a &&& b : Nat) : Int) := by
  have hx : a &&& b < 2 ^ 63 := Nat.and_lt_two_pow _ (by omega)
  show IntKind.i64.wrap ((BitVec.ofInt 64 (a : Int) &&& BitVec.ofInt 64 (b : Int)).toNat : Int) = _
  rw [BitVec.toNat_and, ofInt_64 a ha, ofInt_64 b hb, i64_keep _ (by omega)]
theorem i64_and_one (n : Nat) (h : n < 9223372036854775808) : bits .and .i64 (n : Int) 1 = ((n % 2 : Nat) : Int) := by
  have h1 := i64_and_nat n 1 h (by decide)
  rw [Nat.and_one_is_mod] at h1
  exact h1
theorem pow_fin {X v a q z : Nat} (h1 : v = X % q) (h2 : z = v * a % q) : z = X * a % q := by
  rw [h2, h1, Nat.mod_mul_mod]
set_option maxRecDepth 100000 in
set_option maxHeartbeats 3200000 in
theorem power_any (w : World) (a n : Nat) (ha : a < 65536 ^ 16) (hn : n < 65536 ^ 16) : Calls Tryd.prog 24 #[.agg (num (dgt a)).toArray, .agg (num (dgt n)).toArray] w fun e w' => e = .returned (.agg (num (dgt (a ^ n % fq))).toArray) ∧ w.grownBy w' none := by
  have HAL := Lib.hid ha
  have h256 : n / 2 ^ 256 = 0 := Nat.div_eq_of_lt (by rw [show (65536 : Nat) ^ 16 = 2 ^ 256 by decide +kernel] at hn; exact hn)
  have hone : (1 : Nat) % fq = a ^ (n / 2 ^ 256) % fq := by rw [h256, Nat.pow_zero]
  have HONE := Lib.hid hone
  clear ha hn h256 hone
  have HS1 : Hid (∀ W : World, Calls Tryd.prog 29 #[.int .i64 1] W fun e w' => e = .returned (.agg (num (dgt (1 % fq))).toArray) ∧ W.grownBy w' none) := Lib.hid fun W => small_any W 1 (by omega)
  go_enter Tryd.func24, Tryd.ntmps24
  go_wp2_with (refine wpList_box32 rfl _ (dgt a) rfl rfl ?_)
  intro w1 hb1 hg1 hz1'
  go_wp2_with (refine wpList_box32 rfl _ (dgt n) rfl rfl ?_)
  intro w2 hb2 hg2 hz2'
  go_wp2_with (refine wpList_alloc32 rfl rfl ?_)
  intro w3 hb3 hg3 hz3
  obtain ⟨ga, hga⟩ : ∃ g, g = w.heap.size := ⟨_, rfl⟩
  obtain ⟨gb, hgb⟩ : ∃ g, g = w.heap.size + 1 := ⟨_, rfl⟩
  obtain ⟨gr, hgr⟩ : ∃ g, g = w.heap.size + 1 + 1 := ⟨_, rfl⟩
  rw [← hgr, ← hgb, ← hga]
  rw [← hga] at hb1
  rw [← hgb] at hb2
  rw [← hgr] at hb3
  have HA : Hid (Blk w3 ga 31 (num (dgt a))) := Lib.hid ((hb1.grown hg2 (by simp)).grown hg3 (by simp))
  have HB : Hid (Blk w3 gb 31 (num (dgt n))) := Lib.hid (hb2.grown hg3 (by simp))
  have HR : Hid (Blk w3 gr 31 (num fun _ => 0)) := Lib.hid hb3
  have HG : Hid (w.grownBy w3 none) := Lib.hid (World.grownBy.trans (World.grownBy.trans hg1 hg2) hg3)
  have HWR : Hid (w.heap.size ≤ gr) := Lib.hid (by omega)
  clear hb1 hg1 hz1' hb2 hg2 hz2' hb3 hg3 hz3 hga hgb hgr
  go_wp2_with (first
    | (go_at_call 29
       refine (HS1.out _).mono ?_
       rintro _ w4 ⟨rfl, hg4⟩
       have HA4 := Lib.hid (HA.out.grown hg4 (by simp))
       have HB4 := Lib.hid (HB.out.grown hg4 (by simp))
       have HR4 := Lib.hid (HR.out.grown hg4 (by simp))
       have HG4 := Lib.hid (World.grownBy.trans HG.out hg4)
       clear hg4)
    | (refine wpList_alloc32 rfl rfl ?_
       intro w5 hb5 hg5 hz5
       obtain ⟨go, hgo⟩ : ∃ g, g = w4.heap.size := ⟨_, rfl⟩
       rw [← hgo] at hb5 ⊢
       have h1 := HA4.out.lt
       have h2 := HB4.out.lt
       have h3 := HR4.out.lt
       have h4 := HG4.out.size
       have HO5 := Lib.hid hb5
       have HN : Hid (ga ≠ go ∧ gb ≠ go ∧ gr ≠ go ∧ w.heap.size ≤ go) := Lib.hid (by omega)
       have HA5 := Lib.hid (HA4.out.grown hg5 (by simp))
       have HB5 := Lib.hid (HB4.out.grown hg5 (by simp))
       have HR5 := Lib.hid (HR4.out.grown hg5 (by simp))
       have HG5 := Lib.hid (World.grownBy.trans HG4.out hg5)
       clear hb5 hg5 hz5 hgo h1 h2 h3 h4)
    | (refine wpList_store_row rfl 31 _ _ rfl go (num (dgt (1 % fq))).toArray rfl rfl 31 _ HO5.out (num_size _) (num_same _ _) (all_oneCell_toArray (num_one _)) ?_
       obtain ⟨w6, hw6⟩ : ∃ w6, w6 = w5.setRow go (num (dgt (1 % fq))).toArray := ⟨_, rfl⟩
       have hg6 : w5.grownBy w6 (some go) := by rw [hw6]; exact grown_setRow _ _ _
       have hl6 : Blk w6 go 31 (num (dgt (1 % fq))) := by rw [hw6]; exact Blk.setRow HO5.out
       rw [← hw6]
       have HO6 := Lib.hid hl6
       have HA6 := Lib.hid (HA5.out.grown hg6 (fun e => HN.out.1 (Option.some.inj e)))
       have HB6 := Lib.hid (HB5.out.grown hg6 (fun e => HN.out.2.1 (Option.some.inj e)))
       have HR6 := Lib.hid (HR5.out.grown hg6 (fun e => HN.out.2.2.1 (Option.some.inj e)))
       have HG6 : Hid (w.grownBy w6 none) := Lib.hid (World.grownBy.andThen HG5.out hg6 (by rintro _ ⟨⟩; exact .inl HN.out.2.2.2))
       clear hw6 hg6 hl6)
    | fail)
  clear HA HB HR HG HA4 HB4 HR4 HG4 HO5 HA5 HB5 HR5 HG5 HS1
  go_loopw [6] (fun x wr => ∃ k : Nat, k ≤ 256 ∧ x = .int .i64 ((k : Int) - 1) ∧ Blk wr go 31 (num (dgt (a ^ (n / 2 ^ k) % fq))) ∧ w6.grownBy wr (some go)) (fun x _ => (intOf x + 1).toNat)
  case atStart => exact ⟨256, Nat.le_refl _, rfl, HO6.out.to (by rw [HONE.out]), World.grownBy.refl _ _⟩
  case round =>
    clear HO6 HONE
    obtain ⟨k, hk, rfl, ho, hg⟩ := hrel
    rcases k with _ | i
    · have ho2 : Blk wr go 31 (num (dgt (a ^ n % fq))) := by simpa using ho
      have HO := Lib.hid ho2
      have HR9 := Lib.hid (HR6.out.grown hg (fun e => HN.out.2.2.1 (Option.some.inj e)))
      have HG9 : Hid (w.grownBy wr none) := Lib.hid (World.grownBy.andThen HG6.out hg (by rintro _ ⟨⟩; exact .inl HN.out.2.2.2))
      clear ho ho2 hg
      go_wp2_with (first
        | (refine wpList_load_mid rfl 31 _ rfl go 0 rfl (num (dgt (a ^ n % fq))) _ (range_blk HO.out) Tryd.underlying31 rfl (num_size' _) ?_)
        | (refine wpList_store_row rfl 31 _ _ rfl gr (num (dgt (a ^ n % fq))).toArray rfl rfl 31 _ HR9.out (num_size _) (num_same _ _) (all_oneCell_toArray (num_one _)) ?_))
      exact bodyPost_ret (results_cell_row rfl _ _ gr 31 (num (dgt (a ^ n % fq))).toArray (0, 0) _ rfl (setRow_heap wr gr _ _ 31 (0, 0) HR9.out) Tryd.underlying31 rfl (num_size _)) rfl ⟨rfl, World.grownBy.andThen HG9.out (grown_setRow _ _ _) (by rintro _ ⟨⟩; exact .inl HWR.out)⟩
    · obtain ⟨u, hu⟩ : ∃ u, u = a ^ (n / 2 ^ (i + 1)) % fq := ⟨_, rfl⟩
      rw [← hu] at ho
      have hu16 : u < 65536 ^ 16 := by rw [hu]; exact lt16 (Nat.mod_lt _ fq_pos)
      obtain ⟨v, hv⟩ : ∃ v, v = u * u % fq := ⟨_, rfl⟩
      have hv16 : v < 65536 ^ 16 := by rw [hv]; exact lt16 (Nat.mod_lt _ fq_pos)
      obtain ⟨z, hz⟩ : ∃ z, z = v * a % fq := ⟨_, rfl⟩
      have hi256 : i < 256 := by omega
      obtain ⟨q, hq⟩ : ∃ q, q = i / 16 := ⟨_, rfl⟩
      obtain ⟨r, hr⟩ : ∃ r, r = i % 16 := ⟨_, rfl⟩
      have hq16 : q < 16 := by omega
      have hr16 : r < 16 := by omega
      have hbit := bit_at n i
      rw [← hq, ← hr] at hbit
      have hx1 := dgt_lt n q
      have c1 := fun W (h : Blk W gb 31 (num (dgt n))) => h.get q _ (num_get (dgt n) q hq16)
      obtain ⟨x, hx⟩ : ∃ x, x = dgt n q := ⟨_, rfl⟩
      rw [← hx] at hbit hx1 c1
      obtain ⟨y, hy⟩ : ∃ y, y = x / 2 ^ r := ⟨_, rfl⟩
      have hy1 : y < 65536 := by rw [hy]; exact Nat.lt_of_le_of_lt (Nat.div_le_self _ _) hx1
      obtain ⟨t, ht⟩ : ∃ t, t = y % 2 := ⟨_, rfl⟩
      rw [← hy, ← ht] at hbit
      have e0 : ((i + 1 : Nat) : Int) - 1 = (i : Int) := by omega
      rw [e0]
      have d1 : (i : Int).tdiv 16 = (q : Int) := by rw [Int.tdiv_eq_ediv_of_nonneg (by omega)]; omega
      have d2 : (i : Int) / 16 = (q : Int) := by omega
      have d3 : (i : Int).tmod 16 = (r : Int) := by rw [Int.tmod_eq_emod_of_nonneg (by omega)]; omega
      have d4 : (i : Int) % 16 = (r : Int) := by omega
      have d5 := i64_keep q (by omega)
      have d6 := i64_keep r (by omega)
      have d7 : IntKind.u64.wrap (r : Int) = (r : Int) := by rw [IntKind.wrap_u64]; omega
      have d8 := i64_and_one y (by omega)
      rw [← ht] at d8
      have d9 : IntKind.i64.wrap ((i : Int) - 1) = (i : Int) - 1 := by rw [IntKind.wrap_i64]; omega
      have d10 : (q : Int) < 16 := by omega
      have d11 : (x : Int) / 2 ^ r = (y : Int) := by rw [hy, Int.natCast_ediv, Int.natCast_pow]; rfl
      have HU := Lib.hid hu
      have HV := Lib.hid hv
      have HZ := Lib.hid hz
      have HU16 := Lib.hid hu16
      have HV16 := Lib.hid hv16
      have HBIT := Lib.hid hbit
      have HT : Hid (t < 2) := Lib.hid (by omega)
      have HO := Lib.hid ho
      have HA9 := Lib.hid (HA6.out.grown hg (fun e => HN.out.1 (Option.some.inj e)))
      have HB9 := Lib.hid (HB6.out.grown hg (fun e => HN.out.2.1 (Option.some.inj e)))
      have HGR := Lib.hid hg
      have HC1 := Lib.hid c1
      clear hu hv hz hu16 hv16 hbit ho hg hq hr hx hy ht c1
      by_cases ht1 : t = 1
      · have f1 : (t : Int) = 1 := by omega
        subst ht1
        go_wp2_with (first
          | (with_reducible refine wpList_load_mid rfl 31 _ rfl go 0 rfl (num (dgt u)) _ (range_blk HO.out) Tryd.underlying31 rfl (num_size' _) ?_)
          | (go_at_call 30
             with_reducible refine (mul_any _ u u HU16.out HU16.out).mono ?_
             rw [← HV.out]
             rintro _ w7 ⟨rfl, hg7⟩
             have HO7 := Lib.hid (HO.out.grown hg7 (by simp))
             have HA7 := Lib.hid (HA9.out.grown hg7 (by simp))
             have HB7 := Lib.hid (HB9.out.grown hg7 (by simp))
             have HG7 : Hid (w6.grownBy w7 (some go)) := Lib.hid (World.grownBy.trans HGR.out (hg7.but _))
             clear hg7)
          | (refine wpList_store_row rfl 31 _ _ rfl go (num (dgt v)).toArray rfl rfl 31 _ HO7.out (num_size _) (num_same _ _) (all_oneCell_toArray (num_one _)) ?_
             obtain ⟨w8, hw8⟩ : ∃ w8, w8 = w7.setRow go (num (dgt v)).toArray := ⟨_, rfl⟩
             have hg8 : w7.grownBy w8 (some go) := by rw [hw8]; exact grown_setRow _ _ _
             have hl8 : Blk w8 go 31 (num (dgt v)) := by rw [hw8]; exact Blk.setRow HO7.out
             rw [← hw8]
             have HO8 := Lib.hid hl8
             have HA8 := Lib.hid (HA7.out.grown hg8 (fun e => HN.out.1 (Option.some.inj e)))
             have c1 := HC1.out w8 (HB7.out.grown hg8 (fun e => HN.out.2.1 (Option.some.inj e)))
             have HG8 : Hid (w6.grownBy w8 (some go)) := Lib.hid (World.grownBy.trans HG7.out hg8)
             clear hw8 hg8 hl8)
          | (refine wpList_load_mid rfl 31 _ rfl go 0 rfl (num (dgt v)) _ (range_blk HO8.out) Tryd.underlying31 rfl (num_size' _) ?_)
          | (refine wpList_load_mid rfl 31 _ rfl ga 0 rfl (num (dgt a)) _ (range_blk HA8.out) Tryd.underlying31 rfl (num_size' _) ?_)
          | (go_at_call 30
             with_reducible refine (mul_any _ v a HV16.out HAL.out).mono ?_
             rw [← HZ.out]
             rintro _ w9 ⟨rfl, hg9⟩
             have HO9 := Lib.hid (HO8.out.grown hg9 (by simp))
             have HG9 : Hid (w6.grownBy w9 (some go)) := Lib.hid (World.grownBy.trans HG8.out (hg9.but _))
             clear hg9)
          | (refine wpList_store_row rfl 31 _ _ rfl go (num (dgt z)).toArray rfl rfl 31 _ HO9.out (num_size _) (num_same _ _) (all_oneCell_toArray (num_one _)) ?_
             obtain ⟨w10, hw10⟩ : ∃ w10, w10 = w9.setRow go (num (dgt z)).toArray := ⟨_, rfl⟩
             have hg10 : w9.grownBy w10 (some go) := by rw [hw10]; exact grown_setRow _ _ _
             have hl10 : Blk w10 go 31 (num (dgt z)) := by rw [hw10]; exact Blk.setRow HO9.out
             rw [← hw10]
             have HO10 : Hid (Blk w10 go 31 (num (dgt (a ^ (n / 2 ^ i) % fq)))) := Lib.hid (hl10.to (by rw [pow_bit a n i 1 HBIT.out.symm, Nat.pow_one, pow_fin (HV.out.trans (pow_sq HU.out)) HZ.out]))
             have HG10 : Hid (w6.grownBy w10 (some go)) := Lib.hid (World.grownBy.trans HG9.out hg10)
             clear hw10 hg10 hl10)
          | fail)
        exact ⟨⟨i, by omega, rfl, HO10.out, HG10.out⟩, by simp [intOf]⟩
      · have f1 : ¬ (t : Int) = 1 := by omega
        have ht0 : t = 0 := by have := HT.out; omega
        subst ht0
        go_wp2_with (first
          | (with_reducible refine wpList_load_mid rfl 31 _ rfl go 0 rfl (num (dgt u)) _ (range_blk HO.out) Tryd.underlying31 rfl (num_size' _) ?_)
          | (go_at_call 30
             with_reducible refine (mul_any _ u u HU16.out HU16.out).mono ?_
             rw [← HV.out]
             rintro _ w7 ⟨rfl, hg7⟩
             have HO7 := Lib.hid (HO.out.grown hg7 (by simp))
             have HA7 := Lib.hid (HA9.out.grown hg7 (by simp))
             have HB7 := Lib.hid (HB9.out.grown hg7 (by simp))
             have HG7 : Hid (w6.grownBy w7 (some go)) := Lib.hid (World.grownBy.trans HGR.out (hg7.but _))
             clear hg7)
          | (refine wpList_store_row rfl 31 _ _ rfl go (num (dgt v)).toArray rfl rfl 31 _ HO7.out (num_size _) (num_same _ _) (all_oneCell_toArray (num_one _)) ?_
             obtain ⟨w8, hw8⟩ : ∃ w8, w8 = w7.setRow go (num (dgt v)).toArray := ⟨_, rfl⟩
             have hg8 : w7.grownBy w8 (some go) := by rw [hw8]; exact grown_setRow _ _ _
             have hl8 : Blk w8 go 31 (num (dgt v)) := by rw [hw8]; exact Blk.setRow HO7.out
             rw [← hw8]
             have HO8 := Lib.hid hl8
             have HA8 := Lib.hid (HA7.out.grown hg8 (fun e => HN.out.1 (Option.some.inj e)))
             have c1 := HC1.out w8 (HB7.out.grown hg8 (fun e => HN.out.2.1 (Option.some.inj e)))
             have HG8 : Hid (w6.grownBy w8 (some go)) := Lib.hid (World.grownBy.trans HG7.out hg8)
             clear hw8 hg8 hl8)
          | fail)
        have ho10 : Blk w8 go 31 (num (dgt (a ^ (n / 2 ^ i) % fq))) := HO8.out.to (by rw [HV.out, pow_bit a n i 0 HBIT.out.symm, Nat.pow_zero, Nat.mul_one, pow_sq HU.out])
        exact ⟨⟨i, by omega, rfl, ho10, HG8.out⟩, by simp [intOf]⟩
end Go.Proofs.YtoookolekpblhaaDoor
