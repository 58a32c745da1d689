/- The reference's products. Conditions: the numbers have sixteen digits. -/
import Derived.Test.YtoookolekpblhaaDoorNum7
namespace Go.Proofs.YtoookolekpblhaaDoor
open Go.RowKit
/-- While products are added up. -/
def MuR (a b i k : Nat) (D : List Nat) : Prop :=
  D.length = 31 ∧ vl D = a % 65536 ^ i * b + 65536 ^ i * (dgt a i * (b % 65536 ^ k)) ∧ ∀ j, D.getD j 0 ≤ (i + if j < i + k then 1 else 0) * 4294836225
theorem MuR.zero (a b : Nat) : MuR a b 0 0 (List.replicate 31 0) := by
  refine ⟨by simp, ?_, fun j => ?_⟩
  · rw [vl_zeros]
    simp [Nat.mod_one]
  · rw [List.getD_eq_getElem?_getD, List.getElem?_replicate]
    split <;> simp
theorem MuR.step {a b i k : Nat} {D : List Nat} (h : MuR a b i k D) (hi : i < 16) (hk : k < 16) : MuR a b i (k + 1) (D.set (i + k) (D.getD (i + k) 0 + dgt a i * dgt b k)) := by
  obtain ⟨h1, h2, h3⟩ := h
  refine ⟨by rw [List.length_set]; exact h1, ?_, fun j => ?_⟩
  · rw [vl_set_add D (i + k) _ (by omega), h2, Nat.mod_pow_succ, Nat.pow_add]
    have e : b / 65536 ^ k % 65536 = dgt b k := rfl
    rw [e]
    generalize dgt a i = x
    generalize dgt b k = y
    generalize 65536 ^ i = P
    generalize 65536 ^ k = R
    rw [Nat.mul_add x, Nat.mul_add P, ← Nat.add_assoc]
    congr 1
    rw [Nat.mul_assoc, Nat.mul_left_comm R x y]
  · have hx : dgt a i ≤ 65535 := by have := dgt_lt a i; omega
    have hy : dgt b k ≤ 65535 := by have := dgt_lt b k; omega
    have hxy : dgt a i * dgt b k ≤ 65535 * 65535 := Nat.mul_le_mul hx hy
    rw [List.getD_eq_getElem?_getD, List.getElem?_set]
    by_cases hj : i + k = j
    · rw [if_pos hj]
      have h4 := h3 (i + k)
      rw [if_neg (by omega)] at h4
      subst hj
      rw [if_pos (by omega), if_pos (by omega), Option.getD_some, Nat.add_mul]
      omega
    · rw [if_neg hj, ← List.getD_eq_getElem?_getD]
      refine Nat.le_trans (h3 j) (Nat.mul_le_mul_right _ ?_)
      split <;> split <;> omega
theorem MuR.next {a b i : Nat} {D : List Nat} (h : MuR a b i 16 D) (hb : b < 65536 ^ 16) : MuR a b (i + 1) 0 D := by
  obtain ⟨h1, h2, h3⟩ := h
  refine ⟨h1, ?_, fun j => ?_⟩
  · rw [h2, Nat.mod_eq_of_lt hb, Nat.mod_pow_succ, Nat.pow_zero, Nat.mod_one, Nat.mul_zero, Nat.mul_zero, Nat.add_zero, Nat.add_mul, ← Nat.mul_assoc (65536 ^ i)]
    rfl
  · refine Nat.le_trans (h3 j) (Nat.mul_le_mul_right _ ?_)
    split <;> omega
theorem MuR.le {a b i k : Nat} {D : List Nat} (h : MuR a b i k D) (hi : i ≤ 16) : ∀ j, D.getD j 0 ≤ 73012215825 := fun j => by
  refine Nat.le_trans (h.2.2 j) (Nat.le_trans (Nat.mul_le_mul_right 4294836225 (show i + (if j < i + k then 1 else 0) ≤ 17 by split <;> omega)) (by decide))
theorem MuR.mem {a b i k : Nat} {D : List Nat} (h : MuR a b i k D) (hi : i ≤ 16) : ∀ x ∈ D, x ≤ 1099511627776 := by
  intro x hx
  obtain ⟨j, hj, rfl⟩ := List.mem_iff_getElem.1 hx
  have := h.le hi j
  rw [List.getD_eq_getElem?_getD, List.getElem?_eq_getElem hj] at this
  exact Nat.le_trans this (by decide)
theorem MuR.all {a b : Nat} {D : List Nat} (h : MuR a b 16 0 D) (ha : a < 65536 ^ 16) : vl D = a * b := by
  rw [h.2.1, Nat.mod_eq_of_lt ha, Nat.pow_zero, Nat.mod_one]
  simp
set_option maxRecDepth 100000 in
set_option maxHeartbeats 1600000 in
theorem mul_any (w : World) (a b : Nat) (ha : a < 65536 ^ 16) (hb : b < 65536 ^ 16) : Calls Tryd.prog 30 #[.agg (num (dgt a)).toArray, .agg (num (dgt b)).toArray] w fun e w' => e = .returned (.agg (num (dgt (a * b % fq))).toArray) ∧ w.grownBy w' none := by
  have hf : ∀ (W : World) (g : Nat) (D : List Nat), MuR a b 16 0 D → Blk W g 3 (ints D) → Calls Tryd.prog 21 #[.slice (some ⟨g, 0, none⟩) 31 31] W fun e w' => e = .returned (.agg (num (dgt (a * b % fq))).toArray) ∧ W.grownBy w' (some g) := fun W g D hD h => by
    have hp : a * b < 65536 ^ 32 := by
      have := Nat.mul_lt_mul'' ha hb
      rwa [← Nat.pow_add] at this
    have := fold_any h hD.1 (by omega) (by omega) (hD.mem (Nat.le_refl _)) (by rw [hD.all ha]; exact hp)
    rwa [hD.all ha] at this
  have HF := Lib.hid hf
  have HBL := Lib.hid hb
  clear hf ha hb
  obtain ⟨i0, hi0, hz0, hz1, hz2⟩ := info_parts Tryd.info3
  go_enter Tryd.func30, Tryd.ntmps30
  go_wp2_with (refine wpList_box32 rfl _ (dgt a) rfl rfl ?_)
  intro w1 hb1 hg1 hz1'
  go_wp2_with (refine wpList_box32 rfl _ (dgt b) rfl rfl ?_)
  intro w2 hb2 hg2 hz2'
  go_wp2_with (refine wpList_alloc32 rfl rfl ?_)
  intro w3 hb3 hg3 hz3
  obtain ⟨ga, hga⟩ : ∃ g, g = w.heap.size := ⟨_, rfl⟩
  obtain ⟨gb, hgb⟩ : ∃ g, g = w.heap.size + 1 := ⟨_, rfl⟩
  obtain ⟨gr, hgr⟩ : ∃ g, g = w.heap.size + 1 + 1 := ⟨_, rfl⟩
  rw [← hgr, ← hgb, ← hga]
  rw [← hga] at hb1
  rw [← hgb] at hb2
  rw [← hgr] at hb3
  have HA : Hid (Blk w3 ga 31 (num (dgt a))) := Lib.hid ((hb1.grown hg2 (by simp)).grown hg3 (by simp))
  have HB : Hid (Blk w3 gb 31 (num (dgt b))) := Lib.hid (hb2.grown hg3 (by simp))
  have HR : Hid (Blk w3 gr 31 (num fun _ => 0)) := Lib.hid hb3
  have HG : Hid (w.grownBy w3 none) := Lib.hid (World.grownBy.trans (World.grownBy.trans hg1 hg2) hg3)
  have HWR : Hid (w.heap.size ≤ gr) := Lib.hid (by omega)
  clear hb1 hg1 hz1' hb2 hg2 hz2' hb3 hg3 hz3 hga hgb hgr
  go_wp2_with (with_reducible refine wpList_make_full _ rfl _ _ 43 rfl w3.heap.size 3 i0 (.int .i64 0) 1 Tryd.underlying43 hi0 hz0 hz1 .i64 .i64 _ _ 31 rfl rfl rfl rfl ?n1 ?n2 ?n3 ?_)
  case n1 => rw [hz2]; omega
  case n2 => unfold maxLen; omega
  case n3 => exact Nat.le_refl _
  intro w4 hown hg4
  rw [made_ints] at hown
  obtain ⟨gs, hgs⟩ : ∃ g, g = w3.heap.size := ⟨_, rfl⟩
  rw [← hgs] at hown ⊢
  have hb4 := Blk.of_owns_e hown
  have h1 := HA.out.lt
  have h2 := HB.out.lt
  have h3 := HR.out.lt
  have h4 := HG.out.size
  have HS : Hid (Blk w4 gs 3 (ints (List.replicate 31 0))) := Lib.hid hb4
  have HA4 := Lib.hid (HA.out.grown hg4 (by simp))
  have HB4 := Lib.hid (HB.out.grown hg4 (by simp))
  have HR4 := Lib.hid (HR.out.grown hg4 (by simp))
  have HG4 := Lib.hid (World.grownBy.trans HG.out hg4)
  have HN : Hid (ga ≠ gs ∧ gb ≠ gs ∧ gr ≠ gs ∧ w.heap.size ≤ gs) := Lib.hid (by omega)
  clear hown hb4 hgs hg4 hi0 hz0 hz1 hz2 h1 h2 h3 h4 HA HB HR HG
  go_wp2_with (fail)
  go_loopw [6, 7] (fun x _ wr => ∃ (i : Nat) (D : List Nat), i ≤ 16 ∧ x = .int .i64 (i : Int) ∧ MuR a b i 0 D ∧ Blk wr gs 3 (ints D) ∧ w4.grownBy wr (some gs)) (fun x _ _ => 16 - (intOf x).toNat)
  case atStart => exact ⟨0, _, Nat.zero_le _, rfl, MuR.zero a b, HS.out, World.grownBy.refl _ _⟩
  case round =>
    clear HS
    obtain ⟨i, D, hi, rfl, hM, hs, hg⟩ := hrel
    by_cases hlt : i < 16
    · have e1 : (i : Int) < 16 := by omega
      have HS := Lib.hid hs
      have HM := Lib.hid hM
      have HGI := Lib.hid hg
      have HI := Lib.hid hlt
      clear hs hM hg hlt hi
      go_wp2_with (fail)
      go_loopw [7] (fun x wr => ∃ (k : Nat) (D : List Nat), k ≤ 16 ∧ x = .int .i64 (k : Int) ∧ MuR a b i k D ∧ Blk wr gs 3 (ints D) ∧ w4.grownBy wr (some gs)) (fun x _ => 16 - (intOf x).toNat)
      case atStart => exact ⟨0, D, Nat.zero_le _, rfl, HM.out, HS.out, HGI.out⟩
      case round =>
        clear HS HM HGI
        obtain ⟨k, D, hk, rfl, hM, hs, hg⟩ := hrel
        by_cases hlt : k < 16
        · have e2 : (k : Int) < 16 := by omega
          have hi16 := HI.out
          obtain ⟨p, hp⟩ : ∃ p, p = i + k := ⟨_, rfl⟩
          have hp31 : p < 31 := by omega
          have c1 := (HA4.out.grown hg (fun e => HN.out.1 (Option.some.inj e))).get i _ (num_get (dgt a) i hi16)
          have c2 := (HB4.out.grown hg (fun e => HN.out.2.1 (Option.some.inj e))).get k _ (num_get (dgt b) k hlt)
          have c3 := hs.get p _ (ints_at _ p (by rw [hM.1]; exact hp31))
          have hf := hs.frozen p
          have hz1 := hM.le (Nat.le_of_lt hi16) p
          have hst := hM.step hi16 hlt
          rw [← hp] at hst
          obtain ⟨z, hz⟩ : ∃ z, z = D.getD p 0 := ⟨_, rfl⟩
          have hx1 : dgt a i ≤ 65535 := by have := dgt_lt a i; omega
          have hy1 : dgt b k ≤ 65535 := by have := dgt_lt b k; omega
          have hxy1 : dgt a i * dgt b k ≤ 65535 * 65535 := Nat.mul_le_mul hx1 hy1
          obtain ⟨x, hx⟩ : ∃ x, x = dgt a i := ⟨_, rfl⟩
          obtain ⟨y, hy⟩ : ∃ y, y = dgt b k := ⟨_, rfl⟩
          rw [← hx] at c1 hst hxy1
          rw [← hy] at c2 hst hxy1
          rw [← hz] at c3 hz1 hst
          obtain ⟨t, ht⟩ : ∃ t, t = x * y := ⟨_, rfl⟩
          rw [← ht] at hst hxy1
          obtain ⟨s, hs'⟩ : ∃ s, s = z + t := ⟨_, rfl⟩
          rw [← hs'] at hst
          have hs2 := (hs.set p (.int .i64 (s : Int))).to (ints_set D p s)
          have d0 : (x : Int) * (y : Int) = (t : Int) := by rw [ht]; exact (Int.natCast_mul x y).symm
          have d1 : (i : Int) + (k : Int) = (p : Int) := by omega
          have d2 := i64_keep p (by omega)
          have d3 := i64_keep t (by omega)
          have d4 : (z : Int) + (t : Int) = (s : Int) := by omega
          have d5 := i64_keep s (by omega)
          have d6 : (p : Int) < 31 := by omega
          have HST := Lib.hid hst
          have HS2 := Lib.hid hs2
          have HG2 := Lib.hid hg
          clear hx hy hz hs' ht hs2 hs hg hst hM hp hx1 hy1
          go_wp2_with (fail)
          refine wp_region_still_tail 19 (by kernel_rfl) (by kernel_rfl) ?_
          change wpStill _ _ wr.drew (fun a' => wpList _ _ _ _ a' wr.drew) _ _
          simp only [List.take_succ_cons, List.take_zero, List.drop_succ_cons, List.drop_zero]
          repeat still_step
          refine wpStill_nil ?_
          go_wp2
          exact ⟨⟨k + 1, D.set p s, by omega, by go_num, HST.out, HS2.out.keep rfl, World.grownBy.trans (grown_drew HG2.out) (grown_set wr.drew gs p _)⟩, by simp [intOf]; omega⟩
        · have ek : k = 16 := by omega
          subst ek
          have HM := Lib.hid (hM.next HBL.out)
          have HS := Lib.hid hs
          have HG2 := Lib.hid hg
          have hi16 := HI.out
          clear hM hs hg hlt hk
          go_wp2_with (fail)
          go_roundw
          case rel => exact ⟨i + 1, D, by omega, by go_num, HM.out, HS.out, HG2.out⟩
          case measure => simp [intOf]; omega
    · have ei : i = 16 := by omega
      subst ei
      have HM := Lib.hid hM
      have HS3 := Lib.hid hs
      have HR3 := Lib.hid (HR4.out.grown hg (fun e => HN.out.2.2.1 (Option.some.inj e)))
      have HG3 : Hid (w.grownBy wr none) := Lib.hid (World.grownBy.andThen HG4.out hg (by rintro _ ⟨⟩; exact .inl HN.out.2.2.2))
      clear hs hg hlt hi hM
      go_wp2_with (first
        | (go_at_call 21
           refine (HF.out wr gs D HM.out HS3.out).mono ?_
           rintro _ w5 ⟨rfl, hg5⟩
           have HR5 := Lib.hid (HR3.out.grown hg5 (fun e => HN.out.2.2.1 (Option.some.inj e)))
           have HG5 : Hid (w.grownBy w5 none) := Lib.hid (World.grownBy.andThen HG3.out hg5 (by rintro _ ⟨⟩; exact .inl HN.out.2.2.2))
           clear hg5)
        | (refine wpList_store_row rfl 31 _ _ rfl gr (num (dgt (a * b % fq))).toArray rfl rfl 31 _ HR5.out (num_size _) (num_same _ _) (all_oneCell_toArray (num_one _)) ?_))
      exact bodyPost_ret (results_cell_row rfl _ _ gr 31 (num (dgt (a * b % fq))).toArray (0, 0) _ rfl (setRow_heap w5 gr _ _ 31 (0, 0) HR5.out) Tryd.underlying31 rfl (num_size _)) rfl ⟨rfl, World.grownBy.andThen HG5.out (grown_setRow _ _ _) (by rintro _ ⟨⟩; exact .inl HWR.out)⟩
end Go.Proofs.YtoookolekpblhaaDoor
