/- The code's settle: limbs of a number below 2p become those of the number modulo p. Conditions: the limbs are not great, the number is below 2p. -/
import Derived.Test.YtoookolekpblhaaDoorBit
namespace Go.Proofs.YtoookolekpblhaaDoor
open Go.RowKit
/-- The first i limbs of g, the others of f. -/
def mx (g f : Nat → Int) (i j : Nat) : Int := if j < i then g j else f j
theorem mx_zero (g f : Nat → Int) : cl (mx g f 0) = cl f := cl_congr fun j _ => by simp [mx]
theorem mx_all (g f : Nat → Int) : cl (mx g f 5) = cl g := cl_congr fun j hj => by simp [mx, hj]
theorem mx_at (g f : Nat → Int) (i : Nat) : mx g f i i = f i := by simp [mx]
theorem mx_set (g f : Nat → Int) (i : Nat) (z : Int) (hz : z = g i) : (cl (mx g f i)).set i (.int .i64 z) = cl (mx g f (i + 1)) := by
  rw [cl_set]
  apply cl_congr
  intro j _
  unfold mx
  by_cases e : j = i
  · subst e; simp [hz]
  · have : (j < i + 1) = (j < i) := by simp; omega
    simp [e, this]
theorem mx_set2 (g f : Nat → Int) (i : Nat) (z y : Int) (hz : z = g i) : ((cl (mx g f i)).set i (.int .i64 y)).set i (.int .i64 z) = cl (mx g f (i + 1)) := by
  rw [List.set_set, mx_set g f i z hz]
theorem i64_in {x : Int} (h : -9223372036854775808 ≤ x ∧ x ≤ 9223372036854775807) : IntKind.i64.wrap x = x := by rw [IntKind.wrap_i64]; omega
set_option maxRecDepth 100000 in
set_option maxHeartbeats 1600000 in
theorem settle_any {W : World} {g : Nat} {f : Nat → Int} {x : Nat} (hb : Blk W g 27 (cl f)) (hf : ∀ i, i < 5 → -4611686018427387904 ≤ f i ∧ f i ≤ 4611686018427387904) (hx : tot f = (x : Int)) (hlt : x < 2 * fq) :
    Calls Tryd.prog 20 #[.pointer (some ⟨g, 0, none⟩)] W fun e w' => e = .returned (.tuple #[]) ∧ Blk w' g 27 (ls (x % fq)) ∧ W.grownBy w' (some g) ∧ w'.heap.size = W.heap.size := by
  have hc0 : ∀ i, i ≤ 5 → -10000 ≤ cr f 19 i ∧ cr f 19 i ≤ 10000 := fun i hi => cr_le hf (by omega) i hi
  obtain ⟨q, hq⟩ : ∃ q, q = cr f 19 5 := ⟨_, rfl⟩
  have hq2 := settle_q hx hlt
  rw [← hq] at hq2
  have hqb : q = 0 ∨ q = 1 := by rw [hq2]; split <;> omega
  have hc1 : ∀ i, i ≤ 5 → -10000 ≤ cr f (19 * q) i ∧ cr f (19 * q) i ≤ 10000 := fun i hi => cr_le hf (by omega) i hi
  have hend : cl (st f (19 * q)) = ls (x % fq) := cl_congr (settle_is hx hlt hq2)
  rw [← hend]
  obtain ⟨dd, hdd⟩ : ∃ d, d = 19 * q := ⟨_, rfl⟩
  rw [← hdd] at hc1 ⊢
  have HDD := Lib.hid hdd
  have HB := Lib.hid hb
  have HF := Lib.hid hf
  have HC0 := Lib.hid hc0
  have HC1 := Lib.hid hc1
  have HQ := Lib.hid hq
  have HQB := Lib.hid hqb
  clear hb hf hx hlt hc0 hc1 hq hq2 hqb hend hdd
  go_enter Tryd.func20, Tryd.ntmps20
  go_wp2_with (fail)
  go_loopw [2, 9] (fun u v wr => ∃ i : Nat, i ≤ 5 ∧ v = .int .i64 (i : Int) ∧ u = .int .i64 (cr f 19 i) ∧ Blk wr g 27 (cl f) ∧ W.grownBy wr (some g) ∧ wr.heap.size = W.heap.size) (fun _ v _ => 5 - (intOf v).toNat)
  case atStart => exact ⟨0, by omega, rfl, rfl, HB.out, World.grownBy.refl _ _, rfl⟩
  case round =>
    obtain ⟨i, hi, rfl, rfl, hb, hg, hz⟩ := hrel
    by_cases hlt : i < 5
    · have c1 := hb.get i _ (cl_get f i hlt)
      have d1 : IntKind.i64.wrap (f i + cr f 19 i) = f i + cr f 19 i := by
        have h1 := HF.out i hlt
        have h2 := HC0.out i hi
        exact i64_in (by omega)
      have HB2 := Lib.hid hb
      have HG2 := Lib.hid hg
      have HZ := Lib.hid hz
      clear hb hg hz
      go_wp2_with (fail)
      go_roundw
      case rel => exact ⟨i + 1, by omega, by go_num, by rw [cr], HB2.out, HG2.out, HZ.out⟩
      case measure => simp [intOf]; omega
    · have ei : i = 5 := by omega
      have eq5 : cr f 19 i = q := by rw [ei, HQ.out]
      obtain ⟨n9, hn9⟩ : ∃ n : Int, n = (i : Int) := ⟨_, rfl⟩
      have hn5 : ¬ n9 < 5 := by omega
      rw [eq5, ← hn9]
      clear eq5 ei hn9
      have HB2 := Lib.hid hb
      have HG2 := Lib.hid hg
      have HZ := Lib.hid hz
      have dq : IntKind.i64.wrap (q * 19) = dd := by
        have := HQB.out
        rw [i64_in (by omega), HDD.out]
        omega
      clear hb hg hz hlt hi HB HQ HQB HC0 HDD
      go_wp2_with (fail)
      clear dq
      go_loopw [2, 21] (fun u v wx => ∃ i : Nat, i ≤ 5 ∧ v = .int .i64 (i : Int) ∧ u = .int .i64 (cr f dd i) ∧ Blk wx g 27 (cl (mx (st f dd) f i)) ∧ W.grownBy wx (some g) ∧ wx.heap.size = W.heap.size) (fun _ v _ => 5 - (intOf v).toNat)
      case atStart => exact ⟨0, by omega, rfl, rfl, by rw [mx_zero]; exact HB2.out, HG2.out, HZ.out⟩
      case round =>
        clear HB2 HG2 HZ
        obtain ⟨i, hi, rfl, rfl, hb, hg, hz⟩ := hrel
        by_cases hlt : i < 5
        · have c1 := hb.get i _ (cl_get _ i hlt)
          rw [mx_at] at c1
          have hfz := hb.frozen i
          obtain ⟨y, hy⟩ : ∃ y, y = f i + cr f dd i := ⟨_, rfl⟩
          have hyb : -9223372036854775808 ≤ y ∧ y ≤ 9223372036854775807 := by
            have h1 := HF.out i hlt
            have h2 := HC1.out i hi
            omega
          have d1 : IntKind.i64.wrap (f i + cr f dd i) = y := by
            rw [hy]
            exact i64_in (by omega)
          have HY := Lib.hid hy
          have HYB := Lib.hid hyb
          have HB2 := Lib.hid hb
          have HG2 := Lib.hid hg
          have HZ := Lib.hid hz
          clear hb hg hz hy hyb
          go_wp2_with (fail)
          refine wp_region_still_tail 11 (by kernel_rfl) (by kernel_rfl) ?_
          change wpStill _ _ wr.drew (fun a' => wpList _ _ _ _ a' wr.drew) _ _
          simp only [List.take_succ_cons, List.take_zero, List.drop_succ_cons, List.drop_zero]
          repeat still_step
          refine wpStill_nil ?_
          go_wp2
          obtain ⟨w1, hw1⟩ : ∃ w1, w1 = (wr.setCell ⟨g, i, none⟩ (.int .i64 y)).drew := ⟨_, rfl⟩
          have hb1 : Blk w1 g 27 ((cl (mx (st f dd) f i)).set i (.int .i64 y)) := by rw [hw1]; exact (HB2.out.set i _).keep rfl
          have hg1 : W.grownBy w1 (some g) := by rw [hw1]; exact grown_drew (World.grownBy.trans HG2.out (grown_set wr g i _))
          have hz1 : w1.heap.size = W.heap.size := by rw [hw1]; exact (size_set _ _ _).trans HZ.out
          rw [← hw1]
          have c2 := hb1.get i (.int .i64 y) (by rw [List.getElem?_set, cl_length, if_pos rfl, if_pos hlt])
          have hf2 := hb1.frozen i
          have d2 := and51 y
          have hs2 : y % 2251799813685248 = st f dd i := by rw [HY.out, st]
          obtain ⟨z, hz'⟩ : ∃ z, z = st f dd i := ⟨_, rfl⟩
          have hset := mx_set2 (st f dd) f i z y hz'
          rw [← hz'] at hs2
          rw [hs2] at d2
          have d3 : y / 2251799813685248 = cr f dd (i + 1) := by rw [HY.out, cr]
          obtain ⟨c', hc'⟩ : ∃ c', c' = cr f dd (i + 1) := ⟨_, rfl⟩
          rw [← hc'] at d3
          have HC' := Lib.hid hc'
          have HB1 := Lib.hid hb1
          have HG1 := Lib.hid hg1
          have HZ1 := Lib.hid hz1
          have HSET := Lib.hid hset
          clear hb1 hg1 hz1 hset hw1 HB2 HG2 HZ d1 c1 hfz hz' hs2 hc'
          go_wp2_with (fail)
          refine wp_region_still_tail 10 (by kernel_rfl) (by kernel_rfl) ?_
          change wpStill _ _ w1.drew (fun a' => wpList _ _ _ _ a' w1.drew) _ _
          simp only [List.take_succ_cons, List.take_zero, List.drop_succ_cons, List.drop_zero]
          repeat still_step
          refine wpStill_nil ?_
          go_wp2
          go_roundw
          case rel =>
            refine ⟨i + 1, by omega, by go_num, by rw [← HC'.out], ?_, World.grownBy.trans (grown_drew HG1.out) (grown_set w1.drew g i _), (size_set _ _ _).trans HZ1.out⟩
            exact ((HB1.out.keep (w' := w1.drew) rfl).set i _).to HSET.out
          case measure => simp [intOf]; omega
        · have ei : i = 5 := by omega
          subst ei
          rw [mx_all] at hb
          have HB2 := Lib.hid hb
          have HG2 := Lib.hid hg
          have HZ := Lib.hid hz
          clear hb hg hz hlt hi
          go_wp2
          go_end0
          exact ⟨rfl, HB2.out, HG2.out, HZ.out⟩
end Go.Proofs.YtoookolekpblhaaDoor
