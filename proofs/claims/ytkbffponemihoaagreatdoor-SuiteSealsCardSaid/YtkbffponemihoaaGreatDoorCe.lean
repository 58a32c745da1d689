/- Each column is mixed, in its place. Conditions: a block of 16 bytes lies there. The contrary of mixing the columns, in their place. Conditions: a block of 16 bytes lies there. -/
import Derived.Test.YtkbffponemihoaaGreatDoorCd
import Derived.BigQuiet
namespace Go.Proofs.YtkbffponemihoaaGreatDoor.C
open Go.RowKit
theorem below_at (c : Nat) (q p : Nat) (hp : p < 4) (i j : Fin 16) (hi : i.val = 4 * c + p) (hj : j.val = 4 * c + (p + q) % 4) : below q i = j := by
  apply Fin.ext
  show i.val / 4 * 4 + (i.val + q) % 4 = j.val
  rw [hi, hj]
  omega
theorem mix_col (s : State) (c : Nat) (i0 i1 i2 i3 : Fin 16) (h0 : i0.val = 4 * c + 0) (h1 : i1.val = 4 * c + 1) (h2 : i2.val = 4 * c + 2) (h3 : i3.val = 4 * c + 3) :
    mixS s i0 = mixA (s i0) (s i1) (s i2) (s i3) ∧ mixS s i1 = mixA (s i1) (s i2) (s i3) (s i0) ∧ mixS s i2 = mixA (s i2) (s i3) (s i0) (s i1) ∧ mixS s i3 = mixA (s i3) (s i0) (s i1) (s i2) := by
  unfold mixS
  rw [below_at c 1 0 (by omega) i0 i1 h0 h1, below_at c 2 0 (by omega) i0 i2 h0 h2, below_at c 3 0 (by omega) i0 i3 h0 h3]
  rw [below_at c 1 1 (by omega) i1 i2 h1 h2, below_at c 2 1 (by omega) i1 i3 h1 h3, below_at c 3 1 (by omega) i1 i0 h1 h0]
  rw [below_at c 1 2 (by omega) i2 i3 h2 h3, below_at c 2 2 (by omega) i2 i0 h2 h0, below_at c 3 2 (by omega) i2 i1 h2 h1]
  rw [below_at c 1 3 (by omega) i3 i0 h3 h0, below_at c 2 3 (by omega) i3 i1 h3 h1, below_at c 3 3 (by omega) i3 i2 h3 h2]
  exact ⟨rfl, rfl, rfl, rfl⟩
/-- A block of 16 bytes under way. -/
def Bat (W : World) (gb : Nat) (s : State) (V : World) : Prop := Blk V gb 48 (bytesOf s) ∧ W.grownBy V (some gb) ∧ V.heap.size = W.heap.size
theorem Bat.drew {W V : World} {gb : Nat} {s : State} (h : Bat W gb s V) : Bat W gb s V.drew := ⟨h.1.keep rfl, grown_drew h.2.1, h.2.2⟩
theorem Bat.drewN {W V : World} {gb : Nat} {s : State} (h : Bat W gb s V) (n : Nat) : Bat W gb s (V.drewN n) := ⟨h.1.keep rfl, ⟨h.2.1.os, h.2.1.tape, h.2.1.output, h.2.1.size, h.2.1.block⟩, h.2.2⟩
theorem Bat.put {W V : World} {gb : Nat} {s t : State} {i : Nat} (h : Bat W gb (part i t s) V) (hi : i < 16) : Bat W gb (part (i + 1) t s) (V.setCell ⟨gb, i, none⟩ (.int .u8 ((t ⟨i, hi⟩).toNat : Int))).drew := by
  have hset := bytesOf_set (part i t s) i (t ⟨i, hi⟩)
  rw [part_set] at hset
  exact Bat.drew ⟨(h.1.set i _).to hset, World.grownBy.trans h.2.1 (grown_set _ _ _ _), (size_set _ _ _).trans h.2.2⟩
theorem Bat.at {W V : World} {gb : Nat} {s t : State} {i j : Nat} (h : Bat W gb (part i t s) V) (hj : j < 16) (hij : i ≤ j) : V.cell? ⟨gb, j, none⟩ = some (.int .u8 ((s ⟨j, hj⟩).toNat : Int)) := by
  have h1 := h.1.get j _ (bytesOf_get _ j hj)
  have h2 : ¬ j < i := by omega
  unfold part at h1
  simpa [h2] using h1
set_option maxRecDepth 100000 in
set_option maxHeartbeats 3200000 in
theorem mix_any {W : World} {gb : Nat} {s : State} (hb : Blk W gb 48 (bytesOf s)) :
    Calls Tryz.prog 70 #[.pointer (some ⟨gb, 0, none⟩)] W fun e w' => e = .returned (.tuple #[]) ∧ Bat W gb (mixS s) w' := by
  obtain ⟨T, hT⟩ : ∃ T, T = mixS s := ⟨_, rfl⟩
  rw [← hT]
  have HT := Lib.hid hT
  have HB := Lib.hid hb
  clear hT hb
  go_enter Tryz.func70, Tryz.ntmps70
  go_wp2_with (fail)
  go_loopw [2] (fun v wr => ∃ k : Nat, k ≤ 4 ∧ v = .int .i64 ((4 * k : Nat) : Int) ∧ Bat W gb (part (4 * k) T s) wr) (fun v _ => 16 - (intOf v).toNat)
  case atStart => exact ⟨0, by omega, rfl, by rw [part_zero]; exact ⟨HB.out, World.grownBy.refl _ _, rfl⟩⟩
  case round =>
    clear HB
    obtain ⟨k, hk, rfl, hb⟩ := hrel
    by_cases hlt : k < 4
    · obtain ⟨i0, h0⟩ : ∃ i, i = 4 * k := ⟨_, rfl⟩
      obtain ⟨i1, h1⟩ : ∃ i, i = 4 * k + 1 := ⟨_, rfl⟩
      obtain ⟨i2, h2⟩ : ∃ i, i = 4 * k + 2 := ⟨_, rfl⟩
      obtain ⟨i3, h3⟩ : ∃ i, i = 4 * k + 3 := ⟨_, rfl⟩
      have g0 : i0 < 16 := by omega
      have g1 : i1 < 16 := by omega
      have g2 : i2 < 16 := by omega
      have g3 : i3 < 16 := by omega
      rw [← h0] at hb
      have c0 := hb.at (j := i0) g0 (by omega)
      have c1 := hb.at (j := i1) g1 (by omega)
      have c2 := hb.at (j := i2) g2 (by omega)
      have c3 := hb.at (j := i3) g3 (by omega)
      obtain ⟨z0, z1, z2, z3⟩ := mix_col s k ⟨i0, g0⟩ ⟨i1, g1⟩ ⟨i2, g2⟩ ⟨i3, g3⟩ h0 h1 h2 h3
      rw [← HT.out] at z0 z1 z2 z3
      have hpart := fun (j : Nat) (V : World) (h : Bat W gb (part j T s) V) (p : Nat) (hp : p < 16) (hij : j ≤ p) => h.at hp hij
      have HAT := Lib.hid hpart
      clear hpart
      obtain ⟨a, ha⟩ : ∃ a, a = s ⟨i0, g0⟩ := ⟨_, rfl⟩
      obtain ⟨b, hb'⟩ : ∃ b, b = s ⟨i1, g1⟩ := ⟨_, rfl⟩
      obtain ⟨c, hc⟩ : ∃ c, c = s ⟨i2, g2⟩ := ⟨_, rfl⟩
      obtain ⟨d, hd⟩ : ∃ d, d = s ⟨i3, g3⟩ := ⟨_, rfl⟩
      rw [← ha, ← hb', ← hc, ← hd, ← mix_by a b c d] at z0
      rw [← ha, ← hb', ← hc, ← hd, ← mix_by1 a b c d] at z1
      rw [← ha, ← hb', ← hc, ← hd, ← mix_by2 a b c d] at z2
      rw [← ha, ← hb', ← hc, ← hd, ← mix_by3 a b c d] at z3
      rw [← ha] at c0
      rw [← hb'] at c1
      rw [← hc] at c2
      rw [← hd] at c3
      have HA := Lib.hid ha
      have HBB := Lib.hid hb'
      have HCC := Lib.hid hc
      have HD := Lib.hid hd
      have HNX := Lib.hid (show i1 = i0 + 1 ∧ i2 = i1 + 1 ∧ i3 = i2 + 1 ∧ i3 + 1 = 4 * (k + 1) by omega)
      have f1 : IntKind.i64.wrap (i1 : Int) = (i1 : Int) := i64_keep i1 (by omega)
      have f2 : IntKind.i64.wrap (i2 : Int) = (i2 : Int) := i64_keep i2 (by omega)
      have f3 : IntKind.i64.wrap (i3 : Int) = (i3 : Int) := i64_keep i3 (by omega)
      have f4 : (i0 : Int) + 1 = (i1 : Int) := by omega
      have f5 : (i0 : Int) + 2 = (i2 : Int) := by omega
      have f6 : (i0 : Int) + 3 = (i3 : Int) := by omega
      obtain ⟨i4, h4⟩ : ∃ i, i = 4 * (k + 1) := ⟨_, rfl⟩
      have f7 : IntKind.i64.wrap (i4 : Int) = (i4 : Int) := i64_keep i4 (by omega)
      have f8 : (i0 : Int) + 4 = (i4 : Int) := by omega
      have H4 := Lib.hid h4
      have l0 : (i0 : Int) < 16 := by omega
      have l1 : (i1 : Int) < 16 := by omega
      have l2 : (i2 : Int) < 16 := by omega
      have l3 : (i3 : Int) < 16 := by omega
      have HBT := Lib.hid hb
      have HK : Hid ((i0 : Int) = 4 * (k : Int)) := Lib.hid (by omega)
      rw [← h0]
      have Z0 := Lib.hid z0
      have Z1 := Lib.hid z1
      have Z2 := Lib.hid z2
      have Z3 := Lib.hid z3
      clear z0 z1 z2 z3 h4 h0 h1 h2 h3 ha hb' hc hd hb hlt
      go_wp2_with (fail)
      go_quiet (fail)
      clear c0 c1 c2 c3
      have e1 := b_xor a b
      have e2 := b_xor (a ^^^ b) c
      have e3 := b_xor (a ^^^ b ^^^ c) d
      obtain ⟨l, hl⟩ : ∃ l, l = a ^^^ b ^^^ c ^^^ d := ⟨_, rfl⟩
      have ZZ0 := Z0.out
      have ZZ1 := Z1.out
      have ZZ2 := Z2.out
      have ZZ3 := Z3.out
      rw [← hl] at ZZ0 ZZ1 ZZ2 ZZ3 e3
      generalize a ^^^ b ^^^ c = p2 at e2 e3
      generalize a ^^^ b = p1 at e1 e2
      have HZ0 := Lib.hid ZZ0
      have HZ1 := Lib.hid ZZ1
      have HZ2 := Lib.hid ZZ2
      have HZ3 := Lib.hid ZZ3
      clear Z0 Z1 Z2 Z3 hl ZZ0 ZZ1 ZZ2 ZZ3
      go_wp2_with (fail)
      clear e1 e2 e3
      obtain ⟨V0, hV0⟩ : ∃ V, V = wr.drewN nq := ⟨_, rfl⟩
      have HB0 : Hid (Bat W gb (part i0 T s) V0) := by rw [hV0]; exact Lib.hid (HBT.out.drewN nq)
      rw [← hV0]
      clear hV0 HBT
      have c0 : V0.cell? ⟨gb, i0, none⟩ = some (.int .u8 (a.toNat : Int)) := by rw [HA.out]; exact HAT.out i0 V0 HB0.out i0 g0 (Nat.le_refl _)
      have hf0 := HB0.out.1.frozen i0
      have x0 := b_xor a b
      have y0 := b_xor l (xt (a ^^^ b))
      have w0 := b_xor a (l ^^^ xt (a ^^^ b))
      rw [← HZ0.out] at w0
      generalize l ^^^ xt (a ^^^ b) = m0 at y0 w0
      generalize a ^^^ b = n0 at x0 y0
      have t0 := fun V => dbl_any n0 V
      refine wp_region_still_tail 14 (by kernel_rfl) (by kernel_rfl) ?_
      change wpStill _ _ V0.drew (fun a' => wpList _ _ _ _ a' V0.drew) _ _
      simp only [List.take_succ_cons, List.take_zero, List.drop_succ_cons, List.drop_zero]
      repeat still_step
      still_call (t0 _)
      repeat still_step
      refine wpStill_nil ?_
      go_wp2_with (fail)
      obtain ⟨V1, hV1⟩ : ∃ V, V = (V0.setCell ⟨gb, i0, none⟩ (.int .u8 ((T ⟨i0, g0⟩).toNat : Int))).drew := ⟨_, rfl⟩
      have HB1 : Hid (Bat W gb (part (i0 + 1) T s) V1) := by rw [hV1]; exact Lib.hid (HB0.out.put g0)
      rw [← hV1]
      clear hV1 HB0 c0 hf0 t0 x0 y0 w0 HZ0 
      rw [← (HNX.out).1] at HB1
      have c1 : V1.cell? ⟨gb, i1, none⟩ = some (.int .u8 (b.toNat : Int)) := by rw [HBB.out]; exact HAT.out i1 V1 HB1.out i1 g1 (Nat.le_refl _)
      have hf1 := HB1.out.1.frozen i1
      have x1 := b_xor b c
      have y1 := b_xor l (xt (b ^^^ c))
      have w1 := b_xor b (l ^^^ xt (b ^^^ c))
      rw [← HZ1.out] at w1
      generalize l ^^^ xt (b ^^^ c) = m1 at y1 w1
      generalize b ^^^ c = n1 at x1 y1
      have t1 := fun V => dbl_any n1 V
      refine wp_region_still_tail 15 (by kernel_rfl) (by kernel_rfl) ?_
      change wpStill _ _ V1.drew (fun a' => wpList _ _ _ _ a' V1.drew) _ _
      simp only [List.take_succ_cons, List.take_zero, List.drop_succ_cons, List.drop_zero]
      repeat still_step
      still_call (t1 _)
      repeat still_step
      refine wpStill_nil ?_
      go_wp2_with (fail)
      obtain ⟨V2, hV2⟩ : ∃ V, V = (V1.setCell ⟨gb, i1, none⟩ (.int .u8 ((T ⟨i1, g1⟩).toNat : Int))).drew := ⟨_, rfl⟩
      have HB2 : Hid (Bat W gb (part (i1 + 1) T s) V2) := by rw [hV2]; exact Lib.hid (HB1.out.put g1)
      rw [← hV2]
      clear hV2 HB1 c1 hf1 t1 x1 y1 w1 HZ1 
      rw [← (HNX.out).2.1] at HB2
      have c2 : V2.cell? ⟨gb, i2, none⟩ = some (.int .u8 (c.toNat : Int)) := by rw [HCC.out]; exact HAT.out i2 V2 HB2.out i2 g2 (Nat.le_refl _)
      have hf2 := HB2.out.1.frozen i2
      have x2 := b_xor c d
      have y2 := b_xor l (xt (c ^^^ d))
      have w2 := b_xor c (l ^^^ xt (c ^^^ d))
      rw [← HZ2.out] at w2
      generalize l ^^^ xt (c ^^^ d) = m2 at y2 w2
      generalize c ^^^ d = n2 at x2 y2
      have t2 := fun V => dbl_any n2 V
      refine wp_region_still_tail 15 (by kernel_rfl) (by kernel_rfl) ?_
      change wpStill _ _ V2.drew (fun a' => wpList _ _ _ _ a' V2.drew) _ _
      simp only [List.take_succ_cons, List.take_zero, List.drop_succ_cons, List.drop_zero]
      repeat still_step
      still_call (t2 _)
      repeat still_step
      refine wpStill_nil ?_
      go_wp2_with (fail)
      obtain ⟨V3, hV3⟩ : ∃ V, V = (V2.setCell ⟨gb, i2, none⟩ (.int .u8 ((T ⟨i2, g2⟩).toNat : Int))).drew := ⟨_, rfl⟩
      have HB3 : Hid (Bat W gb (part (i2 + 1) T s) V3) := by rw [hV3]; exact Lib.hid (HB2.out.put g2)
      rw [← hV3]
      clear hV3 HB2 c2 hf2 t2 x2 y2 w2 HZ2 
      rw [← (HNX.out).2.2.1] at HB3
      have c3 : V3.cell? ⟨gb, i3, none⟩ = some (.int .u8 (d.toNat : Int)) := by rw [HD.out]; exact HAT.out i3 V3 HB3.out i3 g3 (Nat.le_refl _)
      have hf3 := HB3.out.1.frozen i3
      have x3 := b_xor d a
      have y3 := b_xor l (xt (d ^^^ a))
      have w3 := b_xor d (l ^^^ xt (d ^^^ a))
      rw [← HZ3.out] at w3
      generalize l ^^^ xt (d ^^^ a) = m3 at y3 w3
      generalize d ^^^ a = n3 at x3 y3
      have t3 := fun V => dbl_any n3 V
      refine wp_region_still_tail 15 (by kernel_rfl) (by kernel_rfl) ?_
      change wpStill _ _ V3.drew (fun a' => wpList _ _ _ _ a' V3.drew) _ _
      simp only [List.take_succ_cons, List.take_zero, List.drop_succ_cons, List.drop_zero]
      repeat still_step
      still_call (t3 _)
      repeat still_step
      refine wpStill_nil ?_
      go_wp2_with (fail)
      obtain ⟨V4, hV4⟩ : ∃ V, V = (V3.setCell ⟨gb, i3, none⟩ (.int .u8 ((T ⟨i3, g3⟩).toNat : Int))).drew := ⟨_, rfl⟩
      have HB4 : Hid (Bat W gb (part (i3 + 1) T s) V4) := by rw [hV4]; exact Lib.hid (HB3.out.put g3)
      rw [← hV4]
      clear hV4 HB3 c3 hf3 t3 x3 y3 w3 HZ3 
      rw [(HNX.out).2.2.2] at HB4
      go_wp2
      go_roundw
      case rel => exact ⟨k + 1, by have := HNX.out; omega, by rw [H4.out], HB4.out⟩
      case measure =>
        have h1 := HK.out
        have h2 := H4.out
        simp [intOf]
        omega
    · have ek : k = 4 := by omega
      subst ek
      have HB : Hid (Bat W gb T wr) := Lib.hid (by rw [part_all] at hb; exact hb)
      clear hb hlt hk
      go_wp2
      go_end0
      exact ⟨rfl, HB.out⟩
open Go.RowKit
def halfS (s : State) : State := fun i => half (s i) (s (below 2 i))
theorem mix_half (s : State) : mixS (halfS s) = unmixS s := funext fun i => by
  unfold unmixS mixS halfS
  simp only [below_below 2 (by decide) 1 (by decide), below_below 2 (by decide) 2 (by decide), below_below 2 (by decide) 3 (by decide)]
  simp only [Nat.reduceAdd, Nat.reduceMod, below_zero]
  exact unmix_by _ _ _ _
theorem half_comm (a c : UInt8) : c ^^^ xt (xt (a ^^^ c)) = half c a := by unfold half; rw [UInt8.xor_comm a c]
theorem half_col (s : State) (c : Nat) (i0 i1 i2 i3 : Fin 16) (h0 : i0.val = 4 * c + 0) (h1 : i1.val = 4 * c + 1) (h2 : i2.val = 4 * c + 2) (h3 : i3.val = 4 * c + 3) :
    halfS s i0 = s i0 ^^^ xt (xt (s i0 ^^^ s i2)) ∧ halfS s i1 = s i1 ^^^ xt (xt (s i1 ^^^ s i3)) ∧ halfS s i2 = s i2 ^^^ xt (xt (s i0 ^^^ s i2)) ∧ halfS s i3 = s i3 ^^^ xt (xt (s i1 ^^^ s i3)) := by
  unfold halfS
  rw [below_at c 2 0 (by omega) i0 i2 h0 h2, below_at c 2 1 (by omega) i1 i3 h1 h3, below_at c 2 2 (by omega) i2 i0 h2 h0, below_at c 2 3 (by omega) i3 i1 h3 h1, half_comm, half_comm]
  exact ⟨rfl, rfl, rfl, rfl⟩
set_option maxRecDepth 100000 in
set_option maxHeartbeats 3200000 in
theorem unmix_any {W : World} {gb : Nat} {s : State} (hb : Blk W gb 48 (bytesOf s)) :
    Calls Tryz.prog 79 #[.pointer (some ⟨gb, 0, none⟩)] W fun e w' => e = .returned (.tuple #[]) ∧ Bat W gb (unmixS s) w' := by
  obtain ⟨T, hT⟩ : ∃ T, T = halfS s := ⟨_, rfl⟩
  rw [← mix_half, ← hT]
  have HT := Lib.hid hT
  have HB := Lib.hid hb
  clear hT hb
  go_enter Tryz.func79, Tryz.ntmps79
  go_wp2_with (fail)
  go_loopw [2] (fun v wr => ∃ k : Nat, k ≤ 4 ∧ v = .int .i64 ((4 * k : Nat) : Int) ∧ Bat W gb (part (4 * k) T s) wr) (fun v _ => 16 - (intOf v).toNat)
  case atStart => exact ⟨0, by omega, rfl, by rw [part_zero]; exact ⟨HB.out, World.grownBy.refl _ _, rfl⟩⟩
  case round =>
    clear HB
    obtain ⟨k, hk, rfl, hb⟩ := hrel
    by_cases hlt : k < 4
    · obtain ⟨i0, h0⟩ : ∃ i, i = 4 * k := ⟨_, rfl⟩
      obtain ⟨i1, h1⟩ : ∃ i, i = 4 * k + 1 := ⟨_, rfl⟩
      obtain ⟨i2, h2⟩ : ∃ i, i = 4 * k + 2 := ⟨_, rfl⟩
      obtain ⟨i3, h3⟩ : ∃ i, i = 4 * k + 3 := ⟨_, rfl⟩
      have g0 : i0 < 16 := by omega
      have g1 : i1 < 16 := by omega
      have g2 : i2 < 16 := by omega
      have g3 : i3 < 16 := by omega
      rw [← h0] at hb
      have c0 := hb.at (j := i0) g0 (by omega)
      have c1 := hb.at (j := i1) g1 (by omega)
      have c2 := hb.at (j := i2) g2 (by omega)
      have c3 := hb.at (j := i3) g3 (by omega)
      obtain ⟨z0, z1, z2, z3⟩ := half_col s k ⟨i0, g0⟩ ⟨i1, g1⟩ ⟨i2, g2⟩ ⟨i3, g3⟩ h0 h1 h2 h3
      rw [← HT.out] at z0 z1 z2 z3
      have hpart := fun (j : Nat) (V : World) (h : Bat W gb (part j T s) V) (p : Nat) (hp : p < 16) (hij : j ≤ p) => h.at hp hij
      have HAT := Lib.hid hpart
      clear hpart
      obtain ⟨a, ha⟩ : ∃ a, a = s ⟨i0, g0⟩ := ⟨_, rfl⟩
      obtain ⟨b, hb'⟩ : ∃ b, b = s ⟨i1, g1⟩ := ⟨_, rfl⟩
      obtain ⟨c, hc⟩ : ∃ c, c = s ⟨i2, g2⟩ := ⟨_, rfl⟩
      obtain ⟨d, hd⟩ : ∃ d, d = s ⟨i3, g3⟩ := ⟨_, rfl⟩
      rw [← ha, ← hc] at z0 z2
      rw [← hb', ← hd] at z1 z3
      rw [← ha] at c0
      rw [← hb'] at c1
      rw [← hc] at c2
      rw [← hd] at c3
      have HA := Lib.hid ha
      have HBB := Lib.hid hb'
      have HCC := Lib.hid hc
      have HD := Lib.hid hd
      have HNX := Lib.hid (show i1 = i0 + 1 ∧ i2 = i1 + 1 ∧ i3 = i2 + 1 ∧ i3 + 1 = 4 * (k + 1) by omega)
      have f1 : IntKind.i64.wrap (i1 : Int) = (i1 : Int) := i64_keep i1 (by omega)
      have f2 : IntKind.i64.wrap (i2 : Int) = (i2 : Int) := i64_keep i2 (by omega)
      have f3 : IntKind.i64.wrap (i3 : Int) = (i3 : Int) := i64_keep i3 (by omega)
      have f4 : (i0 : Int) + 1 = (i1 : Int) := by omega
      have f5 : (i0 : Int) + 2 = (i2 : Int) := by omega
      have f6 : (i0 : Int) + 3 = (i3 : Int) := by omega
      obtain ⟨i4, h4⟩ : ∃ i, i = 4 * (k + 1) := ⟨_, rfl⟩
      have f7 : IntKind.i64.wrap (i4 : Int) = (i4 : Int) := i64_keep i4 (by omega)
      have f8 : (i0 : Int) + 4 = (i4 : Int) := by omega
      have H4 := Lib.hid h4
      have l0 : (i0 : Int) < 16 := by omega
      have l1 : (i1 : Int) < 16 := by omega
      have l2 : (i2 : Int) < 16 := by omega
      have l3 : (i3 : Int) < 16 := by omega
      have HBT := Lib.hid hb
      have HK : Hid ((i0 : Int) = 4 * (k : Int)) := Lib.hid (by omega)
      rw [← h0]
      have Z0 := Lib.hid z0
      have Z1 := Lib.hid z1
      have Z2 := Lib.hid z2
      have Z3 := Lib.hid z3
      clear z0 z1 z2 z3 h4 h0 h1 h2 h3 ha hb' hc hd hb hlt
      go_wp2_with (fail)
      go_quiet (fail)
      clear c0 c1 c2 c3
      have e1 := b_xor a c
      have e2 := b_xor b d
      have ZZ0 := Z0.out
      have ZZ1 := Z1.out
      have ZZ2 := Z2.out
      have ZZ3 := Z3.out
      generalize a ^^^ c = p1 at e1 ZZ0 ZZ2
      generalize b ^^^ d = p2 at e2 ZZ1 ZZ3
      obtain ⟨q1, hq1⟩ : ∃ q, q = xt p1 := ⟨_, rfl⟩
      obtain ⟨q2, hq2⟩ : ∃ q, q = xt p2 := ⟨_, rfl⟩
      have T1 := fun V => dbl_any p1 V
      have T2 := fun V => dbl_any p2 V
      rw [← hq1] at ZZ0 ZZ2 T1
      rw [← hq2] at ZZ1 ZZ3 T2
      obtain ⟨l, hl⟩ : ∃ q, q = xt q1 := ⟨_, rfl⟩
      obtain ⟨m, hm⟩ : ∃ q, q = xt q2 := ⟨_, rfl⟩
      have T3 := fun V => dbl_any q1 V
      have T4 := fun V => dbl_any q2 V
      rw [← hl] at ZZ0 ZZ2 T3
      rw [← hm] at ZZ1 ZZ3 T4
      have HZ0 := Lib.hid ZZ0
      have HZ1 := Lib.hid ZZ1
      have HZ2 := Lib.hid ZZ2
      have HZ3 := Lib.hid ZZ3
      have HT1 := Lib.hid T1
      have HT2 := Lib.hid T2
      have HT3 := Lib.hid T3
      have HT4 := Lib.hid T4
      clear Z0 Z1 Z2 Z3 hl hm hq1 hq2 ZZ0 ZZ1 ZZ2 ZZ3 T1 T2 T3 T4
      go_wp2_with (first
        | (go_at_call 85; with_reducible refine (HT1.out _).mono ?_; rintro _ V ⟨rfl, rfl⟩)
        | (go_at_call 85; with_reducible refine (HT2.out _).mono ?_; rintro _ V ⟨rfl, rfl⟩)
        | (go_at_call 85; with_reducible refine (HT3.out _).mono ?_; rintro _ V ⟨rfl, rfl⟩)
        | (go_at_call 85; with_reducible refine (HT4.out _).mono ?_; rintro _ V ⟨rfl, rfl⟩))
      clear e1 e2 HT1 HT2 HT3 HT4
      obtain ⟨V0, hV0⟩ : ∃ V, V = wr.drewN nq := ⟨_, rfl⟩
      have HB0 : Hid (Bat W gb (part i0 T s) V0) := by rw [hV0]; exact Lib.hid (HBT.out.drewN nq)
      rw [← hV0]
      clear hV0 HBT
      have c0 : V0.cell? ⟨gb, i0, none⟩ = some (.int .u8 (a.toNat : Int)) := by rw [HA.out]; exact HAT.out i0 V0 HB0.out i0 g0 (Nat.le_refl _)
      have hf0 := HB0.out.1.frozen i0
      have w0 := b_xor a l
      rw [← HZ0.out] at w0
      refine wp_region_still_tail 9 (by kernel_rfl) (by kernel_rfl) ?_
      change wpStill _ _ V0.drew (fun a' => wpList _ _ _ _ a' V0.drew) _ _
      simp only [List.take_succ_cons, List.take_zero, List.drop_succ_cons, List.drop_zero]
      repeat still_step
      refine wpStill_nil ?_
      go_wp2_with (fail)
      obtain ⟨V1, hV1⟩ : ∃ V, V = (V0.setCell ⟨gb, i0, none⟩ (.int .u8 ((T ⟨i0, g0⟩).toNat : Int))).drew := ⟨_, rfl⟩
      have HB1 : Hid (Bat W gb (part (i0 + 1) T s) V1) := by rw [hV1]; exact Lib.hid (HB0.out.put g0)
      rw [← hV1]
      clear hV1 HB0 c0 hf0 w0 HZ0
      rw [← (HNX.out).1] at HB1
      have c1 : V1.cell? ⟨gb, i1, none⟩ = some (.int .u8 (b.toNat : Int)) := by rw [HBB.out]; exact HAT.out i1 V1 HB1.out i1 g1 (Nat.le_refl _)
      have hf1 := HB1.out.1.frozen i1
      have w1 := b_xor b m
      rw [← HZ1.out] at w1
      refine wp_region_still_tail 10 (by kernel_rfl) (by kernel_rfl) ?_
      change wpStill _ _ V1.drew (fun a' => wpList _ _ _ _ a' V1.drew) _ _
      simp only [List.take_succ_cons, List.take_zero, List.drop_succ_cons, List.drop_zero]
      repeat still_step
      refine wpStill_nil ?_
      go_wp2_with (fail)
      obtain ⟨V2, hV2⟩ : ∃ V, V = (V1.setCell ⟨gb, i1, none⟩ (.int .u8 ((T ⟨i1, g1⟩).toNat : Int))).drew := ⟨_, rfl⟩
      have HB2 : Hid (Bat W gb (part (i1 + 1) T s) V2) := by rw [hV2]; exact Lib.hid (HB1.out.put g1)
      rw [← hV2]
      clear hV2 HB1 c1 hf1 w1 HZ1
      rw [← (HNX.out).2.1] at HB2
      have c2 : V2.cell? ⟨gb, i2, none⟩ = some (.int .u8 (c.toNat : Int)) := by rw [HCC.out]; exact HAT.out i2 V2 HB2.out i2 g2 (Nat.le_refl _)
      have hf2 := HB2.out.1.frozen i2
      have w2 := b_xor c l
      rw [← HZ2.out] at w2
      refine wp_region_still_tail 10 (by kernel_rfl) (by kernel_rfl) ?_
      change wpStill _ _ V2.drew (fun a' => wpList _ _ _ _ a' V2.drew) _ _
      simp only [List.take_succ_cons, List.take_zero, List.drop_succ_cons, List.drop_zero]
      repeat still_step
      refine wpStill_nil ?_
      go_wp2_with (fail)
      obtain ⟨V3, hV3⟩ : ∃ V, V = (V2.setCell ⟨gb, i2, none⟩ (.int .u8 ((T ⟨i2, g2⟩).toNat : Int))).drew := ⟨_, rfl⟩
      have HB3 : Hid (Bat W gb (part (i2 + 1) T s) V3) := by rw [hV3]; exact Lib.hid (HB2.out.put g2)
      rw [← hV3]
      clear hV3 HB2 c2 hf2 w2 HZ2
      rw [← (HNX.out).2.2.1] at HB3
      have c3 : V3.cell? ⟨gb, i3, none⟩ = some (.int .u8 (d.toNat : Int)) := by rw [HD.out]; exact HAT.out i3 V3 HB3.out i3 g3 (Nat.le_refl _)
      have hf3 := HB3.out.1.frozen i3
      have w3 := b_xor d m
      rw [← HZ3.out] at w3
      refine wp_region_still_tail 10 (by kernel_rfl) (by kernel_rfl) ?_
      change wpStill _ _ V3.drew (fun a' => wpList _ _ _ _ a' V3.drew) _ _
      simp only [List.take_succ_cons, List.take_zero, List.drop_succ_cons, List.drop_zero]
      repeat still_step
      refine wpStill_nil ?_
      go_wp2_with (fail)
      obtain ⟨V4, hV4⟩ : ∃ V, V = (V3.setCell ⟨gb, i3, none⟩ (.int .u8 ((T ⟨i3, g3⟩).toNat : Int))).drew := ⟨_, rfl⟩
      have HB4 : Hid (Bat W gb (part (i3 + 1) T s) V4) := by rw [hV4]; exact Lib.hid (HB3.out.put g3)
      rw [← hV4]
      clear hV4 HB3 c3 hf3 w3 HZ3
      rw [(HNX.out).2.2.2] at HB4
      go_wp2
      go_roundw
      case rel => exact ⟨k + 1, by have := HNX.out; omega, by rw [H4.out], HB4.out⟩
      case measure =>
        have h1 := HK.out
        have h2 := H4.out
        simp [intOf]
        omega
    · have ek : k = 4 := by omega
      subst ek
      have HB : Hid (Bat W gb T wr) := Lib.hid (by rw [part_all] at hb; exact hb)
      clear hb hlt hk
      go_wp2_with (go_at_call 70; refine (mix_any HB.out.1).mono ?_; rintro _ w3 ⟨rfl, hb3⟩)
      go_end0
      exact ⟨rfl, hb3.1, World.grownBy.trans HB.out.2.1 hb3.2.1, hb3.2.2.trans HB.out.2.2⟩
end Go.Proofs.YtkbffponemihoaaGreatDoor.C
