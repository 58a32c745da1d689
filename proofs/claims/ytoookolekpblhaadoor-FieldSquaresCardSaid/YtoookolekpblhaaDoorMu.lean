/- The code's Mul: the product modulo p. Conditions: both numbers are below p. -/
import Derived.Test.YtoookolekpblhaaDoorMuM
namespace Go.Proofs.YtoookolekpblhaaDoor
open Go.RowKit
/-- Nine limbs as cells. -/
def c9 (f : Nat → Int) : List Value := (List.range 9).map fun i => Value.int .i64 (f i)
theorem c9_length (f : Nat → Int) : (c9 f).length = 9 := by simp [c9]
theorem c9_get (f : Nat → Int) (i : Nat) (h : i < 9) : (c9 f)[i]? = some (.int .i64 (f i)) := by
  unfold c9
  rw [List.getElem?_map, List.getElem?_range h]
  rfl
theorem c9_set (f : Nat → Int) (i : Nat) (z : Int) : (c9 f).set i (.int .i64 z) = c9 (fun j => if j = i then z else f j) := by
  apply List.ext_getElem?
  intro j
  by_cases hj : j < 9
  · rw [List.getElem?_set, c9_length, c9_get _ j hj, c9_get _ j hj]
    by_cases e : i = j
    · subst e; simp [hj]
    · have e2 : ¬ j = i := fun h => e h.symm
      simp [e, e2]
  · rw [List.getElem?_eq_none (by rw [List.length_set, c9_length]; omega), List.getElem?_eq_none (by rw [c9_length]; omega)]
theorem c9_congr {f g : Nat → Int} (h : ∀ i, i < 9 → f i = g i) : c9 f = c9 g := by
  unfold c9
  apply List.map_congr_left
  intro i hi
  rw [h i (by simpa using hi)]
theorem c9_zero : zc 9 = c9 fun _ => 0 := rfl
/-- The row so far: the first i limbs. -/
def rr (y i j : Nat) : Int := if j < i then 19 * lf y (j + 1) else 0
theorem rr_set (y i : Nat) (z : Int) (hz : z = 19 * lf y (i + 1)) : (c9 (rr y i)).set i (.int .i64 z) = c9 (rr y (i + 1)) := by
  rw [c9_set]
  apply c9_congr
  intro j _
  unfold rr
  by_cases e : j = i
  · subst e; simp [hz]
  · have : (j < i + 1) = (j < i) := by simp; omega
    simp [e, this]
theorem rr_split (y : Nat) : c9 (rr y 4) = ((List.range 4).map fun i => Value.int .i64 (rr y 4 i)) ++ zc 5 ++ [] := rfl
def rbf (y j : Nat) : Int := (rb y j : Int)
theorem rb_split (y : Nat) : ((List.range 4).map fun i => Value.int .i64 (rr y 4 i)) ++ cl (lf y) ++ [] = c9 (rbf y) := by
  have h : ∀ i, i < 4 → rr y 4 i = rbf y i := fun i hi => by
    unfold rr rbf rb lf
    rw [if_pos hi, if_pos hi]
    omega
  have h2 : cl (lf y) = cl (fun i => rbf y (i + 4)) := cl_congr fun i _ => by
    unfold rbf rb lf
    rw [if_neg (by omega), Nat.add_sub_cancel]
  rw [h2]
  have h3 : ((List.range 4).map fun i => Value.int .i64 (rr y 4 i)) = (List.range 4).map fun i => Value.int .i64 (rbf y i) := by
    apply List.map_congr_left
    intro i hi
    rw [h i (by simpa using hi)]
  rw [h3]
  rfl
theorem run_new50 (w : World) : (Instr.alloc 50 true (.tuple #[])).run Tryd.prog w = .ok (.pointer (some ⟨w.heap.size, 0, none⟩)) (w.alloc (.cells (zc 9).toArray 50)) := by kernel_rfl
section
variable {w : World} {ops : Array Oper} {rest : List Oper} {o : Oper} {a : Act} {Q : Exit → Act → World → Prop}
theorem wpList_new50 (hgd : o.guard = none) (ho : o.op = .alloc 50)
    (h : ∀ w', Blk w' w.heap.size 50 (zc 9) → w.grownBy w' none → w'.heap.size = w.heap.size + 1 → wpList Tryd.prog ops Q rest (a.put o.dst (.pointer (some ⟨w.heap.size, 0, none⟩))) w') : wpList Tryd.prog ops Q (o :: rest) a w := by
  refine wpList_plain hgd fun K hK => ?_
  have hrun := run_new50 w
  generalize zc 9 = z at hrun h
  unfold Oper.wp
  simp only [execOp, ho, Sem.run_bind, hrun, Result.andThen_ok, Sem.run_pure]
  exact hK _ _ (h _ (Blk.of_alloc w _ 50) (World.grownBy_alloc w _ none) (World.size_alloc w _))
end
theorem run_arrayAt (w : World) (g k n : Nat) (h : 5 ≤ n) : (Instr.arrayAt 25 (.slice (some ⟨g, k, none⟩) n n)).run Tryd.prog w = .ok (.pointer (some ⟨g, k, none⟩)) w := by
  have hu := Tryd.underlying25
  have h2 : ¬ n < 5 := by omega
  simp [Instr.arrayAt, run_underlying hu, h2]
/-- The product's limbs so far. -/
def mcf (x y j : Nat) : Int := (mc x y j : Int)
set_option maxRecDepth 100000 in
set_option maxHeartbeats 3200000 in
theorem mul5_any (w : World) (x y : Nat) (hx : x < fq) (hy : y < fq) : Calls Tryd.prog 14 #[.agg (ls x).toArray, .agg (ls y).toArray] w fun e w' => e = .returned (.agg (ls (x * y % fq)).toArray) ∧ w.grownBy w' none := by
  have hs : ∀ (W : World) (g : Nat), Blk W g 27 (cl (mf x y)) → Calls Tryd.prog 20 #[.pointer (some ⟨g, 0, none⟩)] W fun e w' => e = .returned (.tuple #[]) ∧ Blk w' g 27 (ls (x * y % fq)) ∧ W.grownBy w' (some g) ∧ w'.heap.size = W.heap.size := fun W g h => by
    rw [← mul_is hx hy]
    exact settle_any h (fun i _ => mf_le x y i) (mf_tot x y) (mN_lt x y)
  obtain ⟨s, hs'⟩ : ∃ s, s = x * y % fq := ⟨_, rfl⟩
  rw [← hs'] at hs ⊢
  have HS := Lib.hid hs
  clear hs hs' hx hy
  unfold ls at HS ⊢
  go_enter Tryd.func14, Tryd.ntmps14
  go_wp2_with (refine wpList_box27 rfl _ (lf x) rfl rfl ?_)
  intro w1 hb1 hg1 hz1
  go_wp2_with (refine wpList_box27 rfl _ (lf y) rfl rfl ?_)
  intro w2 hb2 hg2 hz2
  go_wp2_with (refine wpList_new27 rfl rfl ?_)
  intro w3 hb3 hg3 hz3
  go_wp2_with (refine wpList_new50 rfl rfl ?_)
  intro w4 hb4 hg4 hz4
  obtain ⟨ga, hga⟩ : ∃ g, g = w.heap.size := ⟨_, rfl⟩
  obtain ⟨gb, hgb⟩ : ∃ g, g = w.heap.size + 1 := ⟨_, rfl⟩
  obtain ⟨gr, hgr⟩ : ∃ g, g = w.heap.size + 1 + 1 := ⟨_, rfl⟩
  obtain ⟨gw, hgw⟩ : ∃ g, g = w.heap.size + 1 + 1 + 1 := ⟨_, rfl⟩
  rw [← hgw, ← hgr, ← hgb, ← hga]
  rw [← hga] at hb1
  rw [← hgb] at hb2
  rw [← hgr] at hb3
  rw [← hgw] at hb4
  have hne : ga ≠ gw ∧ gb ≠ gw ∧ gr ≠ gw ∧ ga ≠ gr ∧ gw ≠ gr := ⟨by omega, by omega, by omega, by omega, by omega⟩
  have HNE := Lib.hid hne
  have HA : Hid (Blk w4 ga 27 (cl (lf x))) := Lib.hid (((hb1.grown hg2 (by simp)).grown hg3 (by simp)).grown hg4 (by simp))
  have HB : Hid (Blk w4 gb 27 (cl (lf y))) := Lib.hid ((hb2.grown hg3 (by simp)).grown hg4 (by simp))
  have HR : Hid (Blk w4 gr 27 (cl fun _ => 0)) := Lib.hid (hb3.grown hg4 (by simp))
  have HW : Hid (Blk w4 gw 50 (c9 (rr y 0))) := Lib.hid (hb4.to (by rw [c9_zero]; rfl))
  have HG : Hid (w.grownBy w4 none) := Lib.hid (World.grownBy.trans (World.grownBy.trans (World.grownBy.trans hg1 hg2) hg3) hg4)
  have HWW : Hid (w.heap.size ≤ gw) := Lib.hid (by omega)
  have HWR : Hid (w.heap.size ≤ gr) := Lib.hid (by omega)
  clear hb1 hg1 hz1 hb2 hg2 hz2 hb3 hg3 hz3 hb4 hg4 hz4 hga hgb hgr hgw hne
  go_wp2_with (fail)
  go_loopw [13] (fun v wr => ∃ i : Nat, i ≤ 4 ∧ v = .int .i64 (i : Int) ∧ Blk wr gw 50 (c9 (rr y i)) ∧ w4.grownBy wr (some gw)) (fun v _ => 4 - (intOf v).toNat)
  case atStart => exact ⟨0, by omega, rfl, HW.out, World.grownBy.refl _ _⟩
  case round =>
    clear HW
    obtain ⟨i, hi, rfl, hb, hg⟩ := hrel
    by_cases hlt : i < 4
    · have hB := HB.out.grown hg (fun e => HNE.out.2.1 (Option.some.inj e))
      have c1 := hB.get (i + 1) _ (cl_get _ (i + 1) (by omega))
      have c2 := hb.get i _ (c9_get _ i (by omega))
      have hfz := hb.frozen i
      obtain ⟨z, hz⟩ : ∃ z, z = 19 * lf y (i + 1) := ⟨_, rfl⟩
      have d1 : IntKind.i64.wrap (19 * lf y (i + 1)) = z := by
        have h1 := lf_pos y (i + 1)
        have h2 := lf_lt y (i + 1)
        rw [hz]
        exact i64_in (by omega)
      have hset := rr_set y i z hz
      generalize rr y i i = old at c2
      have c1' : wr.cell? ⟨gb, 1 + i, none⟩ = some (.int .i64 (lf y (i + 1))) := by rw [Nat.add_comm]; exact c1
      have d2 : (i : Int) < 9 := by omega
      have HB2 := Lib.hid hb
      have HG2 := Lib.hid hg
      have HSET := Lib.hid hset
      clear hb hg hset hz hB
      go_wp2
      go_roundw
      case rel => exact ⟨i + 1, by omega, by go_num, (HB2.out.set i _).to HSET.out, World.grownBy.trans HG2.out (grown_set wr gw i _)⟩
      case measure => simp [intOf]; omega
    · have ei : i = 4 := by omega
      rw [ei, rr_split] at hb
      have hB := HB.out.grown hg (fun e => HNE.out.2.1 (Option.some.inj e))
      have hA := HA.out.grown hg (fun e => HNE.out.1 (Option.some.inj e))
      have hR := HR.out.grown hg (fun e => HNE.out.2.2.1 (Option.some.inj e))
      have hG := World.grownBy.andThen HG.out hg (by rintro _ ⟨⟩; exact .inl HWW.out)
      have HA2 := Lib.hid hA
      have HB2 := Lib.hid hB
      have HR2 := Lib.hid hR
      have HG2 := Lib.hid hG
      have HW2 := Lib.hid hb
      obtain ⟨n9, hn9⟩ : ∃ n : Int, n = (i : Int) := ⟨_, rfl⟩
      have hn5 : ¬ n9 < 4 := by omega
      rw [← hn9]
      clear hb hg hi hlt ei hn9 HA HB HR HG hA hB hR hG
      go_wp2_with (fail)
      refine wp_region_still_tail 3 (by kernel_rfl) (by kernel_rfl) ?_
      change wpStill _ _ wr.drew (fun a' => wpList _ _ _ _ a' wr.drew) _ _
      simp only [List.take_succ_cons, List.take_zero, List.drop_succ_cons, List.drop_zero]
      repeat still_step
      refine wpStill_nil ?_
      refine wpList_copy5 rfl _ _ rfl gw 4 gb ⟨0, rfl⟩ rfl (lf y) 50 27 _ _ _ rfl (HW2.out.keep (w' := wr.drew) rfl) rfl (HB2.out.keep rfl) ?_
      intro w7 hb7 hg7 hz7
      rw [rb_split] at hb7
      have HW7 := Lib.hid hb7
      have HA7 : Hid (Blk w7 ga 27 (cl (lf x))) := Lib.hid ((HA2.out.keep (w' := wr.drew) rfl).grown hg7 (fun e => HNE.out.1 (Option.some.inj e)))
      have HR7 : Hid (Blk w7 gr 27 (cl fun _ => 0)) := Lib.hid ((HR2.out.keep (w' := wr.drew) rfl).grown hg7 (fun e => HNE.out.2.2.1 (Option.some.inj e)))
      have HG7 : Hid (w.grownBy w7 none) := Lib.hid (World.grownBy.andThen (grown_drew HG2.out) hg7 (by rintro _ ⟨⟩; exact .inl HWW.out))
      clear hb7 hg7 hz7 HA2 HB2 HR2 HG2 HW2
      go_wp2_with (fail)
      go_loopw [8, 27] (fun u v wx => ∃ k : Nat, k ≤ 5 ∧ v = .int .i64 (k : Int) ∧ u = .int .u64 (mon x y k : Int) ∧ Blk wx gr 27 (cl (mx (mcf x y) (fun _ => 0) k)) ∧ w7.grownBy wx (some gr)) (fun _ v _ => 5 - (intOf v).toNat)
      case atStart => exact ⟨0, by omega, rfl, rfl, by rw [mx_zero]; exact HR7.out, World.grownBy.refl _ _⟩
      case round =>
        clear HR7
        obtain ⟨k, hk, rfl, rfl, hb, hg⟩ := hrel
        by_cases hlt : k < 5
        · have hW := HW7.out.grown hg (fun e => HNE.out.2.2.2.2 (Option.some.inj e))
          have hA := HA7.out.grown hg (fun e => HNE.out.2.2.2.1 (Option.some.inj e))
          have hgs : GatS ga gw k (lm x) (fun j => rb y (k + j)) _ := ⟨fun i hi => hA.get i _ (cl_get _ i hi), fun j hj => hW.get (k + j) _ (c9_get _ (k + j) (by omega))⟩
          have hga := gather_any hgs (fun i _ => lm_lt x i) (fun j _ => rb_lt y (k + j)) (Nat.lt_of_le_of_lt (mon_le x y k) (by decide)) (mon x y k + pk x y k) (by unfold pk; simp only [Nat.add_assoc])
          have c2 := hb.get k _ (cl_get _ k hlt)
          have hfz := hb.frozen k
          obtain ⟨c, hc⟩ : ∃ c, c = mc x y k := ⟨_, rfl⟩
          obtain ⟨m1, hm1⟩ : ∃ m, m = mon x y (k + 1) := ⟨_, rfl⟩
          have e1 : (mon x y k + pk x y k) % 2251799813685248 = c := by rw [hc]; rfl
          have e2 : (mon x y k + pk x y k) / 2251799813685248 = m1 := by rw [hm1]; rfl
          rw [e1, e2] at hga
          have hset := mx_set (mcf x y) (fun _ => 0) k (c : Int) (by rw [hc]; rfl)
          generalize mx (mcf x y) (fun _ => 0) k k = old at c2
          have d1 : ¬ 9 = k := by omega
          have d2 : (k : Int) ≤ 9 := by omega
          have d3 : ¬ 9 - k < 5 := by omega
          have d4 : 5 ≤ 9 - k := by omega
          have d5 : (k : Int) < 5 := by omega
          have HGA := Lib.hid hga
          have HB2 := Lib.hid hb
          have HG2 := Lib.hid hg
          have HSET := Lib.hid hset
          have HM1 := Lib.hid hm1
          clear hb hg hset hc hm1 hW hA hgs hga e1 e2
          have hat : ∀ W, (Instr.arrayAt 25 (.slice (some ⟨gw, k, none⟩) (9 - k) (9 - k))).run Tryd.prog W = .ok (.pointer (some ⟨gw, k, none⟩)) W := fun W => run_arrayAt W gw k (9 - k) d4
          go_wp2_with (first
            | (go_at_call 27
               refine HGA.out.mono ?_
               rintro _ wy ⟨rfl, hgy⟩
               have c3 := hgy.cell c2 (by simp)
               have hfy := (HB2.out.grown hgy (by simp)).frozen k
               have HY := Lib.hid hgy
               clear hgy))
          go_roundw
          case rel =>
            refine ⟨k + 1, by omega, by go_num, by rw [HM1.out], ?_, ?_⟩
            · exact ((HB2.out.grown HY.out (by simp)).set k _).to HSET.out
            · exact World.grownBy.trans (World.grownBy.andThen HG2.out HY.out (by rintro _ ⟨⟩)) (grown_set wy gr k _)
          case measure => simp [intOf]; omega
        · have ek : k = 5 := by omega
          rw [ek, mx_all] at hb
          have c0 := hb.get 0 _ (cl_get _ 0 (by omega))
          have hfz := hb.frozen 0
          have hm5 := mon5_le x y
          have hc5 := mc_lt x y 0
          have eq5 : mon x y k = mon x y 5 := by rw [ek]
          obtain ⟨m5, hm⟩ : ∃ m, m = mon x y 5 := ⟨_, rfl⟩
          rw [eq5, ← hm]
          rw [← hm] at hm5
          obtain ⟨z, hz⟩ : ∃ z, z = mf x y 0 := ⟨_, rfl⟩
          obtain ⟨p, hp⟩ : ∃ p, p = mcf x y 0 := ⟨_, rfl⟩
          rw [← hp] at c0
          have hp2 : p = (mc x y 0 : Int) := hp
          have e1 : IntKind.i64.wrap (m5 : Int) = (m5 : Int) := i64_in (by omega)
          obtain ⟨t, ht⟩ : ∃ t : Int, t = 19 * (m5 : Int) := ⟨_, rfl⟩
          have e2 : IntKind.i64.wrap (19 * (m5 : Int)) = t := by rw [ht]; exact i64_in (by omega)
          have e3 : IntKind.i64.wrap (p + t) = z := by
            have h1 : z = p + t := by rw [hz, hp2, ht, hm]; unfold mf; rw [if_pos rfl]
            rw [h1]
            exact i64_in (by omega)
          have hset : (cl (mcf x y)).set 0 (.int .i64 z) = cl (mf x y) := by
            rw [cl_set]
            apply cl_congr
            intro j _
            by_cases e : j = 0
            · rw [if_pos e, e, hz]
            · rw [if_neg e]
              unfold mf mcf
              rw [if_neg e]
          obtain ⟨w8, hw8⟩ : ∃ w8, w8 = World.setCell wr ⟨gr, 0, none⟩ (.int .i64 z) := ⟨_, rfl⟩
          have hb8 : Blk w8 gr 27 (cl (mf x y)) := by rw [hw8]; exact (hb.set 0 _).to hset
          have hg8 : w.grownBy w8 none := by rw [hw8]; exact World.grownBy.andThen HG7.out (World.grownBy.trans hg (grown_set _ gr 0 _)) (by rintro _ ⟨⟩; exact .inl HWR.out)
          have HB8 := Lib.hid hb8
          have HG8 := Lib.hid hg8
          have HW8 := Lib.hid hw8
          obtain ⟨n8, hn8⟩ : ∃ n : Int, n = (k : Int) := ⟨_, rfl⟩
          have hn6 : ¬ n8 < 5 := by omega
          rw [← hn8]
          clear hb hg hk hlt ek eq5 hm hz hp hp2 ht hset hb8 hg8 hw8 hn8 HG7 HA7 HW7
          go_wp2_with (first
            | (go_at_call 20
               rw [← HW8.out]
               refine (HS.out _ gr HB8.out).mono ?_
               rintro _ w9 ⟨rfl, hb9, hg9, hz9⟩
               have HB9 := Lib.hid hb9
               have HG9 := Lib.hid (World.grownBy.andThen HG8.out hg9 (by rintro _ ⟨⟩; exact .inl HWR.out))
               clear hb9 hg9 hz9 HB8 HG8 HW8)
            | (refine wpList_load_mid rfl 27 _ rfl gr 0 rfl (cl (lf s)) _ (range_blk HB9.out) Tryd.underlying27 rfl (cl_size' _) ?_)
            | (refine wpList_store_row rfl 27 _ _ rfl gr (cl (lf s)).toArray rfl rfl 27 _ HB9.out (cl_size _) (cl_same _ _) (all_oneCell_toArray (cl_one _)) ?_))
          exact bodyPost_ret (results_cell_row rfl _ _ gr 27 (cl (lf s)).toArray (0, 0) _ rfl (setRow_heap w9 gr _ _ 27 (0, 0) HB9.out) Tryd.underlying27 rfl (cl_size _)) rfl ⟨rfl, World.grownBy.andThen HG9.out (grown_setRow _ _ _) (by rintro _ ⟨⟩; exact .inl HWR.out)⟩
end Go.Proofs.YtoookolekpblhaaDoor
