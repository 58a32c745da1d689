/- The difference and the contrary. Conditions: the two tables lie where the program has laid them. -/
import Derived.Test.YtoookolekpblhaaDoorFes
import Derived.Test.YtoookolekpblhaaDoorNum14
namespace Go.Proofs.YtoookolekpblhaaDoor
open Go.RowKit
/-- The limbs of p. -/
def pr5 (i : Nat) : Int := if i = 0 then 2251799813685229 else 2251799813685247
/-- The tables lie where the program has laid them. -/
structure Tab (w : World) : Prop where
  turn : w.rangeAt 0 0 (ls im)
  prime : w.rangeAt 1 0 (cl pr5)
  lt : 1 < w.heap.size
theorem range_grown {w w' : World} {row : Option Nat} {g o : Nat} {vs : List Value} (h : w.rangeAt g o vs) (hg : w.grownBy w' row) (hr : some g ≠ row) : w'.rangeAt g o vs := fun j v hv => hg.cell (h j v hv) hr
theorem Tab.grown {w w' : World} {row : Option Nat} (h : Tab w) (hg : w.grownBy w' row) (h0 : some 0 ≠ row) (h1 : some 1 ≠ row) : Tab w' :=
  ⟨range_grown h.turn hg h0, range_grown h.prime hg h1, Nat.lt_of_lt_of_le h.lt hg.size⟩
theorem Tab.more {w w' : World} (h : Tab w) (hg : w.grownBy w' none) : Tab w' := h.grown hg (by simp) (by simp)
theorem Tab.at {w : World} (h : Tab w) (i : Nat) (hi : i < 5) : w.cell? ⟨1, i, none⟩ = some (.int .i64 (pr5 i)) := by
  have := h.prime i _ (cl_get pr5 i hi)
  rwa [Nat.zero_add] at this
/-- Differences, limb by limb. -/
def dff (x y j : Nat) : Int := lf x j + (pr5 j - lf y j)
theorem dff_tot {x y : Nat} (hx : x < fq) (hy : y < fq) : tot (dff x y) = ((x + (fq - y) : Nat) : Int) := by
  have h1 := lf_tot (x := x) (by unfold fq at hx; omega)
  have h2 := lf_tot (x := y) (by unfold fq at hy; omega)
  unfold fq at hx hy ⊢
  unfold tot at h1 h2 ⊢
  simp only [dff, pr5, if_true, Nat.succ_ne_zero, if_false]
  omega
theorem sb_eq (x y : Nat) : (x + (fq - y)) % fq = sb x y := by
  unfold sb ng
  rw [Nat.add_mod_mod]
theorem dff_le (x y i : Nat) : -4611686018427387904 ≤ dff x y i ∧ dff x y i ≤ 4611686018427387904 := by
  have h1 := lf_pos x i
  have h2 := lf_pos y i
  have h3 := lf_lt x i
  have h4 := lf_lt y i
  unfold dff pr5
  split <;> omega
set_option maxRecDepth 100000 in
set_option maxHeartbeats 1600000 in
theorem sub5_any {w : World} (ht : Tab w) (x y : Nat) (hx : x < fq) (hy : y < fq) : Calls Tryd.prog 19 #[.agg (ls x).toArray, .agg (ls y).toArray] w fun e w' => e = .returned (.agg (ls (sb x y)).toArray) ∧ w.grownBy w' none := by
  have hs : ∀ (W : World) (g : Nat), Blk W g 27 (cl (dff x y)) → Calls Tryd.prog 20 #[.pointer (some ⟨g, 0, none⟩)] W fun e w' => e = .returned (.tuple #[]) ∧ Blk w' g 27 (ls (sb x y)) ∧ W.grownBy w' (some g) ∧ w'.heap.size = W.heap.size := fun W g h => by
    rw [← sb_eq x y]
    exact settle_any h (fun i _ => dff_le x y i) (dff_tot hx hy) (by omega)
  obtain ⟨s, hs'⟩ : ∃ s, s = sb x y := ⟨_, rfl⟩
  rw [← hs'] at hs ⊢
  have HS := Lib.hid hs
  have HT := Lib.hid ht
  have htl := ht.lt
  clear hs hs' hx hy ht
  unfold ls at HS ⊢
  go_enter Tryd.func19, Tryd.ntmps19
  go_wp2_with (refine wpList_box27 rfl _ (lf x) rfl rfl ?_)
  intro w1 hb1 hg1 hz1
  go_wp2_with (refine wpList_box27 rfl _ (lf y) rfl rfl ?_)
  intro w2 hb2 hg2 hz2
  go_wp2_with (refine wpList_new27 rfl rfl ?_)
  intro w3 hb3 hg3 hz3
  obtain ⟨ga, hga⟩ : ∃ g, g = w.heap.size := ⟨_, rfl⟩
  obtain ⟨gb, hgb⟩ : ∃ g, g = w.heap.size + 1 := ⟨_, rfl⟩
  obtain ⟨gr, hgr⟩ : ∃ g, g = w.heap.size + 1 + 1 := ⟨_, rfl⟩
  rw [← hgr, ← hgb, ← hga]
  rw [← hga] at hb1
  rw [← hgb] at hb2
  rw [← hgr] at hb3
  have n1 : gr ≠ ga := by omega
  have n2 : 1 ≠ ga := by omega
  have n3 : 0 ≠ ga := by omega
  have HA : Hid (Blk w3 ga 27 (cl (lf x))) := Lib.hid ((hb1.grown hg2 (by simp)).grown hg3 (by simp))
  have HB : Hid (Blk w3 gb 27 (cl (lf y))) := Lib.hid (hb2.grown hg3 (by simp))
  have HR : Hid (Blk w3 gr 27 (cl fun _ => 0)) := Lib.hid hb3
  have HG : Hid (w.grownBy w3 none) := Lib.hid (World.grownBy.trans (World.grownBy.trans hg1 hg2) hg3)
  have HT3 : Hid (Tab w3) := Lib.hid (HT.out.more HG.out)
  have HWA : Hid (w.heap.size ≤ ga) := Lib.hid (by omega)
  have HWR : Hid (w.heap.size ≤ gr) := Lib.hid (by omega)
  clear hb1 hg1 hz1 hb2 hg2 hz2 hb3 hg3 hz3 hga hgb hgr HT htl
  go_wp2_with (refine wpList_load_mid rfl 25 _ rfl gb 0 rfl (cl (lf y)) _ (range_blk HB.out) Tryd.underlying25 rfl (cl_size25 _) ?_)
  go_loopw [9] (fun v wr => ∃ i : Nat, i ≤ 5 ∧ v = .int .i64 (i : Int) ∧ Blk wr ga 27 (cl (mx (dff x y) (lf x) i)) ∧ w3.grownBy wr (some ga)) (fun v _ => 5 - (intOf v).toNat)
  case atStart => exact ⟨0, by omega, rfl, by rw [mx_zero]; exact HA.out, World.grownBy.refl _ _⟩
  case round =>
    clear HA
    obtain ⟨i, hi, rfl, hb, hg⟩ := hrel
    by_cases hlt : i < 5
    · have c1 := hb.get i _ (cl_get _ i hlt)
      rw [mx_at] at c1
      have c2 := idx25 (lf y) i hlt
      have c3 := (HT3.out.grown hg (fun e => n3 (Option.some.inj e)) (fun e => n2 (Option.some.inj e))).at i hlt
      have hfz := hb.frozen i
      obtain ⟨z, hz⟩ : ∃ z, z = dff x y i := ⟨_, rfl⟩
      obtain ⟨d, hd⟩ : ∃ d, d = pr5 i - lf y i := ⟨_, rfl⟩
      have hpr : 0 ≤ pr5 i ∧ pr5 i ≤ 2251799813685247 := by unfold pr5; split <;> omega
      have d1 : IntKind.i64.wrap (pr5 i - lf y i) = d := by
        have h2 := lf_pos y i
        have h4 := lf_lt y i
        rw [hd]
        exact i64_in (by omega)
      have d2 : IntKind.i64.wrap (lf x i + d) = z := by
        have h := dff_le x y i
        rw [hz, hd]
        exact i64_in (by unfold dff at h; omega)
      have hset := mx_set (dff x y) (lf x) i z hz
      have HB2 := Lib.hid hb
      have HG2 := Lib.hid hg
      have HSET := Lib.hid hset
      clear hb hg hset hz hpr hd
      generalize pr5 i = pi at c3 d1
      go_wp2_with (fail)
      refine wp_region_still_tail 12 (by kernel_rfl) (by kernel_rfl) ?_
      change wpStill _ _ wr.drew (fun a' => wpList _ _ _ _ a' wr.drew) _ _
      simp only [List.take_succ_cons, List.take_zero, List.drop_succ_cons, List.drop_zero]
      repeat still_step
      refine wpStill_nil ?_
      go_wp2
      go_roundw
      case rel => exact ⟨i + 1, by omega, by go_num, ((HB2.out.keep (w' := wr.drew) rfl).set i _).to HSET.out, World.grownBy.trans (grown_drew HG2.out) (grown_set wr.drew ga i _)⟩
      case measure => simp [intOf]; omega
    · have ei : i = 5 := by omega
      rw [ei, mx_all] at hb
      have HB2 := Lib.hid hb
      have HR2 := Lib.hid (HR.out.grown hg (fun e => n1 (Option.some.inj e)))
      have HG2 := Lib.hid (World.grownBy.andThen HG.out hg (by rintro _ ⟨⟩; exact .inl HWA.out))
      obtain ⟨n9, hn9⟩ : ∃ n : Int, n = (i : Int) := ⟨_, rfl⟩
      have hn5 : ¬ n9 < 5 := by omega
      rw [← hn9]
      clear hb hg hi hlt ei hn9 HR HG HB HT3
      go_wp2_with (first
        | (go_at_call 20
           refine (HS.out _ ga HB2.out).mono ?_
           rintro _ w5 ⟨rfl, hb5, hg5, hz5⟩
           have HB5 := Lib.hid hb5
           have HR5 := Lib.hid (HR2.out.grown hg5 (fun e => n1 (Option.some.inj e)))
           have HG5 := Lib.hid (World.grownBy.andThen HG2.out hg5 (by rintro _ ⟨⟩; exact .inl HWA.out))
           clear hb5 hg5 hz5 HB2 HR2 HG2)
        | (refine wpList_load_mid rfl 27 _ rfl ga 0 rfl (cl (lf s)) _ (range_blk HB5.out) Tryd.underlying27 rfl (cl_size' _) ?_)
        | (refine wpList_store_row rfl 27 _ _ rfl gr (cl (lf s)).toArray rfl rfl 27 _ HR5.out (cl_size _) (cl_same _ _) (all_oneCell_toArray (cl_one _)) ?_))
      exact bodyPost_ret (results_cell_row rfl _ _ gr 27 (cl (lf s)).toArray (0, 0) _ rfl (setRow_heap w5 gr _ _ 27 (0, 0) HR5.out) Tryd.underlying27 rfl (cl_size _)) rfl ⟨rfl, World.grownBy.andThen HG5.out (grown_setRow _ _ _) (by rintro _ ⟨⟩; exact .inl HWR.out)⟩
theorem run_build27z (w : World) : (Instr.build 27 #[]).run Tryd.prog w = .ok (.agg (cl fun _ => 0).toArray) w := by kernel_rfl
theorem ls_zero : (cl fun _ => 0) = ls 0 := cl_congr fun i _ => by simp [lf, lm]
section
variable {w : World} {ops : Array Oper} {rest : List Oper} {o : Oper} {a : Act} {Q : Exit → Act → World → Prop}
theorem wpList_build27z (hgd : o.guard = none) (ho : o.op = .build 27 #[])
    (h : wpList Tryd.prog ops Q rest (a.put o.dst (.agg (ls 0).toArray)) w) : wpList Tryd.prog ops Q (o :: rest) a w := by
  refine wpList_plain hgd fun K hK => ?_
  have hrun := run_build27z w
  rw [ls_zero] at hrun
  generalize ls 0 = z at hrun h
  unfold Oper.wp
  simp only [execOp, ho, List.map_toArray, List.map_nil, hrun, Sem.run_bind, Sem.run_pure, Result.andThen_ok]
  exact hK _ _ h
end
theorem sb_zero (x : Nat) : sb 0 x = ng x := by
  unfold sb ng
  rw [Nat.zero_add, Nat.mod_mod]
set_option maxRecDepth 100000 in
set_option maxHeartbeats 1600000 in
theorem neg5_any {w : World} (ht : Tab w) (x : Nat) (hx : x < fq) : Calls Tryd.prog 17 #[.agg (ls x).toArray] w fun e w' => e = .returned (.agg (ls (ng x)).toArray) ∧ w.grownBy w' none := by
  have hs : ∀ (W : World), Tab W → Calls Tryd.prog 19 #[.agg (ls 0).toArray, .agg (ls x).toArray] W fun e w' => e = .returned (.agg (ls (ng x)).toArray) ∧ W.grownBy w' none := fun W h => by
    have := sub5_any h 0 x (by decide) hx
    rwa [sb_zero] at this
  obtain ⟨s, hs'⟩ : ∃ s, s = ng x := ⟨_, rfl⟩
  rw [← hs'] at hs ⊢
  have HS := Lib.hid hs
  have HT := Lib.hid ht
  clear hs hs' hx ht
  go_enter Tryd.func17, Tryd.ntmps17
  unfold ls at HS ⊢
  go_wp2_with (refine wpList_box27 rfl _ (lf x) rfl rfl ?_)
  intro w1 hb1 hg1 hz1
  go_wp2_with (refine wpList_new27 rfl rfl ?_)
  intro w3 hb3 hg3 hz3
  obtain ⟨ga, hga⟩ : ∃ g, g = w.heap.size := ⟨_, rfl⟩
  obtain ⟨gr, hgr⟩ : ∃ g, g = w.heap.size + 1 := ⟨_, rfl⟩
  rw [← hgr, ← hga]
  rw [← hga] at hb1
  rw [← hgr] at hb3
  have HA : Hid (Blk w3 ga 27 (cl (lf x))) := Lib.hid (hb1.grown hg3 (by simp))
  have HR : Hid (Blk w3 gr 27 (cl fun _ => 0)) := Lib.hid hb3
  have HG : Hid (w.grownBy w3 none) := Lib.hid (World.grownBy.trans hg1 hg3)
  have HT3 : Hid (Tab w3) := Lib.hid (HT.out.more HG.out)
  have HWR : Hid (w.heap.size ≤ gr) := Lib.hid (by omega)
  clear hb1 hg1 hz1 hb3 hg3 hz3 hga hgr HT
  go_wp2_with (first
    | (refine wpList_build27z rfl rfl ?_)
    | (go_at_call 19
       refine (HS.out _ HT3.out).mono ?_
       rintro _ w5 ⟨rfl, hg5⟩
       have HR5 := Lib.hid (HR.out.grown hg5 (by simp))
       have HG5 := Lib.hid (World.grownBy.trans HG.out hg5)
       clear hg5)
    | (refine wpList_load_mid rfl 27 _ rfl ga 0 rfl (cl (lf x)) _ (range_blk HA.out) Tryd.underlying27 rfl (cl_size' _) ?_)
    | (refine wpList_store_row rfl 27 _ _ rfl gr (cl (lf s)).toArray rfl rfl 27 _ HR5.out (cl_size _) (cl_same _ _) (all_oneCell_toArray (cl_one _)) ?_))
  exact bodyPost_ret (results_cell_row rfl _ _ gr 27 (cl (lf s)).toArray (0, 0) _ rfl (setRow_heap w5 gr _ _ 27 (0, 0) HR5.out) Tryd.underlying27 rfl (cl_size _)) rfl ⟨rfl, World.grownBy.andThen HG5.out (grown_setRow _ _ _) (by rintro _ ⟨⟩; exact .inl HWR.out)⟩
end Go.Proofs.YtoookolekpblhaaDoor
