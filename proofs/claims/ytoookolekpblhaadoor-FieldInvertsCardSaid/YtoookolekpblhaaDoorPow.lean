/- The code's power: a number to the power whose bits a closure tells. Conditions: the number is below p. -/
import Derived.Test.YtoookolekpblhaaDoorBut
namespace Go.Proofs.YtoookolekpblhaaDoor
open Go.RowKit
/-- The number of the first d bits, the greatest first. -/
def ex (bit : Nat → Bool) (n : Nat) : Nat → Nat
  | 0 => 0
  | d + 1 => 2 * ex bit n d + (if bit (n - 1 - d) then 1 else 0)
theorem pow_two (x e : Nat) : (x ^ e % fq) * (x ^ e % fq) % fq = x ^ (2 * e) % fq := by
  rw [← Nat.mul_mod, ← Nat.pow_add, show e + e = 2 * e by omega]
theorem pow_one' (x e : Nat) : (x ^ e % fq) * x % fq = x ^ (e + 1) % fq := by
  rw [Nat.mod_mul_mod, ← Nat.pow_succ]
theorem run_build25 (w : World) : (Instr.build 25 #[(0, .int .i64 1)]).run Tryd.prog w = .ok (.agg (cl fun i => if i = 0 then 1 else 0).toArray) w := by kernel_rfl
theorem run_build27 (w : World) (f : Nat → Int) : (Instr.build 27 #[(0, .agg (cl f).toArray)]).run Tryd.prog w = .ok (.agg (cl f).toArray) w := by kernel_rfl
theorem ls_one : (cl fun i => if i = 0 then 1 else 0) = ls 1 := by
  unfold ls
  apply cl_congr
  intro i hi
  unfold lf lm
  obtain rfl | rfl | rfl | rfl | rfl : i = 0 ∨ i = 1 ∨ i = 2 ∨ i = 3 ∨ i = 4 := by omega
  all_goals decide
section
variable {w : World} {ops : Array Oper} {rest : List Oper} {o : Oper} {a : Act} {Q : Exit → Act → World → Prop}
theorem wpList_build25 (hgd : o.guard = none) (ho : o.op = .build 25 #[(0, .const (.int .i64 1))])
    (h : wpList Tryd.prog ops Q rest (a.put o.dst (.agg (cl (lf 1)).toArray)) w) : wpList Tryd.prog ops Q (o :: rest) a w := by
  refine wpList_plain hgd fun K hK => ?_
  have hrun := run_build25 w
  rw [ls_one, ls] at hrun
  generalize cl (lf 1) = z at hrun h
  unfold Oper.wp
  simp only [execOp, ho, List.map_toArray, List.map_cons, List.map_nil, Act.eval, hrun, Sem.run_bind, Sem.run_pure, Result.andThen_ok]
  exact hK _ _ h
theorem wpList_build27 (hgd : o.guard = none) (x : Operand) (ho : o.op = .build 27 #[(0, x)]) (f : Nat → Int) (hx : a.eval x = .agg (cl f).toArray)
    (h : wpList Tryd.prog ops Q rest (a.put o.dst (.agg (cl f).toArray)) w) : wpList Tryd.prog ops Q (o :: rest) a w := by
  refine wpList_plain hgd fun K hK => ?_
  have hrun := run_build27 w f
  generalize cl f = z at hrun h hx
  unfold Oper.wp
  simp only [execOp, ho, hx, List.map_toArray, List.map_cons, List.map_nil, hrun, Sem.run_bind, Sem.run_pure, Result.andThen_ok]
  exact hK _ _ h
end
set_option maxRecDepth 100000 in
set_option maxHeartbeats 3200000 in
theorem power5_any (w : World) (x : Nat) (hx : x < fq) (n : Nat) (hn : n ≤ 1000) (gb : Nat) (bit : Nat → Bool)
    (hbit : ∀ W, w.grownBy W none → ∀ i, i < n → Calls Tryd.prog 33 #[.int .i64 (i : Int), .pointer (some ⟨gb, 0, none⟩)] W fun e w' => e = .returned (.bool (bit i)) ∧ W.grownBy w' none) (y : Nat) (hy : y = x ^ ex bit n n % fq) :
    Calls Tryd.prog 22 #[.agg (ls x).toArray, .int .i64 (n : Int), .func (.func 33) #[] #[.pointer (some ⟨gb, 0, none⟩)]] w fun e w' => e = .returned (.agg (ls y).toArray) ∧ w.grownBy w' none := by
  obtain ⟨P, hP⟩ : ∃ P : Nat → Nat, ∀ d, P d = x ^ ex bit n d % fq := ⟨fun d => x ^ ex bit n d % fq, fun _ => rfl⟩
  have hP0 : P 0 = 1 := by rw [hP, ex, Nat.pow_zero]; exact one_fq
  have hPy : P n = y := by rw [hP, hy]
  have hPl : ∀ d, P d < fq := fun d => by rw [hP]; exact Nat.mod_lt _ fq_pos
  have hS : ∀ d, ∃ q, q < fq ∧ P d * P d % fq = q ∧ ((bit (n - 1 - d) = true → q * x % fq = P (d + 1)) ∧ (bit (n - 1 - d) = false → q = P (d + 1))) := fun d => by
    refine ⟨_, Nat.mod_lt _ fq_pos, rfl, ?_, ?_⟩
    · intro hb
      rw [hP, hP, pow_two, pow_one', ex, if_pos hb]
    · intro hb
      rw [hP, hP, pow_two, ex, if_neg (by rw [hb]; decide), Nat.add_zero]
  have HP0 := Lib.hid hP0
  have HPY := Lib.hid hPy
  have HPL := Lib.hid hPl
  have HS := Lib.hid hS
  have HX := Lib.hid hx
  have HBIT := Lib.hid hbit
  clear hP hP0 hPy hPl hS hx hbit hy
  unfold ls
  go_enter Tryd.func22, Tryd.ntmps22
  go_wp2_with (refine wpList_box27 rfl _ (lf x) rfl rfl ?_)
  intro w1 hb1 hg1 hz1
  go_wp2_with (refine wpList_new27 rfl rfl ?_)
  intro w2 hb2 hg2 hz2
  go_wp2_with (first
    | (refine wpList_build25 rfl rfl ?_)
    | (refine wpList_build27 rfl _ rfl (lf 1) rfl ?_)
    | (refine wpList_new27 rfl rfl ?_
       intro w3 hb3 hg3 hz3
       obtain ⟨ga, hga⟩ : ∃ g, g = w.heap.size := ⟨_, rfl⟩
       obtain ⟨go, hgo⟩ : ∃ g, g = w.heap.size + 1 := ⟨_, rfl⟩
       obtain ⟨gr, hgr⟩ : ∃ g, g = w.heap.size + 1 + 1 := ⟨_, rfl⟩
       have hzz : w2.heap.size = w.heap.size + 1 + 1 := by omega
       rw [hzz] at hb3 ⊢
       rw [← hgr, ← hgo, ← hga]
       rw [← hga] at hb1
       rw [← hgo] at hb2
       rw [← hgr] at hb3
       have hne : ga ≠ gr ∧ go ≠ gr := ⟨by omega, by omega⟩
       have HNE := Lib.hid hne
       have HA : Hid (Blk w3 ga 27 (cl (lf x))) := Lib.hid ((hb1.grown hg2 (by simp)).grown hg3 (by simp))
       have HO : Hid (Blk w3 go 27 (cl fun _ => 0)) := Lib.hid (hb2.grown hg3 (by simp))
       have HR : Hid (Blk w3 gr 27 (cl fun _ => 0)) := Lib.hid hb3
       have HG : Hid (w.grownBy w3 none) := Lib.hid (World.grownBy.trans (World.grownBy.trans hg1 hg2) hg3)
       have HWO : Hid (w.heap.size ≤ go) := Lib.hid (by omega)
       have HWR : Hid (w.heap.size ≤ gr) := Lib.hid (by omega)
       clear hb1 hg1 hz1 hb2 hg2 hz2 hb3 hg3 hz3 hga hgo hgr hne hzz)
    | (refine wpList_store_row rfl 27 _ _ rfl gr (cl (lf 1)).toArray rfl rfl 27 _ HR.out (cl_size _) (cl_same _ _) (all_oneCell_toArray (cl_one _)) ?_
       obtain ⟨w4, hw4⟩ : ∃ w4, w4 = w3.setRow gr (cl (lf 1)).toArray := ⟨_, rfl⟩
       have hg4 : w3.grownBy w4 (some gr) := by rw [hw4]; exact grown_setRow _ _ _
       have HR4 : Hid (Blk w4 gr 27 (cl (lf (P 0)))) := Lib.hid (by rw [hw4, HP0.out]; exact Blk.setRow HR.out)
       have HA4 : Hid (Blk w4 ga 27 (cl (lf x))) := Lib.hid (HA.out.grown hg4 (fun e => HNE.out.1 (Option.some.inj e)))
       have HO4 : Hid (Blk w4 go 27 (cl fun _ => 0)) := Lib.hid (HO.out.grown hg4 (fun e => HNE.out.2 (Option.some.inj e)))
       have HG4 : Hid (w.grownBy w4 none) := Lib.hid (World.grownBy.andThen HG.out hg4 (by rintro _ ⟨⟩; exact .inl HWR.out))
       rw [← hw4]
       clear hw4 hg4 HA HO HR HG HP0)
    | fail)
  go_loopw [8] (fun v wr => ∃ d : Nat, d ≤ n ∧ v = .int .i64 ((n : Int) - 1 - (d : Int)) ∧ Blk wr gr 27 (cl (lf (P d))) ∧ Blk wr ga 27 (cl (lf x)) ∧ Blk wr go 27 (cl fun _ => 0) ∧ w.grownBy wr none) (fun v _ => (intOf v + 1).toNat)
  case atStart => exact ⟨0, by omega, by go_num, HR4.out, HA4.out, HO4.out, HG4.out⟩
  case round =>
    clear HR4 HA4 HO4 HG4
    obtain ⟨d, hd, rfl, hr, ha, ho, hg⟩ := hrel
    have HR5 := Lib.hid hr
    have HA5 := Lib.hid ha
    have HO5 := Lib.hid ho
    have HG5 := Lib.hid hg
    clear hr ha ho hg
    by_cases hlt : d < n
    · obtain ⟨j, hj⟩ : ∃ j, j = n - 1 - d := ⟨_, rfl⟩
      have hjd : (n : Int) - 1 - (d : Int) = (j : Int) := by omega
      rw [hjd]
      have HJD := Lib.hid hjd
      have hjn : j < n := by omega
      obtain ⟨q, hq, hqq, hsd⟩ := HS.out d
      rw [← hj] at hsd
      have hm1 : ∀ W, Calls Tryd.prog 14 #[.agg (cl (lf (P d))).toArray, .agg (cl (lf (P d))).toArray] W fun e w' => e = .returned (.agg (cl (lf q)).toArray) ∧ W.grownBy w' none := fun W => by
        have := mul5_any W (P d) (P d) (HPL.out d) (HPL.out d)
        rwa [hqq] at this
      have hm2 : ∀ W, Calls Tryd.prog 14 #[.agg (cl (lf q)).toArray, .agg (cl (lf x)).toArray] W fun e w' => e = .returned (.agg (cl (lf (q * x % fq))).toArray) ∧ W.grownBy w' none := fun W => mul5_any W q x hq HX.out
      have HM1 := Lib.hid hm1
      have HM2 := Lib.hid hm2
      have dj : IntKind.i64.wrap ((j : Int) - 1) = (j : Int) - 1 := i64_in (by omega)
      clear hm1 hm2 hq hqq hj
      by_cases hbj : bit j = true
      · have hj2 := hsd.1 hbj
        have hbc : ∀ W, w.grownBy W none → Calls Tryd.prog 33 #[.int .i64 (j : Int), .pointer (some ⟨gb, 0, none⟩)] W fun e w' => e = .returned (.bool true) ∧ W.grownBy w' none := fun W h => by
          have := HBIT.out W h j (by omega)
          rwa [hbj] at this
        have HBC := Lib.hid hbc
        have HJ2 := Lib.hid hj2
        clear hbc hj2 hsd hbj hjd
        go_wp2_with (first
          | (refine wpList_load_mid rfl 27 _ rfl gr 0 rfl (cl (lf (P d))) _ (range_blk HR5.out) Tryd.underlying27 rfl (cl_size' _) ?_)
          | (go_at_call 14
             with_reducible refine (HM1.out _).mono ?_
             rintro _ w6 ⟨rfl, hg6⟩
             have HR6 := Lib.hid (HR5.out.grown hg6 (by simp))
             have HA6 := Lib.hid (HA5.out.grown hg6 (by simp))
             have HO6 := Lib.hid (HO5.out.grown hg6 (by simp))
             have HG6 : Hid (w.grownBy w6 none) := Lib.hid (World.grownBy.trans HG5.out hg6)
             clear hg6 HR5 HA5 HO5 HG5 HM1)
          | (refine wpList_store_row rfl 27 _ _ rfl gr (cl (lf q)).toArray rfl rfl 27 _ HR6.out (cl_size _) (cl_same _ _) (all_oneCell_toArray (cl_one _)) ?_
             obtain ⟨w7, hw7⟩ : ∃ w7, w7 = w6.setRow gr (cl (lf q)).toArray := ⟨_, rfl⟩
             have hg7 : w6.grownBy w7 (some gr) := by rw [hw7]; exact grown_setRow _ _ _
             have HR7 : Hid (Blk w7 gr 27 (cl (lf q))) := Lib.hid (by rw [hw7]; exact Blk.setRow HR6.out)
             have HA7 : Hid (Blk w7 ga 27 (cl (lf x))) := Lib.hid (HA6.out.grown hg7 (fun e => HNE.out.1 (Option.some.inj e)))
             have HO7 : Hid (Blk w7 go 27 (cl fun _ => 0)) := Lib.hid (HO6.out.grown hg7 (fun e => HNE.out.2 (Option.some.inj e)))
             have HG7 : Hid (w.grownBy w7 none) := Lib.hid (World.grownBy.andThen HG6.out hg7 (by rintro _ ⟨⟩; exact .inl HWR.out))
             rw [← hw7]
             clear hw7 hg7 HR6 HA6 HO6 HG6)
          | (go_at_call 33
             with_reducible refine (HBC.out _ HG7.out).mono ?_
             rintro _ w8 ⟨rfl, hg8⟩
             have HR8 := Lib.hid (HR7.out.grown hg8 (by simp))
             have HA8 := Lib.hid (HA7.out.grown hg8 (by simp))
             have HO8 := Lib.hid (HO7.out.grown hg8 (by simp))
             have HG8 : Hid (w.grownBy w8 none) := Lib.hid (World.grownBy.trans HG7.out hg8)
             clear hg8 HR7 HA7 HO7 HG7)
          | (refine wpList_load_mid rfl 27 _ rfl gr 0 rfl (cl (lf q)) _ (range_blk HR8.out) Tryd.underlying27 rfl (cl_size' _) ?_)
          | (refine wpList_load_mid rfl 27 _ rfl ga 0 rfl (cl (lf x)) _ (range_blk HA8.out) Tryd.underlying27 rfl (cl_size' _) ?_)
          | (go_at_call 14
             with_reducible refine (HM2.out _).mono ?_
             rintro _ w9 ⟨rfl, hg9⟩
             have HR9 := Lib.hid (HR8.out.grown hg9 (by simp))
             have HA9 := Lib.hid (HA8.out.grown hg9 (by simp))
             have HO9 := Lib.hid (HO8.out.grown hg9 (by simp))
             have HG9 : Hid (w.grownBy w9 none) := Lib.hid (World.grownBy.trans HG8.out hg9)
             clear hg9 HR8 HA8 HO8 HG8)
          | (refine wpList_store_row rfl 27 _ _ rfl gr (cl (lf (q * x % fq))).toArray rfl rfl 27 _ HR9.out (cl_size _) (cl_same _ _) (all_oneCell_toArray (cl_one _)) ?_
             obtain ⟨wa, hwa⟩ : ∃ wa, wa = w9.setRow gr (cl (lf (q * x % fq))).toArray := ⟨_, rfl⟩
             have hga : w9.grownBy wa (some gr) := by rw [hwa]; exact grown_setRow _ _ _
             have HRa : Hid (Blk wa gr 27 (cl (lf (q * x % fq)))) := Lib.hid (by rw [hwa]; exact Blk.setRow HR9.out)
             have HAa : Hid (Blk wa ga 27 (cl (lf x))) := Lib.hid (HA9.out.grown hga (fun e => HNE.out.1 (Option.some.inj e)))
             have HOa : Hid (Blk wa go 27 (cl fun _ => 0)) := Lib.hid (HO9.out.grown hga (fun e => HNE.out.2 (Option.some.inj e)))
             have HGa : Hid (w.grownBy wa none) := Lib.hid (World.grownBy.andThen HG9.out hga (by rintro _ ⟨⟩; exact .inl HWR.out))
             rw [← hwa]
             clear hwa hga HR9 HA9 HO9 HG9)
          | fail)
        go_roundw
        case rel => exact ⟨d + 1, by omega, by have := HJD.out; congr 1; omega, HRa.out.to (by rw [HJ2.out]), HAa.out, HOa.out, HGa.out⟩
        case measure => simp [intOf]
      · rw [Bool.not_eq_true] at hbj
        have hj2 := hsd.2 hbj
        have hbc : ∀ W, w.grownBy W none → Calls Tryd.prog 33 #[.int .i64 (j : Int), .pointer (some ⟨gb, 0, none⟩)] W fun e w' => e = .returned (.bool false) ∧ W.grownBy w' none := fun W h => by
          have := HBIT.out W h j (by omega)
          rwa [hbj] at this
        have HBC := Lib.hid hbc
        have HJ2 := Lib.hid hj2
        clear hbc hj2 hsd hbj hjd
        go_wp2_with (first
          | (refine wpList_load_mid rfl 27 _ rfl gr 0 rfl (cl (lf (P d))) _ (range_blk HR5.out) Tryd.underlying27 rfl (cl_size' _) ?_)
          | (go_at_call 14
             with_reducible refine (HM1.out _).mono ?_
             rintro _ w6 ⟨rfl, hg6⟩
             have HR6 := Lib.hid (HR5.out.grown hg6 (by simp))
             have HA6 := Lib.hid (HA5.out.grown hg6 (by simp))
             have HO6 := Lib.hid (HO5.out.grown hg6 (by simp))
             have HG6 : Hid (w.grownBy w6 none) := Lib.hid (World.grownBy.trans HG5.out hg6)
             clear hg6 HR5 HA5 HO5 HG5 HM1)
          | (refine wpList_store_row rfl 27 _ _ rfl gr (cl (lf q)).toArray rfl rfl 27 _ HR6.out (cl_size _) (cl_same _ _) (all_oneCell_toArray (cl_one _)) ?_
             obtain ⟨w7, hw7⟩ : ∃ w7, w7 = w6.setRow gr (cl (lf q)).toArray := ⟨_, rfl⟩
             have hg7 : w6.grownBy w7 (some gr) := by rw [hw7]; exact grown_setRow _ _ _
             have HR7 : Hid (Blk w7 gr 27 (cl (lf q))) := Lib.hid (by rw [hw7]; exact Blk.setRow HR6.out)
             have HA7 : Hid (Blk w7 ga 27 (cl (lf x))) := Lib.hid (HA6.out.grown hg7 (fun e => HNE.out.1 (Option.some.inj e)))
             have HO7 : Hid (Blk w7 go 27 (cl fun _ => 0)) := Lib.hid (HO6.out.grown hg7 (fun e => HNE.out.2 (Option.some.inj e)))
             have HG7 : Hid (w.grownBy w7 none) := Lib.hid (World.grownBy.andThen HG6.out hg7 (by rintro _ ⟨⟩; exact .inl HWR.out))
             rw [← hw7]
             clear hw7 hg7 HR6 HA6 HO6 HG6)
          | (go_at_call 33
             with_reducible refine (HBC.out _ HG7.out).mono ?_
             rintro _ w8 ⟨rfl, hg8⟩
             have HR8 := Lib.hid (HR7.out.grown hg8 (by simp))
             have HA8 := Lib.hid (HA7.out.grown hg8 (by simp))
             have HO8 := Lib.hid (HO7.out.grown hg8 (by simp))
             have HG8 : Hid (w.grownBy w8 none) := Lib.hid (World.grownBy.trans HG7.out hg8)
             clear hg8 HR7 HA7 HO7 HG7)
          | fail)
        go_roundw
        case rel => exact ⟨d + 1, by omega, by have := HJD.out; congr 1; omega, HR8.out.to (by rw [HJ2.out]), HA8.out, HO8.out, HG8.out⟩
        case measure => simp [intOf]
    · have ed : d = n := by omega
      rw [ed, HPY.out] at HR5
      have hjd : (n : Int) - 1 - (d : Int) = -1 := by omega
      rw [hjd]
      clear hjd ed hlt hd
      go_wp2_with (first
        | (refine wpList_load_mid rfl 27 _ rfl gr 0 rfl (cl (lf y)) _ (range_blk HR5.out) Tryd.underlying27 rfl (cl_size' _) ?_)
        | (refine wpList_store_row rfl 27 _ _ rfl go (cl (lf y)).toArray rfl rfl 27 _ HO5.out (cl_size _) (cl_same _ _) (all_oneCell_toArray (cl_one _)) ?_))
      exact bodyPost_ret (results_cell_row rfl _ _ go 27 (cl (lf y)).toArray (0, 0) _ rfl (setRow_heap _ go _ _ 27 (0, 0) HO5.out) Tryd.underlying27 rfl (cl_size _)) rfl ⟨rfl, World.grownBy.andThen HG5.out (grown_setRow _ _ _) (by rintro _ ⟨⟩; exact .inl HWO.out)⟩
end Go.Proofs.YtoookolekpblhaaDoor
