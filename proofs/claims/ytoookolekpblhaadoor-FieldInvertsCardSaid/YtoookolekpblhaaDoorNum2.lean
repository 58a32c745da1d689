/- The reference's numbers: which is below, and differences. Conditions: the numbers have sixteen digits. -/
import Derived.Test.YtoookolekpblhaaDoorNum1
import Derived.Deep.QuietTactic
import Derived.BigQuiet
namespace Go.Proofs.YtoookolekpblhaaDoor
open Go.RowKit
theorem grown_drewN {w wr : World} {row : Option Nat} (n : Nat) (h : w.grownBy wr row) : w.grownBy (wr.drewN n) row := ⟨h.os, h.tape, h.output, h.size, h.block⟩
theorem less_top {a b : Nat} (ha : a < 65536 ^ 16) (hb : b < 65536 ^ 16) : a / 65536 ^ (15 + 1) = b / 65536 ^ (15 + 1) := by
  rw [Nat.div_eq_of_lt ha, Nat.div_eq_of_lt hb]
set_option maxRecDepth 100000 in
set_option maxHeartbeats 1600000 in
theorem less_any (w : World) (a b : Nat) (ha : a < 65536 ^ 16) (hb : b < 65536 ^ 16) : Calls Tryd.prog 32 #[.agg (num (dgt a)).toArray, .agg (num (dgt b)).toArray] w fun e w' => e = .returned (.bool (decide (a < b))) ∧ w.grownBy w' none := by
  have HT := Lib.hid (less_top ha hb)
  clear ha hb
  go_enter Tryd.func32, Tryd.ntmps32
  go_wp2_with (refine wpList_box32 rfl _ (dgt a) rfl rfl ?_)
  intro w1 hb1 hg1 hz1
  go_wp2_with (refine wpList_box32 rfl _ (dgt b) rfl rfl ?_)
  intro w2 hb2 hg2 hz2
  obtain ⟨ga, hga⟩ : ∃ g, g = w.heap.size := ⟨_, rfl⟩
  obtain ⟨gb, hgb⟩ : ∃ g, g = w.heap.size + 1 := ⟨_, rfl⟩
  rw [← hgb, ← hga]
  rw [← hga] at hb1
  rw [← hgb] at hb2
  have HA : Hid (Blk w2 ga 31 (num (dgt a))) := Lib.hid (hb1.grown hg2 (by simp))
  have HB : Hid (Blk w2 gb 31 (num (dgt b))) := Lib.hid hb2
  have HG : Hid (w.grownBy w2 none) := Lib.hid (World.grownBy.trans hg1 hg2)
  clear hb1 hg1 hz1 hb2 hg2 hz2 hga hgb
  go_wp2_with (fail)
  go_loopw [5] (fun x wr => ∃ k : Nat, k ≤ 16 ∧ x = .int .i64 ((k : Int) - 1) ∧ a / 65536 ^ k = b / 65536 ^ k ∧ w2.grownBy wr none) (fun x _ => (intOf x + 1).toNat)
  case atStart => exact ⟨16, Nat.le_refl _, rfl, HT.out, World.grownBy.refl _ _⟩
  case round =>
    obtain ⟨k, hk, rfl, he, hg⟩ := hrel
    rcases k with _ | i
    · have heq : a = b := by simpa using he
      have hf : (false : Bool) = decide (a < b) := by rw [heq]; simp
      have HF := Lib.hid hf
      have HGE : Hid (w.grownBy wr none) := Lib.hid (World.grownBy.trans HG.out hg)
      clear he heq hf hg
      go_wp2
      go_ret
      exact ⟨by rw [← HF.out]; rfl, HGE.out⟩
    · have hi : i < 16 := by omega
      have e0 : ((i + 1 : Nat) : Int) - 1 = (i : Int) := by omega
      rw [e0]
      have e1 : (i : Int) < 16 := by omega
      have c1 := (HA.out.grown hg (by simp)).get i _ (num_get (dgt a) i hi)
      have c2 := (HB.out.grown hg (by simp)).get i _ (num_get (dgt b) i hi)
      have HE := Lib.hid he
      have HGE : Hid (w2.grownBy wr none) := Lib.hid hg
      clear he hg
      obtain ⟨x, hx⟩ : ∃ x, x = dgt a i := ⟨_, rfl⟩
      obtain ⟨y, hy⟩ : ∃ y, y = dgt b i := ⟨_, rfl⟩
      rw [← hx] at c1
      rw [← hy] at c2
      have d1 : IntKind.i64.wrap ((i : Int) - 1) = (i : Int) - 1 := by rw [IntKind.wrap_i64]; omega
      by_cases hne : x = y
      · have f1 : (x : Int) = (y : Int) := by omega
        have hnx := less_next HE.out (by rw [← hx, ← hy, hne])
        have HNX := Lib.hid hnx
        clear hx hy hne hnx
        go_wp2_with (fail)
        go_quiet (fail)
        go_wp2
        exact ⟨⟨i, by omega, rfl, HNX.out, grown_drewN _ HGE.out⟩, by simp [intOf]⟩
      · have f1 : ¬ (x : Int) = (y : Int) := by omega
        have hlt : decide (x < y) = decide (a < b) := by
          have := less_at HE.out (by rw [← hx, ← hy]; exact hne)
          rw [← hx, ← hy] at this
          rw [Bool.eq_iff_iff]
          simp only [decide_eq_true_eq]
          exact this.symm
        have HL := Lib.hid hlt
        have HGW : Hid (w.grownBy wr none) := Lib.hid (World.grownBy.trans HG.out HGE.out)
        clear hx hy hne hlt
        go_wp2_with (fail)
        go_quiet (fail)
        go_wp2_with (fail)
        go_quiet (fail)
        go_wp2
        go_ret
        exact ⟨by rw [← HL.out]; rfl, grown_drewN _ (grown_drewN _ HGW.out)⟩
/-- While a difference is told. -/
def MinF (a b : Nat) (U : List Nat) (i q : Nat) : Prop := U.length = i ∧ (∀ x ∈ U, x < 65536) ∧ q ≤ 1 ∧ a % 65536 ^ i + q * 65536 ^ i = vl U + b % 65536 ^ i
theorem all_snoc {U : List Nat} {x : Nat} (h : ∀ y ∈ U, y < 65536) (hx : x < 65536) : ∀ y ∈ U ++ [x], y < 65536 := by
  intro y hy
  rcases List.mem_append.1 hy with hy | hy
  · exact h y hy
  · rw [List.mem_singleton.1 hy]; exact hx
theorem ints_append (a b : List Nat) : ints (a ++ b) = ints a ++ ints b := by simp [ints]
theorem ints_at (l : List Nat) (i : Nat) (h : i < l.length) : (ints l)[i]? = some (.int .i64 ((l.getD i 0 : Nat) : Int)) := ints_get l i h
theorem set_mid (U D : List Nat) (i x : Nat) (h : U.length = i) (hd : i < D.length) : (U ++ D.drop i).set i x = (U ++ [x]) ++ D.drop (i + 1) := by
  subst h
  rw [List.set_append_right _ _ (Nat.le_refl _), Nat.sub_self, List.drop_eq_getElem_cons hd, List.set_cons_zero, List.append_assoc]
  rfl
theorem getD_mid (U D : List Nat) (i : Nat) (h : U.length = i) (hd : i < D.length) : (U ++ D.drop i).getD i 0 = D.getD i 0 := by
  subst h
  rw [List.getD_eq_getElem?_getD, List.getElem?_append_right (Nat.le_refl _), Nat.sub_self, List.getElem?_drop, List.getD_eq_getElem?_getD]
  rfl
set_option maxRecDepth 100000 in
set_option maxHeartbeats 1600000 in
theorem minus_any (w : World) (a b : Nat) (ha : a < 65536 ^ 16) (hb : b ≤ a) : Calls Tryd.prog 25 #[.agg (num (dgt a)).toArray, .agg (num (dgt b)).toArray] w fun e w' => e = .returned (.agg (num (dgt (a - b))).toArray) ∧ w.grownBy w' none := by
  have HALT := Lib.hid ha
  have HBLE := Lib.hid hb
  clear ha hb
  go_enter Tryd.func25, Tryd.ntmps25
  go_wp2_with (refine wpList_box32 rfl _ (dgt a) rfl rfl ?_)
  intro w1 hb1 hg1 hz1
  go_wp2_with (refine wpList_box32 rfl _ (dgt b) rfl rfl ?_)
  intro w2 hb2 hg2 hz2
  go_wp2_with (refine wpList_alloc32 rfl rfl ?_)
  intro w3 hb3 hg3 hz3
  obtain ⟨ga, hga⟩ : ∃ g, g = w.heap.size := ⟨_, rfl⟩
  obtain ⟨gb, hgb⟩ : ∃ g, g = w.heap.size + 1 := ⟨_, rfl⟩
  obtain ⟨go, hgo⟩ : ∃ g, g = w.heap.size + 1 + 1 := ⟨_, rfl⟩
  rw [← hgo, ← hgb, ← hga]
  rw [← hga] at hb1
  rw [← hgb] at hb2
  rw [← hgo] at hb3
  have HA : Hid (Blk w3 ga 31 (ints (dgs 16 a))) := Lib.hid ((hb1.grown hg2 (by simp)).grown hg3 (by simp))
  have HB : Hid (Blk w3 gb 31 (num (dgt b))) := Lib.hid (hb2.grown hg3 (by simp))
  have HO : Hid (Blk w3 go 31 (num fun _ => 0)) := Lib.hid hb3
  have HG : Hid (w.grownBy w3 none) := Lib.hid (World.grownBy.trans (World.grownBy.trans hg1 hg2) hg3)
  have HBA : Hid (gb ≠ ga) := Lib.hid (by omega)
  have HOA : Hid (go ≠ ga) := Lib.hid (by omega)
  have HWA : Hid (w.heap.size ≤ ga) := Lib.hid (by omega)
  have HWO : Hid (w.heap.size ≤ go) := Lib.hid (by omega)
  clear hb1 hg1 hz1 hb2 hg2 hz2 hb3 hg3 hz3 hga hgb hgo
  go_wp2_with (fail)
  go_loopw [5, 6, 7] (fun y x _ wr => ∃ (i q : Nat) (U : List Nat), i ≤ 16 ∧ x = .int .i64 (i : Int) ∧ y = .int .i64 (q : Int) ∧ MinF a b U i q ∧ Blk wr ga 31 (ints (U ++ (dgs 16 a).drop i)) ∧ w3.grownBy wr (some ga)) (fun _ x _ _ => 16 - (intOf x).toNat)
  case atStart => exact ⟨0, 0, [], Nat.zero_le _, rfl, rfl, ⟨rfl, by simp, by omega, by simp [vl, Nat.mod_one]⟩, HA.out, World.grownBy.refl _ _⟩
  case round =>
    clear HA
    obtain ⟨i, q, U, hi, rfl, rfl, hM, hA, hg⟩ := hrel
    by_cases hlt : i < 16
    · have e1 : (i : Int) < 16 := by omega
      have c1 := hA.get i _ (ints_at _ i (by rw [List.length_append, List.length_drop, dgs_length, hM.1]; omega))
      rw [getD_mid U (dgs 16 a) i hM.1 (by rw [dgs_length]; exact hlt), dgs_getD _ _ _ hlt] at c1
      have c2 := (HB.out.grown hg (fun e => HBA.out (Option.some.inj e))).get i _ (num_get (dgt b) i hlt)
      have hf := hA.frozen i
      have hA2 := fun (m x : Nat) => ((hA.keep (w' := wr.drewN m) rfl).set i (.int .i64 (x : Int))).to (by rw [ints_set, set_mid U (dgs 16 a) i x hM.1 (by rw [dgs_length]; exact hlt)])
      have hst := fun x r hx => minus_step (x := x) (r := r) (b := b) hM.1 hM.2.2.2 hx
      have hx1 := dgt_lt a i
      have hy1 := dgt_lt b i
      have hq1 := hM.2.2.1
      obtain ⟨x, hx⟩ : ∃ x, x = dgt a i := ⟨_, rfl⟩
      obtain ⟨y, hy⟩ : ∃ y, y = dgt b i := ⟨_, rfl⟩
      rw [← hx] at c1 hx1
      rw [← hy] at c2 hy1
      rw [← hx, ← hy] at hst
      have HST := Lib.hid hst
      have HA2 := Lib.hid hA2
      have HM := Lib.hid hM
      have HG2 := Lib.hid hg
      clear hx hy hst hA2 hM hg hA
      have d1 : IntKind.i64.wrap ((x : Int) - (y : Int)) = (x : Int) - (y : Int) := by rw [IntKind.wrap_i64]; omega
      have d2 : IntKind.i64.wrap ((x : Int) - (y : Int) - (q : Int)) = (x : Int) - (y : Int) - (q : Int) := by rw [IntKind.wrap_i64]; omega
      by_cases hneg : (x : Int) - (y : Int) - (q : Int) < 0
      · obtain ⟨z, hz⟩ : ∃ z : Nat, (z : Int) = (x : Int) - (y : Int) - (q : Int) + 65536 := ⟨((x : Int) - (y : Int) - (q : Int) + 65536).toNat, by omega⟩
        have d3 : IntKind.i64.wrap ((x : Int) - (y : Int) - (q : Int) + 65536) = (z : Int) := by rw [IntKind.wrap_i64]; omega
        have d4 : (x : Int) - (y : Int) - (q : Int) + 65536 = (z : Int) := by omega
        have HN : Hid (MinF a b (U ++ [z]) (i + 1) 1) := Lib.hid ⟨by rw [List.length_append, HM.out.1]; rfl, all_snoc HM.out.2.1 (by omega), by omega, HST.out z 1 (by omega)⟩
        clear hz
        go_wp2_with (fail)
        go_quiet (fail)
        go_wp2_with (fail)
        exact ⟨⟨i + 1, 1, U ++ [z], by omega, by go_num, rfl, HN.out, HA2.out nq z, World.grownBy.trans (grown_drewN nq HG2.out) (grown_set _ ga i _)⟩, by simp [intOf]; omega⟩
      · obtain ⟨z, hz⟩ : ∃ z : Nat, (z : Int) = (x : Int) - (y : Int) - (q : Int) := ⟨((x : Int) - (y : Int) - (q : Int)).toNat, by omega⟩
        have d4 : (x : Int) - (y : Int) - (q : Int) = (z : Int) := by omega
        have HN : Hid (MinF a b (U ++ [z]) (i + 1) 0) := Lib.hid ⟨by rw [List.length_append, HM.out.1]; rfl, all_snoc HM.out.2.1 (by omega), by omega, HST.out z 0 (by omega)⟩
        clear hz
        go_wp2_with (fail)
        go_quiet (fail)
        go_wp2_with (fail)
        exact ⟨⟨i + 1, 0, U ++ [z], by omega, by go_num, rfl, HN.out, HA2.out nq z, World.grownBy.trans (grown_drewN nq HG2.out) (grown_set _ ga i _)⟩, by simp [intOf]; omega⟩
    · have ei : i = 16 := by omega
      subst ei
      have hU := minus_end hM.1 hM.2.1 HALT.out HBLE.out hM.2.2.2
      have hA' : Blk wr ga 31 (num (dgt (a - b))) := hA.to (by rw [hU, List.drop_eq_nil_of_le (by rw [dgs_length]; exact Nat.le_refl _), List.append_nil, num_dgs])
      have HA := Lib.hid hA'
      have HO2 := Lib.hid (HO.out.grown hg (fun e => HOA.out (Option.some.inj e)))
      have HG2 : Hid (w.grownBy wr none) := Lib.hid (World.grownBy.andThen HG.out hg (by rintro _ ⟨⟩; exact .inl HWA.out))
      clear hM hA hg hlt hi HO hU hA'
      go_wp2_with (first
        | (refine wpList_load_mid rfl 31 _ rfl ga 0 rfl (num (dgt (a - b))) _ (range_blk HA.out) Tryd.underlying31 rfl (num_size' _) ?_)
        | (refine wpList_store_row rfl 31 _ _ rfl go (num (dgt (a - b))).toArray rfl rfl 31 _ HO2.out (num_size _) (num_same _ _) (all_oneCell_toArray (num_one _)) ?_))
      exact bodyPost_ret (results_cell_row rfl _ _ go 31 (num (dgt (a - b))).toArray (0, 0) _ rfl (setRow_heap wr go _ _ 31 (0, 0) HO2.out) Tryd.underlying31 rfl (num_size _)) rfl ⟨rfl, World.grownBy.andThen HG2.out (grown_setRow _ _ _) (by rintro _ ⟨⟩; exact .inl HWO.out)⟩
end Go.Proofs.YtoookolekpblhaaDoor
