/- The tables of S and of its contrary are filled. Conditions: both are empty. -/
import Derived.Test.YtngfldlfoniklaaCod1
import Derived.Test.YtngfldlfoniklaaLock
namespace Go.Proofs.Ytngfldlfoniklaa
open Go.RowKit
/-- The powers of 3 as the code makes them. -/
def px : Nat → UInt8
  | 0 => 1
  | n + 1 => px n ^^^ xt (px n)
theorem px_pow : ∀ i, i < 256 → px i = pow3 i
  | 0, _ => rfl
  | i + 1, h => by rw [px, px_pow i (by omega), pow3_next i (by omega)]
/-- L bytes, the first n of them told. -/
def fl (L : Nat) (f : Nat → UInt8) (n : Nat) : List UInt8 := (List.range L).map fun j => if j < n then f j else 0
section
variable (L : Nat) (f : Nat → UInt8) (n j : Nat)
theorem fl_length : (fl L f n).length = L := by simp [fl]
theorem fl_get (h : j < n) (hL : j < L) : (fl L f n).getD j 0 = f j := by
  unfold fl
  rw [List.getD_eq_getElem?_getD, List.getElem?_map, List.getElem?_range hL]
  simp [h]
theorem fl_set : (fl L f n).set n (f n) = fl L f (n + 1) := by
  apply List.ext_getElem (by simp [fl])
  intro q h1 h2
  rw [List.getElem_set]
  simp only [fl, List.getElem_map, List.getElem_range]
  by_cases e : n = q
  · subst e; simp
  · have : (q < n + 1) = (q < n) := by simp; omega
    simp [e, this]
theorem fl_zero : fl L f 0 = List.replicate L 0 := by
  apply List.ext_getElem (by simp [fl])
  intro q h1 h2
  simp [fl]
end
theorem run_alloc36 (w : World) : (Instr.alloc 46 true (.tuple #[])).run Try.prog w = .ok (.pointer (some ⟨w.heap.size, 0, none⟩)) (w.alloc (.cells (u8s (fl 256 px 0)).toArray 46)) := by kernel_rfl
section
variable {w : World} {ops : Array Oper} {rest : List Oper} {o : Oper} {a : Act} {Q : Exit → Act → World → Prop}
theorem wpList_alloc36 (hgd : o.guard = none) (ho : o.op = .alloc 46)
    (h : ∀ w', Blk w' w.heap.size 46 (u8s (fl 256 px 0)) → w.grownBy w' none → w'.heap.size = w.heap.size + 1 → wpList Try.prog ops Q rest (a.put o.dst (.pointer (some ⟨w.heap.size, 0, none⟩))) w') : wpList Try.prog ops Q (o :: rest) a w := by
  refine wpList_plain hgd fun K hK => ?_
  have hrun := run_alloc36 w
  generalize u8s (fl 256 px 0) = z at hrun h
  unfold Oper.wp
  simp only [execOp, ho, Sem.run_bind, hrun, Result.andThen_ok, Sem.run_pure]
  exact hK _ _ (h _ (Blk.of_alloc w _ 46) (World.grownBy_alloc w _ none) (World.size_alloc w _))
end
set_option maxRecDepth 100000 in
set_option maxHeartbeats 1600000 in
theorem fill_any {W : World} {g : Nat} {K : List UInt8} (hb : Blk W g 49 (cph (tabS 0) (tabB 0) K)) :
    Calls Try.prog 24 #[.pointer (some ⟨g, 0, none⟩)] W fun e w' => e = .returned (.tuple #[]) ∧ Blk w' g 49 (cph (tabS 256) (tabB 256) K) ∧ W.grownBy w' (some g) := by
  have hlt := hb.lt
  have HB := Lib.hid hb
  clear hb
  go_enter Try.func24, Try.ntmps24
  go_wp2_with (refine wpList_alloc36 rfl rfl ?_)
  intro w2 hb2 hg2 hz2
  obtain ⟨gp, hgp⟩ : ∃ gp, gp = W.heap.size := ⟨_, rfl⟩
  rw [← hgp] at hb2 ⊢
  have hne : gp ≠ g := by omega
  have HP := Lib.hid hb2
  have HB2 := Lib.hid (HB.out.grown hg2 (by simp))
  have HG2 := Lib.hid hg2
  have HGP := Lib.hid (show W.heap.size ≤ gp by omega)
  clear hb2 hg2 hz2 hgp HB hlt
  go_wp2_with (fail)
  go_loopw [3, 6] (fun x v wr => ∃ i : Nat, i ≤ 256 ∧ v = .int .i64 (i : Int) ∧ x = .int .u8 ((px i).toNat : Int) ∧ Blk wr gp 46 (u8s (fl 256 px i)) ∧ Blk wr g 49 (cph (tabS 0) (tabB 0) K) ∧ W.grownBy wr none) (fun _ v _ => 256 - (intOf v).toNat)
  case atStart => exact ⟨0, by omega, rfl, rfl, HP.out, HB2.out, HG2.out⟩
  case round =>
    clear HP HB2 HG2
    obtain ⟨i, hi, rfl, rfl, hp, hb, hg⟩ := hrel
    by_cases hlt : i < 256
    · have hc := hp.get i _ (u8s_at _ i (by rw [fl_length]; exact hlt))
      have hf := hp.frozen i
      have hp2 := hp.set i (.int .u8 ((px i).toNat : Int))
      rw [u8s_set, fl_set] at hp2
      have HP := Lib.hid hp2
      have HB := Lib.hid (hb.grown (grown_set wr gp i (.int .u8 ((px i).toNat : Int))) (fun e => hne (Option.some.inj e).symm))
      have HG : Hid (W.grownBy (wr.setCell ⟨gp, i, none⟩ (.int .u8 ((px i).toNat : Int))) none) := Lib.hid (World.grownBy.andThen hg (grown_set _ _ _ _) (by rintro _ ⟨⟩; exact .inl HGP.out))
      have hx : bits .xor .u8 ((px i).toNat : Int) ((xt (px i)).toNat : Int) = ((px (i + 1)).toNat : Int) := b_xor _ _
      clear hp hb hg hp2
      go_wp2_with (go_at_call 35; with_reducible refine (dbl_any (px i) _).mono ?_; rintro _ V ⟨rfl, rfl⟩)
      go_roundw
      case rel => exact ⟨i + 1, by omega, by go_num, rfl, HP.out, HB.out, HG.out⟩
      case measure => simp [intOf]; omega
    · have ei : i = 256 := by omega
      subst ei
      have HP := Lib.hid hp
      have HG := Lib.hid hg
      have HB := Lib.hid hb
      clear hp hg hlt hi
      go_wp2_with (go_at_call 36; refine (pair_any (b := 0) (v := 0) hb (tabS_length 0) (tabB_length 0)).mono ?_; rintro _ w3 ⟨rfl, hb3, hg3, hz3⟩)
      rw [aff_zero] at hb3
      have hb3' : Blk w3 g 49 (cph (tabS 1) (tabB 1) K) := hb3
      have HP3 := Lib.hid (HP.out.grown hg3 (fun e => hne (Option.some.inj e)))
      have HB3 := Lib.hid hb3'
      have HG3 := Lib.hid (World.grownBy.andThen (row := some g) (HG.out.but _) hg3 (by rintro _ ⟨⟩; exact .inr rfl))
      clear hb hb3 hb3' hg3 hz3 HP HG HB
      go_wp2_with (fail)
      go_loopw [19] (fun v wr => ∃ i : Nat, i ≤ 255 ∧ v = .int .i64 (i : Int) ∧ Blk wr gp 46 (u8s (fl 256 px 256)) ∧ Blk wr g 49 (cph (tabS (i + 1)) (tabB (i + 1)) K) ∧ W.grownBy wr (some g)) (fun v _ => 255 - (intOf v).toNat)
      case atStart => exact ⟨0, by omega, rfl, HP3.out, HB3.out, HG3.out⟩
      case round =>
        clear HP3 HB3 HG3
        obtain ⟨i, hi, rfl, hp, hb, hg⟩ := hrel
        by_cases hlt : i < 255
        · have c1 := hp.get i _ (u8s_at _ i (by rw [fl_length]; omega))
          rw [fl_get 256 px 256 i (by omega) (by omega)] at c1
          have c2 := hp.get (255 - i) _ (u8s_at _ (255 - i) (by rw [fl_length]; omega))
          rw [fl_get 256 px 256 (255 - i) (by omega) (by omega)] at c2
          obtain ⟨q, hq⟩ : ∃ q, q = 255 - i := ⟨_, rfl⟩
          have d1 : IntKind.i64.wrap (q : Int) = (q : Int) := i64_keep q (by omega)
          have d2 : (255 : Int) - (i : Int) = (q : Int) := by omega
          have d4 : (q : Int) < 256 := by omega
          have d5 : (i : Int) < 256 := by omega
          rw [← hq] at c2
          have hS : (tabS (i + 1)).set (px i).toNat (aff (px q) 4) = tabS (i + 1 + 1) := by
            rw [px_pow i (by omega), px_pow q (by omega), hq, aff_pow i hlt]; rfl
          have hB : (tabB (i + 1)).set (aff (px q) 4).toNat (px i) = tabB (i + 1 + 1) := by
            rw [px_pow i (by omega), px_pow q (by omega), hq, aff_pow i hlt]; rfl
          have hpair : ∀ V, Blk V g 49 (cph (tabS (i + 1)) (tabB (i + 1)) K) → Calls Try.prog 36 #[.pointer (some ⟨g, 0, none⟩), .int .u8 ((px i).toNat : Int), .int .u8 ((px q).toNat : Int)] V fun e w' => e = .returned (.tuple #[]) ∧ Blk w' g 49 (cph (tabS (i + 1 + 1)) (tabB (i + 1 + 1)) K) ∧ V.grownBy w' (some g) ∧ w'.heap.size = V.heap.size := fun V hV => by
            have h := pair_any hV (tabS_length _) (tabB_length _) (px i) (px q)
            rw [hS, hB] at h
            exact h
          have HP := Lib.hid hp
          have HB := Lib.hid hb
          have HG := Lib.hid hg
          have HPP := Lib.hid hpair
          have HLT := Lib.hid hlt
          clear hp hb hg hS hB hpair hq
          go_wp2_with (fail)
          refine wp_region_still_tail 8 (by kernel_rfl) (by kernel_rfl) ?_
          change wpStill _ _ wr.drew (fun a' => wpList _ _ _ _ a' wr.drew) _ _
          simp only [List.take_succ_cons, List.take_zero, List.drop_succ_cons, List.drop_zero]
          repeat still_step
          refine wpStill_nil ?_
          clear c1 c2 d1 d2 d4 d5
          go_wp2_with (go_at_call 36; refine (HPP.out wr.drew (HB.out.keep rfl)).mono ?_; rintro _ w4 ⟨rfl, hb4, hg4, hz4⟩)
          have HP4 := Lib.hid ((HP.out.keep (w' := wr.drew) rfl).grown hg4 (fun e => hne (Option.some.inj e)))
          have HB4 := Lib.hid hb4
          have HG4 := Lib.hid (World.grownBy.trans (grown_drew HG.out) hg4)
          clear hb4 hg4 hz4 HP HB HG HPP
          go_wp2_with (fail)
          go_roundw
          case rel => exact ⟨i + 1, by omega, by go_num, HP4.out, HB4.out, HG4.out⟩
          case measure => simp [intOf]; omega
        · have ei : i = 255 := by omega
          subst ei
          have HB := Lib.hid hb
          have HG := Lib.hid hg
          clear hp hb hg hlt hi
          go_wp2
          go_end0
          exact ⟨rfl, HB.out, HG.out⟩
end Go.Proofs.Ytngfldlfoniklaa
