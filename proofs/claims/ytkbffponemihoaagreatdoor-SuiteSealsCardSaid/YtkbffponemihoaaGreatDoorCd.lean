/- The code's small calls: a byte doubled, a byte turned, a pair put into the tables. Conditions: the tables lie in the cipher's block. The tables of S and of its contrary are filled. Conditions: both are empty. A round key is taken into a block. Conditions: the round keys lie in the cipher's block. Each byte through S, and the rows turned; and the contrary of it. Conditions: the tables lie in the cipher's block. Each byte through the contrary of S, and the rows turned back. Conditions: the tables lie in the cipher's block. -/
import Derived.Test.YtkbffponemihoaaGreatDoorCa
import Derived.Test.YtkbffponemihoaaGreatDoorCc
namespace Go.Proofs.YtkbffponemihoaaGreatDoor.C
open Go.RowKit
theorem b_xor (x y : UInt8) : bits .xor .u8 (x.toNat : Int) (y.toNat : Int) = ((x ^^^ y).toNat : Int) := by
  rw [u8_xor_nat _ _ x.toNat_lt y.toNat_lt, UInt8.toNat_xor]
theorem dbl_nat : ∀ n, n < 256 → bits .xor .u8 (((n * 2 % 256 : Nat) : Int)) (((n / 128 * 27 : Nat) : Int)) = ((xt (UInt8.ofNat n)).toNat : Int) := by decide +kernel
theorem dbl_val (x : UInt8) : bits .xor .u8 ((x.toNat : Int) * 2 % 256) ((x.toNat : Int) / 128 * 27) = ((xt x).toNat : Int) := by
  have h := dbl_nat _ x.toNat_lt
  rw [UInt8.ofNat_toNat] at h
  rw [show (x.toNat : Int) * 2 % 256 = ((x.toNat * 2 % 256 : Nat) : Int) by omega, show (x.toNat : Int) / 128 * 27 = ((x.toNat / 128 * 27 : Nat) : Int) by omega]
  exact h
theorem dbl_any (x : UInt8) (W : World) : Calls Tryz.prog 85 #[.int .u8 (x.toNat : Int)] W fun e w' => e = .returned (.int .u8 ((xt x).toNat : Int)) ∧ w' = W := by
  have hx := x.toNat_lt
  have hd := dbl_val x
  go_enter Tryz.func85, Tryz.ntmps85
  go_wp2
  go_ret
  exact ⟨by rw [← hd]; rfl, rfl⟩
theorem ror_nat : ∀ k, k < 8 → 4 ≤ k → ∀ n, n < 256 → bits .or .u8 (((n * 2 ^ (8 - k) % 256 : Nat) : Int)) (((n / 2 ^ (8 - (8 - k)) : Nat) : Int)) = ((ror8 (UInt8.ofNat n) k).toNat : Int) := by decide +kernel
theorem ror_any (x : UInt8) (k : Nat) (W : World) (h1 : 4 ≤ k) (h2 : k < 8) : Calls Tryz.prog 95 #[.int .u8 (x.toNat : Int), .int .i64 (-(k : Int))] W fun e w' => e = .returned (.int .u8 ((ror8 x k).toNat : Int)) ∧ w' = W := by
  have hs : bits BinOp.and IntKind.u64 (IntKind.u64.wrap (-(k : Int))) 7 = ((8 - k : Nat) : Int) := by
    obtain rfl | rfl | rfl | rfl : k = 4 ∨ k = 5 ∨ k = 6 ∨ k = 7 := by omega
    all_goals decide +kernel
  have hr : bits .or .u8 ((x.toNat : Int) * 2 ^ (8 - k) % 256) ((x.toNat : Int) / 2 ^ (8 - (8 - k))) = ((ror8 x k).toNat : Int) := by
    have h := ror_nat k h2 h1 _ x.toNat_lt
    rw [UInt8.ofNat_toNat] at h
    have hp : ∀ k : Nat, (2 : Int) ^ k = ((2 ^ k : Nat) : Int) := fun k => by rw [Int.natCast_pow]; rfl
    rw [hp, hp]
    exact h
  have h3 : ((8 - k : Nat) : Int) ≤ 64 := by omega
  have h4 : (0 : Int) ≤ ((8 - k : Nat) : Int) := by omega
  go_enter Tryz.func95, Tryz.ntmps95
  go_wp2
  go_ret
  exact ⟨by rw [← hr]; rfl, rfl⟩
/-- The cells of a cipher: S, its contrary, the bytes of the keys. -/
def cph (S B K : List UInt8) : List Value := u8s S ++ (u8s B ++ u8s K)
theorem u8s_at (l : List UInt8) (i : Nat) (h : i < l.length) : (u8s l)[i]? = some (.int .u8 ((l.getD i 0).toNat : Int)) := by
  unfold u8s
  rw [List.getElem?_map, List.getElem?_eq_getElem h, List.getD_eq_getElem?_getD, List.getElem?_eq_getElem h]
  rfl
theorem u8s_set (l : List UInt8) (i : Nat) (x : UInt8) : (u8s l).set i (.int .u8 (x.toNat : Int)) = u8s (l.set i x) := by simp [u8s, List.map_set]
section
variable (S B K : List UInt8) (i : Nat) (x : UInt8)
theorem cph_setS (h : i < S.length) : (cph S B K).set i (.int .u8 (x.toNat : Int)) = cph (S.set i x) B K := by
  unfold cph
  rw [List.set_append_left _ _ (by rw [u8s_length]; exact h), u8s_set]
theorem cph_setB (hS : S.length = 256) (h : i < B.length) : (cph S B K).set (256 + i) (.int .u8 (x.toNat : Int)) = cph S (B.set i x) K := by
  unfold cph
  rw [List.set_append_right _ _ (by rw [u8s_length]; omega), u8s_length, hS, Nat.add_sub_cancel_left, List.set_append_left _ _ (by rw [u8s_length]; exact h), u8s_set]
theorem cph_setK (hS : S.length = 256) (hB : B.length = 256) : (cph S B K).set (512 + i) (.int .u8 (x.toNat : Int)) = cph S B (K.set i x) := by
  unfold cph
  rw [List.set_append_right _ _ (by rw [u8s_length]; omega), u8s_length, hS, List.set_append_right _ _ (by rw [u8s_length]; omega), u8s_length, hB, show 512 + i - 256 - 256 = i by omega, u8s_set]
theorem cph_getS (h : i < S.length) : (cph S B K)[i]? = some (.int .u8 ((S.getD i 0).toNat : Int)) := by
  unfold cph
  rw [List.getElem?_append_left (by rw [u8s_length]; exact h), u8s_at _ _ h]
theorem cph_getB (hS : S.length = 256) (h : i < B.length) : (cph S B K)[256 + i]? = some (.int .u8 ((B.getD i 0).toNat : Int)) := by
  unfold cph
  rw [List.getElem?_append_right (by rw [u8s_length]; omega), u8s_length, hS, Nat.add_sub_cancel_left, List.getElem?_append_left (by rw [u8s_length]; exact h), u8s_at _ _ h]
theorem cph_getK (hS : S.length = 256) (hB : B.length = 256) (h : i < K.length) : (cph S B K)[512 + i]? = some (.int .u8 ((K.getD i 0).toNat : Int)) := by
  unfold cph
  rw [List.getElem?_append_right (by rw [u8s_length]; omega), u8s_length, hS, List.getElem?_append_right (by rw [u8s_length]; omega), u8s_length, hB, show 512 + i - 256 - 256 = i by omega, u8s_at _ _ h]
end
set_option maxRecDepth 100000 in
set_option maxHeartbeats 800000 in
theorem pair_any {W : World} {g : Nat} {S B K : List UInt8} (hb : Blk W g 107 (cph S B K)) (hS : S.length = 256) (hB : B.length = 256) (b v : UInt8) :
    Calls Tryz.prog 86 #[.pointer (some ⟨g, 0, none⟩), .int .u8 (b.toNat : Int), .int .u8 (v.toNat : Int)] W fun e w' => e = .returned (.tuple #[]) ∧ Blk w' g 107 (cph (S.set b.toNat (aff v 4)) (B.set (aff v 4).toNat b) K) ∧ W.grownBy w' (some g) ∧ w'.heap.size = W.heap.size := by
  have h99 : bits .xor .u8 (v.toNat : Int) 99 = ((aff v 0).toNat : Int) := b_xor v 99
  have HB := Lib.hid hb
  have HS := Lib.hid hS
  have HBB := Lib.hid hB
  clear hb hS hB
  go_enter Tryz.func86, Tryz.ntmps86
  go_wp2
  clear h99
  go_loop [6, 7] (fun s i => ∃ k : Nat, 4 ≤ k ∧ k ≤ 8 ∧ i = .int .i64 (k : Int) ∧ s = .int .u8 ((aff v (k - 4)).toNat : Int)) (fun _ i => 8 - (intOf i).toNat)
  case atStart => exact ⟨4, by omega, by omega, rfl, rfl⟩
  case round =>
    obtain ⟨k, h4, hk, rfl, rfl⟩ := hrel
    by_cases hlt : k < 8
    · have hx : bits .xor .u8 ((aff v (k - 4)).toNat : Int) ((ror8 v k).toNat : Int) = ((aff v (k + 1 - 4)).toNat : Int) := by
        rw [show k + 1 - 4 = (k - 4) + 1 by omega, aff, show k - 4 + 4 = k by omega]
        exact b_xor _ _
      have hr : ∀ V, Calls Tryz.prog 95 #[.int .u8 (v.toNat : Int), .int .i64 (-(k : Int))] V fun e w' => e = .returned (.int .u8 ((ror8 v k).toNat : Int)) ∧ w' = V := fun V => ror_any v k V h4 hlt
      go_wp2_with (go_at_call 95; with_reducible refine (hr _).mono ?_; rintro _ V ⟨rfl, rfl⟩)
      go_round
      case rel => exact ⟨k + 1, by omega, by omega, by go_num, rfl⟩
      case measure => simp [intOf]; omega
    · have ek : k = 8 := by omega
      rw [show aff v (k - 4) = aff v 4 by rw [ek]]
      obtain ⟨s, hs⟩ : ∃ s, s = aff v 4 := ⟨_, rfl⟩
      rw [← hs]
      have HSE := Lib.hid hs
      clear h4 hk hs
      have hb256 := b.toNat_lt
      have hs256 := s.toNat_lt
      have hf1 := HB.out.frozen b.toNat
      have hc1 := HB.out.get b.toNat _ (cph_getS S B K b.toNat (by rw [HS.out]; exact hb256))
      have hb2 : Blk (W.setCell ⟨g, b.toNat, none⟩ (.int .u8 (s.toNat : Int))) g 107 (cph (S.set b.toNat s) B K) := (HB.out.set b.toNat (.int .u8 (s.toNat : Int))).to (cph_setS S B K _ _ (by rw [HS.out]; exact hb256))
      have hf2 := hb2.frozen (256 + s.toNat)
      have hc2 := hb2.get (256 + s.toNat) _ (cph_getB (S.set b.toNat s) B K s.toNat (by rw [List.length_set, HS.out]) (by rw [HBB.out]; exact hs256))
      have hb3 := (hb2.set (256 + s.toNat) (.int .u8 (b.toNat : Int))).to (cph_setB (S.set b.toNat s) B K _ _ (by rw [List.length_set, HS.out]) (by rw [HBB.out]; exact hs256))
      have HB3 := Lib.hid hb3
      clear hb2 hb3 ek
      go_wp2
      go_end0
      rw [← HSE.out]
      exact ⟨rfl, HB3.out, World.grownBy.trans (grown_set _ _ _ _) (grown_set _ _ _ _), by rw [size_set, size_set]⟩
open Go.RowKit
/-- The powers of 3 as the code makes them. -/
def px : Nat → UInt8
  | 0 => 1
  | n + 1 => px n ^^^ xt (px n)
theorem px_pow : ∀ i, i < 256 → px i = pow3 i
  | 0, _ => rfl
  | i + 1, h => by rw [px, px_pow i (by omega), pow3_next i (by omega)]
/-- L bytes, the first n of them told. -/
def fl (L : Nat) (f : Nat → UInt8) (n : Nat) : List UInt8 := (List.range L).map fun j => if j < n then f j else 0
section
variable (L : Nat) (f : Nat → UInt8) (n j : Nat)
theorem fl_length : (fl L f n).length = L := by simp [fl]
theorem fl_get (h : j < n) (hL : j < L) : (fl L f n).getD j 0 = f j := by
  unfold fl
  rw [List.getD_eq_getElem?_getD, List.getElem?_map, List.getElem?_range hL]
  simp [h]
theorem fl_set : (fl L f n).set n (f n) = fl L f (n + 1) := by
  apply List.ext_getElem (by simp [fl])
  intro q h1 h2
  rw [List.getElem_set]
  simp only [fl, List.getElem_map, List.getElem_range]
  by_cases e : n = q
  · subst e; simp
  · have : (q < n + 1) = (q < n) := by simp; omega
    simp [e, this]
end
theorem run_alloc36 (w : World) : (Instr.alloc 104 true (.tuple #[])).run Tryz.prog w = .ok (.pointer (some ⟨w.heap.size, 0, none⟩)) (w.alloc (.cells (u8s (fl 256 px 0)).toArray 104)) := by kernel_rfl
section
variable {w : World} {ops : Array Oper} {rest : List Oper} {o : Oper} {a : Act} {Q : Exit → Act → World → Prop}
theorem wpList_alloc36 (hgd : o.guard = none) (ho : o.op = .alloc 104)
    (h : ∀ w', Blk w' w.heap.size 104 (u8s (fl 256 px 0)) → w.grownBy w' none → w'.heap.size = w.heap.size + 1 → wpList Tryz.prog ops Q rest (a.put o.dst (.pointer (some ⟨w.heap.size, 0, none⟩))) w') : wpList Tryz.prog ops Q (o :: rest) a w := by
  refine wpList_plain hgd fun K hK => ?_
  have hrun := run_alloc36 w
  generalize u8s (fl 256 px 0) = z at hrun h
  unfold Oper.wp
  simp only [execOp, ho, Sem.run_bind, hrun, Result.andThen_ok, Sem.run_pure]
  exact hK _ _ (h _ (Blk.of_alloc w _ 104) (World.grownBy_alloc w _ none) (World.size_alloc w _))
end
set_option maxRecDepth 100000 in
set_option maxHeartbeats 1600000 in
theorem fill_any {W : World} {g : Nat} {K : List UInt8} (hb : Blk W g 107 (cph (tabS 0) (tabB 0) K)) :
    Calls Tryz.prog 65 #[.pointer (some ⟨g, 0, none⟩)] W fun e w' => e = .returned (.tuple #[]) ∧ Blk w' g 107 (cph (tabS 256) (tabB 256) K) ∧ W.grownBy w' (some g) := by
  have hlt := hb.lt
  have HB := Lib.hid hb
  clear hb
  go_enter Tryz.func65, Tryz.ntmps65
  go_wp2_with (refine wpList_alloc36 rfl rfl ?_)
  intro w2 hb2 hg2 hz2
  obtain ⟨gp, hgp⟩ : ∃ gp, gp = W.heap.size := ⟨_, rfl⟩
  rw [← hgp] at hb2 ⊢
  have hne : gp ≠ g := by omega
  have HP := Lib.hid hb2
  have HB2 := Lib.hid (HB.out.grown hg2 (by simp))
  have HG2 := Lib.hid hg2
  have HGP := Lib.hid (show W.heap.size ≤ gp by omega)
  clear hb2 hg2 hz2 hgp HB hlt
  go_wp2_with (fail)
  go_loopw [3, 6] (fun x v wr => ∃ i : Nat, i ≤ 256 ∧ v = .int .i64 (i : Int) ∧ x = .int .u8 ((px i).toNat : Int) ∧ Blk wr gp 104 (u8s (fl 256 px i)) ∧ Blk wr g 107 (cph (tabS 0) (tabB 0) K) ∧ W.grownBy wr none) (fun _ v _ => 256 - (intOf v).toNat)
  case atStart => exact ⟨0, by omega, rfl, rfl, HP.out, HB2.out, HG2.out⟩
  case round =>
    clear HP HB2 HG2
    obtain ⟨i, hi, rfl, rfl, hp, hb, hg⟩ := hrel
    by_cases hlt : i < 256
    · have hc := hp.get i _ (u8s_at _ i (by rw [fl_length]; exact hlt))
      have hf := hp.frozen i
      have hp2 := hp.set i (.int .u8 ((px i).toNat : Int))
      rw [u8s_set, fl_set] at hp2
      have HP := Lib.hid hp2
      have HB := Lib.hid (hb.grown (grown_set wr gp i (.int .u8 ((px i).toNat : Int))) (fun e => hne (Option.some.inj e).symm))
      have HG : Hid (W.grownBy (wr.setCell ⟨gp, i, none⟩ (.int .u8 ((px i).toNat : Int))) none) := Lib.hid (World.grownBy.andThen hg (grown_set _ _ _ _) (by rintro _ ⟨⟩; exact .inl HGP.out))
      have hx : bits .xor .u8 ((px i).toNat : Int) ((xt (px i)).toNat : Int) = ((px (i + 1)).toNat : Int) := b_xor _ _
      clear hp hb hg hp2
      go_wp2_with (go_at_call 85; with_reducible refine (dbl_any (px i) _).mono ?_; rintro _ V ⟨rfl, rfl⟩)
      go_roundw
      case rel => exact ⟨i + 1, by omega, by go_num, rfl, HP.out, HB.out, HG.out⟩
      case measure => simp [intOf]; omega
    · have ei : i = 256 := by omega
      subst ei
      have HP := Lib.hid hp
      have HG := Lib.hid hg
      have HB := Lib.hid hb
      clear hp hg hlt hi
      go_wp2_with (go_at_call 86; refine (pair_any (b := 0) (v := 0) hb (tabS_length 0) (tabB_length 0)).mono ?_; rintro _ w3 ⟨rfl, hb3, hg3, hz3⟩)
      rw [aff_zero] at hb3
      have hb3' : Blk w3 g 107 (cph (tabS 1) (tabB 1) K) := hb3
      have HP3 := Lib.hid (HP.out.grown hg3 (fun e => hne (Option.some.inj e)))
      have HB3 := Lib.hid hb3'
      have HG3 := Lib.hid (World.grownBy.andThen (row := some g) (HG.out.but _) hg3 (by rintro _ ⟨⟩; exact .inr rfl))
      clear hb hb3 hb3' hg3 hz3 HP HG HB
      go_wp2_with (fail)
      go_loopw [19] (fun v wr => ∃ i : Nat, i ≤ 255 ∧ v = .int .i64 (i : Int) ∧ Blk wr gp 104 (u8s (fl 256 px 256)) ∧ Blk wr g 107 (cph (tabS (i + 1)) (tabB (i + 1)) K) ∧ W.grownBy wr (some g)) (fun v _ => 255 - (intOf v).toNat)
      case atStart => exact ⟨0, by omega, rfl, HP3.out, HB3.out, HG3.out⟩
      case round =>
        clear HP3 HB3 HG3
        obtain ⟨i, hi, rfl, hp, hb, hg⟩ := hrel
        by_cases hlt : i < 255
        · have c1 := hp.get i _ (u8s_at _ i (by rw [fl_length]; omega))
          rw [fl_get 256 px 256 i (by omega) (by omega)] at c1
          have c2 := hp.get (255 - i) _ (u8s_at _ (255 - i) (by rw [fl_length]; omega))
          rw [fl_get 256 px 256 (255 - i) (by omega) (by omega)] at c2
          obtain ⟨q, hq⟩ : ∃ q, q = 255 - i := ⟨_, rfl⟩
          have d1 : IntKind.i64.wrap (q : Int) = (q : Int) := i64_keep q (by omega)
          have d2 : (255 : Int) - (i : Int) = (q : Int) := by omega
          have d4 : (q : Int) < 256 := by omega
          have d5 : (i : Int) < 256 := by omega
          rw [← hq] at c2
          have hS : (tabS (i + 1)).set (px i).toNat (aff (px q) 4) = tabS (i + 1 + 1) := by
            rw [px_pow i (by omega), px_pow q (by omega), hq, aff_pow i hlt]; rfl
          have hB : (tabB (i + 1)).set (aff (px q) 4).toNat (px i) = tabB (i + 1 + 1) := by
            rw [px_pow i (by omega), px_pow q (by omega), hq, aff_pow i hlt]; rfl
          have hpair : ∀ V, Blk V g 107 (cph (tabS (i + 1)) (tabB (i + 1)) K) → Calls Tryz.prog 86 #[.pointer (some ⟨g, 0, none⟩), .int .u8 ((px i).toNat : Int), .int .u8 ((px q).toNat : Int)] V fun e w' => e = .returned (.tuple #[]) ∧ Blk w' g 107 (cph (tabS (i + 1 + 1)) (tabB (i + 1 + 1)) K) ∧ V.grownBy w' (some g) ∧ w'.heap.size = V.heap.size := fun V hV => by
            have h := pair_any hV (tabS_length _) (tabB_length _) (px i) (px q)
            rw [hS, hB] at h
            exact h
          have HP := Lib.hid hp
          have HB := Lib.hid hb
          have HG := Lib.hid hg
          have HPP := Lib.hid hpair
          have HLT := Lib.hid hlt
          clear hp hb hg hS hB hpair hq
          go_wp2_with (fail)
          refine wp_region_still_tail 8 (by kernel_rfl) (by kernel_rfl) ?_
          change wpStill _ _ wr.drew (fun a' => wpList _ _ _ _ a' wr.drew) _ _
          simp only [List.take_succ_cons, List.take_zero, List.drop_succ_cons, List.drop_zero]
          repeat still_step
          refine wpStill_nil ?_
          clear c1 c2 d1 d2 d4 d5
          go_wp2_with (go_at_call 86; refine (HPP.out wr.drew (HB.out.keep rfl)).mono ?_; rintro _ w4 ⟨rfl, hb4, hg4, hz4⟩)
          have HP4 := Lib.hid ((HP.out.keep (w' := wr.drew) rfl).grown hg4 (fun e => hne (Option.some.inj e)))
          have HB4 := Lib.hid hb4
          have HG4 := Lib.hid (World.grownBy.trans (grown_drew HG.out) hg4)
          clear hb4 hg4 hz4 HP HB HG HPP
          go_wp2_with (fail)
          go_roundw
          case rel => exact ⟨i + 1, by omega, by go_num, HP4.out, HB4.out, HG4.out⟩
          case measure => simp [intOf]; omega
        · have ei : i = 255 := by omega
          subst ei
          have HB := Lib.hid hb
          have HG := Lib.hid hg
          clear hp hb hg hlt hi
          go_wp2
          go_end0
          exact ⟨rfl, HB.out, HG.out⟩
open Go.RowKit
/-- One byte of a state is another one. -/
def putS (s : State) (i : Nat) (x : UInt8) : State := fun j => if j.val = i then x else s j
theorem bytesOf_set (s : State) (i : Nat) (x : UInt8) : (bytesOf s).set i (.int .u8 (x.toNat : Int)) = bytesOf (putS s i x) := by
  apply List.ext_getElem?
  intro q
  by_cases hq : q < 16
  · rw [List.getElem?_set, bytesOf_length, bytesOf_get _ q hq, bytesOf_get (putS s i x) q hq]
    unfold putS
    by_cases e : i = q
    · subst e; simp [hq]
    · have e2 : ¬ q = i := fun h => e h.symm
      simp [e, e2]
  · rw [List.getElem?_eq_none (by rw [List.length_set, bytesOf_length]; omega), List.getElem?_eq_none (by rw [bytesOf_length]; omega)]
/-- The first i bytes of one state, the others of another. -/
def part (i : Nat) (s t : State) : State := fun j => if j.val < i then s j else t j
theorem part_zero (s t : State) : part 0 s t = t := by funext j; simp [part]
theorem part_all (s t : State) : part 16 s t = s := by funext j; simp [part, j.isLt]
theorem part_at (s t : State) (i : Nat) (h : i < 16) : part i s t ⟨i, h⟩ = t ⟨i, h⟩ := by simp [part]
theorem part_set (s t : State) (i : Nat) (h : i < 16) : putS (part i s t) i (s ⟨i, h⟩) = part (i + 1) s t := by
  funext j
  unfold putS part
  by_cases e : j.val = i
  · have : j = ⟨i, h⟩ := Fin.ext e
    subst this
    simp
  · have : (j.val < i + 1) = (j.val < i) := by simp; omega
    simp [e, this]
set_option maxRecDepth 100000 in
set_option maxHeartbeats 1600000 in
theorem add_any {W : World} {g gb : Nat} {S B : List UInt8} {f : Nat → UInt8} {s : State} (hb : Blk W g 107 (cph S B (fl 240 f 240))) (hS : S.length = 256) (hB : B.length = 256) (hs : Blk W gb 48 (bytesOf s)) (hne : g ≠ gb) (k : Nat) (hk : k ≤ 14) :
    Calls Tryz.prog 68 #[.pointer (some ⟨g, 0, none⟩), .pointer (some ⟨gb, 0, none⟩), .int .i64 (k : Int)] W fun e w' => e = .returned (.tuple #[]) ∧ Blk w' gb 48 (bytesOf (keyS (fun i => f (16 * k + i.val)) s)) ∧ W.grownBy w' (some gb) ∧ w'.heap.size = W.heap.size := by
  obtain ⟨T, hT⟩ : ∃ T, T = keyS (fun i => f (16 * k + i.val)) s := ⟨_, rfl⟩
  rw [← hT]
  have HT := Lib.hid hT
  have HB := Lib.hid hb
  have HSL := Lib.hid hS
  have HBL := Lib.hid hB
  have HSS := Lib.hid hs
  obtain ⟨a, ha⟩ : ∃ a, a = 16 * k := ⟨_, rfl⟩
  have d1 : IntKind.i64.wrap ((k : Int) * 16) = (a : Int) := by rw [IntKind.wrap_i64]; omega
  obtain ⟨e, he⟩ : ∃ e, e = 16 * k + 16 := ⟨_, rfl⟩
  have d2 : IntKind.i64.wrap ((k : Int) + 1) = (k : Int) + 1 := by rw [IntKind.wrap_i64]; omega
  have d3 : IntKind.i64.wrap (((k : Int) + 1) * 16) = (e : Int) := by rw [IntKind.wrap_i64]; omega
  have d4 : (k : Int) * 16 = (a : Int) := by omega
  have d5 : ((k : Int) + 1) * 16 = (e : Int) := by omega
  have d6 : (a : Int) ≤ (e : Int) := by omega
  have d7 : (e : Int) ≤ 240 := by omega
  have d8 : e - a = 16 := by omega
  have d9 : ¬ 240 = a := by omega
  have HA := Lib.hid ha
  clear hT hb hS hB hs ha he
  go_enter Tryz.func68, Tryz.ntmps68
  go_wp2_with (fail)
  clear d1 d2 d3 d4 d5 d6 d7 d8 d9
  go_loopw [18] (fun v wr => ∃ i : Nat, i ≤ 16 ∧ v = .int .i64 (i : Int) ∧ Blk wr gb 48 (bytesOf (part i T s)) ∧ W.grownBy wr (some gb) ∧ wr.heap.size = W.heap.size) (fun v _ => 16 - (intOf v).toNat)
  case atStart => exact ⟨0, by omega, rfl, by rw [part_zero]; exact HSS.out, World.grownBy.refl _ _, rfl⟩
  case round =>
    clear HSS
    obtain ⟨i, hi, rfl, hb, hg, hz⟩ := hrel
    by_cases hlt : i < 16
    · have hB := HB.out.grown hg (fun e => hne (Option.some.inj e))
      have c1 := hB.get (512 + (a + i)) _ (cph_getK S B (fl 240 f 240) (a + i) HSL.out HBL.out (by rw [fl_length, HA.out]; omega))
      rw [fl_get 240 f 240 (a + i) (by rw [HA.out]; omega) (by rw [HA.out]; omega), ← Nat.add_assoc] at c1
      have c2 := hb.get i _ (bytesOf_get _ i hlt)
      rw [part_at] at c2
      have hf := hb.frozen i
      have hx : bits .xor .u8 ((s ⟨i, hlt⟩).toNat : Int) ((f (a + i)).toNat : Int) = ((T ⟨i, hlt⟩).toNat : Int) := by
        rw [b_xor, HT.out, HA.out]; rfl
      have hset := bytesOf_set (part i T s) i (T ⟨i, hlt⟩)
      rw [part_set] at hset
      have hb2 := (hb.set i (.int .u8 ((T ⟨i, hlt⟩).toNat : Int))).to hset
      have HB2 := Lib.hid hb2
      have HG := Lib.hid hg
      have HZ := Lib.hid hz
      clear hB hb hg hz hset hb2
      obtain ⟨y, hy⟩ : ∃ y, y = f (a + i) := ⟨_, rfl⟩
      obtain ⟨x, hx'⟩ : ∃ x, x = s ⟨i, hlt⟩ := ⟨_, rfl⟩
      obtain ⟨z, hz⟩ : ∃ z, z = T ⟨i, hlt⟩ := ⟨_, rfl⟩
      rw [← hy] at c1 hx
      rw [← hx'] at c2 hx
      rw [← hz] at hx HB2
      clear hy hx' hz
      go_wp2_with (fail)
      refine wp_region_still_tail 9 (by kernel_rfl) (by kernel_rfl) ?_
      change wpStill _ _ wr.drew (fun a' => wpList _ _ _ _ a' wr.drew) _ _
      simp only [List.take_succ_cons, List.take_zero, List.drop_succ_cons, List.drop_zero]
      repeat still_step
      refine wpStill_nil ?_
      go_wp2
      go_roundw
      case rel => exact ⟨i + 1, by omega, by go_num, HB2.out.keep rfl, World.grownBy.trans (grown_drew HG.out) (grown_set wr.drew gb i _), (size_set _ _ _).trans HZ.out⟩
      case measure => simp [intOf]; omega
    · have ei : i = 16 := by omega
      subst ei
      rw [part_all] at hb
      have HB2 := Lib.hid hb
      have HG := Lib.hid hg
      have HZ := Lib.hid hz
      clear hb hg hz hlt hi
      go_wp2
      go_end0
      exact ⟨rfl, HB2.out, HG.out, HZ.out⟩
open Go.RowKit
theorem change_at (s : State) (i : Nat) (h : i < 16) (h2 : 5 * i % 16 < 16) : rowS (subS s) ⟨i, h⟩ = sb (s ⟨5 * i % 16, h2⟩) := by
  unfold rowS subS rowFrom
  congr 2
  apply Fin.ext
  show (i + 4 * (i % 4)) % 16 = 5 * i % 16
  omega
def zeroS : State := fun _ => 0
set_option maxRecDepth 100000 in
set_option maxHeartbeats 1600000 in
theorem change_any {W : World} {g : Nat} {B K : List UInt8} (hb : Blk W g 107 (cph (tabS 256) B K)) (s : State) :
    Calls Tryz.prog 69 #[.pointer (some ⟨g, 0, none⟩), .agg (bytesOf s).toArray] W fun e w' => e = .returned (.agg (bytesOf (rowS (subS s))).toArray) ∧ W.grownBy w' none := by
  obtain ⟨T, hT⟩ : ∃ T, T = rowS (subS s) := ⟨_, rfl⟩
  rw [← hT]
  have hgl := hb.lt
  have HB := Lib.hid hb
  have HT := Lib.hid hT
  clear hb hT
  go_enter Tryz.func69, Tryz.ntmps69
  go_wp2_with (refine wpList_box23 rfl _ s rfl rfl ?_)
  intro w2 hb2 hg2 hz2
  go_wp2_with (refine wpList_alloc23 rfl rfl ?_)
  intro w3 hb3 hg3 hz3
  obtain ⟨gi, hgi⟩ : ∃ g, g = W.heap.size := ⟨_, rfl⟩
  obtain ⟨go, hgo⟩ : ∃ g, g = W.heap.size + 1 := ⟨_, rfl⟩
  rw [← hgo, ← hgi]
  rw [← hgi] at hb2
  rw [← hgo] at hb3
  have hb3z : Blk w3 go 48 (bytesOf (part 0 T zeroS)) := by rw [part_zero]; exact hb3
  have n1 : gi ≠ go := by omega
  have n2 : g ≠ go := by omega
  have HW : Hid (W.heap.size ≤ go) := Lib.hid (by omega)
  have hg23 := World.grownBy.trans hg2 hg3
  have HI := Lib.hid (hb2.grown hg3 (by simp))
  have HO := Lib.hid hb3z
  have HC := Lib.hid (HB.out.grown hg23 (by simp))
  have HG := Lib.hid hg23
  clear hb2 hg2 hz2 hb3 hb3z hg3 hz3 hgi hgo hg23 HB hgl
  go_wp2_with (fail)
  go_loopw [6] (fun v wr => ∃ i : Nat, i ≤ 16 ∧ v = .int .i64 (i : Int) ∧ Blk wr go 48 (bytesOf (part i T zeroS)) ∧ w3.grownBy wr (some go)) (fun v _ => 16 - (intOf v).toNat)
  case atStart => exact ⟨0, by omega, rfl, HO.out, World.grownBy.refl _ _⟩
  case round =>
    clear HO
    obtain ⟨i, hi, rfl, hb, hg⟩ := hrel
    by_cases hlt : i < 16
    · obtain ⟨q, hq⟩ : ∃ q, q = 5 * i % 16 := ⟨_, rfl⟩
      have hq16 : q < 16 := by omega
      have hi2 := HI.out.grown hg (fun e => n1 (Option.some.inj e))
      have hc2 := HC.out.grown hg (fun e => n2 (Option.some.inj e))
      have c1 := hi2.get q _ (bytesOf_get _ q hq16)
      have hval : T ⟨i, hlt⟩ = sb (s ⟨q, hq16⟩) := by
        rw [HT.out, change_at s i hlt (by omega)]
        congr 2
        exact Fin.ext hq.symm
      have hset := bytesOf_set (part i T zeroS) i (T ⟨i, hlt⟩)
      rw [part_set] at hset
      have hb2 := (hb.set i (.int .u8 ((T ⟨i, hlt⟩).toNat : Int))).to hset
      obtain ⟨x, hx⟩ : ∃ x, x = s ⟨q, hq16⟩ := ⟨_, rfl⟩
      rw [← hx] at c1 hval
      have hx256 := x.toNat_lt
      have c2 := hc2.get x.toNat _ (cph_getS (tabS 256) B K x.toNat (by rw [tabS_length]; exact hx256))
      rw [tabS_get, ← hval] at c2
      obtain ⟨z, hz⟩ : ∃ z, z = T ⟨i, hlt⟩ := ⟨_, rfl⟩
      rw [← hz] at c2 hb2
      have c3 := hb.get i _ (bytesOf_get _ i hlt)
      have hf := hb.frozen i
      have d1 : IntKind.i64.wrap (5 * (i : Int)) = 5 * (i : Int) := by rw [IntKind.wrap_i64]; omega
      have d2 : (5 * (i : Int)).tmod 16 = (q : Int) := by rw [Int.tmod_eq_emod_of_nonneg (by omega)]; omega
      have d3 : 5 * (i : Int) % 16 = (q : Int) := by omega
      have d4 : IntKind.i64.wrap (q : Int) = (q : Int) := i64_keep q (by omega)
      have d5 : (q : Int) < 16 := by omega
      have d6 : (x.toNat : Int) < 256 := by omega
      have HB2 := Lib.hid hb2
      have HG2 := Lib.hid hg
      clear hi2 hc2 hset hb2 hb hg hx hz hval hq
      go_wp2_with (fail)
      refine wp_region_still_tail 12 (by kernel_rfl) (by kernel_rfl) ?_
      change wpStill _ _ wr.drew (fun a' => wpList _ _ _ _ a' wr.drew) _ _
      simp only [List.take_succ_cons, List.take_zero, List.drop_succ_cons, List.drop_zero]
      repeat still_step
      refine wpStill_nil ?_
      clear d1 d2 d3 d4 d5 d6 c1 c2
      go_wp2
      go_roundw
      case rel => exact ⟨i + 1, by omega, by go_num, HB2.out.keep rfl, World.grownBy.trans (grown_drew HG2.out) (grown_set wr.drew go i _)⟩
      case measure => simp [intOf]; omega
    · have ei : i = 16 := by omega
      subst ei
      rw [part_all] at hb
      have HO := Lib.hid hb
      have HR := Lib.hid (bytesOf_range hb)
      have HG2 := Lib.hid hg
      clear hb hg hlt hi
      go_wp2_with (first | (refine wpList_load_mid rfl 48 _ rfl go 0 rfl (bytesOf T) _ HR.out Tryz.underlying48 rfl (by rw [size23, bytesOf_length]) ?_) | (refine wpList_store_row rfl 48 _ _ rfl go (bytesOf T).toArray rfl rfl 48 _ HO.out ?_ ?_ ?_ ?_))
      · rw [size23, List.size_toArray, bytesOf_length]
      · rfl
      · exact all_oneCell_toArray (bytesOf_one _)
      · exact bodyPost_ret (results_cell_row rfl _ _ go 48 (bytesOf T).toArray (0, 0) _ rfl (setRow_heap wr go _ _ 48 (0, 0) HO.out) Tryz.underlying48 rfl (by rw [size23, List.size_toArray, bytesOf_length])) rfl ⟨rfl, World.grownBy.andThen HG.out (World.grownBy.trans HG2.out (grown_setRow _ _ _)) (by rintro _ ⟨⟩; exact .inl HW.out)⟩
open Go.RowKit
theorem restore_at (s : State) (i : Nat) (h : i < 16) (h2 : 5 * i % 16 < 16) : unsubS (unrowS s) ⟨5 * i % 16, h2⟩ = usb (s ⟨i, h⟩) := by
  unfold unsubS unrowS rowTo
  congr 2
  apply Fin.ext
  show (5 * i % 16 + 12 * (5 * i % 16 % 4)) % 16 = i
  omega
/-- The bytes that i bytes give. -/
def partR (i : Nat) (s t : State) : State := fun j => if 13 * j.val % 16 < i then s j else t j
theorem partR_zero (s t : State) : partR 0 s t = t := by funext j; simp [partR]
theorem partR_all (s t : State) : partR 16 s t = s := by funext j; simp [partR, Nat.mod_lt]
theorem partR_set (s t : State) (i : Nat) (h : i < 16) (h2 : 5 * i % 16 < 16) : putS (partR i s t) (5 * i % 16) (s ⟨5 * i % 16, h2⟩) = partR (i + 1) s t := by
  funext j
  have hj := j.isLt
  unfold putS partR
  by_cases e : j.val = 5 * i % 16
  · have : j = ⟨5 * i % 16, h2⟩ := Fin.ext e
    have h3 : 13 * (5 * i % 16) % 16 < i + 1 := by omega
    subst this
    show (if 5 * i % 16 = 5 * i % 16 then _ else _) = if 13 * (5 * i % 16) % 16 < i + 1 then _ else _
    rw [if_pos rfl, if_pos h3]
  · have h3 : ¬ 13 * j.val % 16 = i := by omega
    have : (13 * j.val % 16 < i + 1) = (13 * j.val % 16 < i) := by simp; omega
    simp [e, this]
theorem idx23 (s : State) (i : Nat) (h : i < 16) (w : World) : (Instr.index 48 (.agg (bytesOf s).toArray) (.int .i64 (i : Int))).run Tryz.prog w = .ok (.int .u8 ((s ⟨i, h⟩).toNat : Int)) w := by
  obtain rfl | rfl | rfl | rfl | rfl | rfl | rfl | rfl | rfl | rfl | rfl | rfl | rfl | rfl | rfl | rfl : i = 0 ∨ i = 1 ∨ i = 2 ∨ i = 3 ∨ i = 4 ∨ i = 5 ∨ i = 6 ∨ i = 7 ∨ i = 8 ∨ i = 9 ∨ i = 10 ∨ i = 11 ∨ i = 12 ∨ i = 13 ∨ i = 14 ∨ i = 15 := by omega
  all_goals kernel_rfl
set_option maxRecDepth 100000 in
set_option maxHeartbeats 1600000 in
theorem restore_any {W : World} {g : Nat} {S K : List UInt8} (hb : Blk W g 107 (cph S (tabB 256) K)) (hS : S.length = 256) (s : State) :
    Calls Tryz.prog 78 #[.pointer (some ⟨g, 0, none⟩), .agg (bytesOf s).toArray] W fun e w' => e = .returned (.agg (bytesOf (unsubS (unrowS s))).toArray) ∧ W.grownBy w' none := by
  obtain ⟨T, hT⟩ : ∃ T, T = unsubS (unrowS s) := ⟨_, rfl⟩
  rw [← hT]
  have hgl := hb.lt
  have HB := Lib.hid hb
  have HT := Lib.hid hT
  clear hb hT
  go_enter Tryz.func78, Tryz.ntmps78
  go_wp2_with (refine wpList_box23 rfl _ s rfl rfl ?_)
  intro w2 hb2 hg2 hz2
  go_wp2_with (refine wpList_alloc23 rfl rfl ?_)
  intro w3 hb3 hg3 hz3
  obtain ⟨gi, hgi⟩ : ∃ g, g = W.heap.size := ⟨_, rfl⟩
  obtain ⟨go, hgo⟩ : ∃ g, g = W.heap.size + 1 := ⟨_, rfl⟩
  rw [← hgo, ← hgi]
  rw [← hgi] at hb2
  rw [← hgo] at hb3
  have hb3z : Blk w3 go 48 (bytesOf (partR 0 T zeroS)) := by rw [partR_zero]; exact hb3
  have n1 : gi ≠ go := by omega
  have n2 : g ≠ go := by omega
  have HW : Hid (W.heap.size ≤ go) := Lib.hid (by omega)
  have hg23 := World.grownBy.trans hg2 hg3
  have HI := Lib.hid (hb2.grown hg3 (by simp))
  have HO := Lib.hid hb3z
  have HC := Lib.hid (HB.out.grown hg23 (by simp))
  have HG := Lib.hid hg23
  clear hb2 hg2 hz2 hb3 hb3z hg3 hz3 hgi hgo hg23 HB hgl
  go_wp2_with (refine wpList_load_mid rfl 48 _ rfl gi 0 rfl (bytesOf s) _ (bytesOf_range HI.out) Tryz.underlying48 rfl (by rw [size23, bytesOf_length]) ?_)
  go_loopw [8] (fun v wr => ∃ i : Nat, i ≤ 16 ∧ v = .int .i64 (i : Int) ∧ Blk wr go 48 (bytesOf (partR i T zeroS)) ∧ w3.grownBy wr (some go)) (fun v _ => 16 - (intOf v).toNat)
  case atStart => exact ⟨0, by omega, rfl, HO.out, World.grownBy.refl _ _⟩
  case round =>
    clear HO
    obtain ⟨i, hi, rfl, hb, hg⟩ := hrel
    by_cases hlt : i < 16
    · have hq16 : 5 * i % 16 < 16 := by omega
      have hc2 := HC.out.grown hg (fun e => n2 (Option.some.inj e))
      have c1 := idx23 s i hlt
      have hval : T ⟨5 * i % 16, hq16⟩ = usb (s ⟨i, hlt⟩) := by
        rw [HT.out, restore_at s i hlt hq16]
      have hset := bytesOf_set (partR i T zeroS) (5 * i % 16) (T ⟨5 * i % 16, hq16⟩)
      rw [partR_set T zeroS i hlt] at hset
      have hb2 := (hb.set (5 * i % 16) (.int .u8 ((T ⟨5 * i % 16, hq16⟩).toNat : Int))).to hset
      have c3 := hb.get (5 * i % 16) _ (bytesOf_get _ (5 * i % 16) hq16)
      have hf := hb.frozen (5 * i % 16)
      have d2 : (5 * (i : Int)).tmod 16 = ((5 * i % 16 : Nat) : Int) := by rw [Int.tmod_eq_emod_of_nonneg (by omega)]; omega
      have d3 : 5 * (i : Int) % 16 = ((5 * i % 16 : Nat) : Int) := by omega
      obtain ⟨x, hx⟩ : ∃ x, x = s ⟨i, hlt⟩ := ⟨_, rfl⟩
      rw [← hx] at c1 hval
      have hx256 := x.toNat_lt
      have c2 := hc2.get (256 + x.toNat) _ (cph_getB S (tabB 256) K x.toNat hS (by rw [tabB_length]; exact hx256))
      rw [tabB_get, ← hval] at c2
      obtain ⟨z, hz⟩ : ∃ z, z = T ⟨5 * i % 16, hq16⟩ := ⟨_, rfl⟩
      rw [← hz] at c2 hb2
      generalize (partR i T zeroS) ⟨5 * i % 16, hq16⟩ = old at c3
      clear hset hval hz
      generalize 5 * i % 16 = q at hq16 hb2 c3 hf d2 d3
      have d1 : IntKind.i64.wrap (5 * (i : Int)) = 5 * (i : Int) := by rw [IntKind.wrap_i64]; omega
      have d4 : IntKind.i64.wrap (q : Int) = (q : Int) := i64_keep q (by omega)
      have d5 : (q : Int) < 16 := by omega
      have d6 : (x.toNat : Int) < 256 := by omega
      have HB2 := Lib.hid hb2
      have HG2 := Lib.hid hg
      clear hc2 hb2 hb hg hx
      go_wp2
      go_roundw
      case rel => exact ⟨i + 1, by omega, by go_num, HB2.out, World.grownBy.trans HG2.out (grown_set wr go q _)⟩
      case measure => simp [intOf]; omega
    · have ei : i = 16 := by omega
      subst ei
      rw [partR_all] at hb
      have HO := Lib.hid hb
      have HR := Lib.hid (bytesOf_range hb)
      have HG2 := Lib.hid hg
      clear hb hg hlt hi
      go_wp2_with (first | (refine wpList_load_mid rfl 48 _ rfl go 0 rfl (bytesOf T) _ HR.out Tryz.underlying48 rfl (by rw [size23, bytesOf_length]) ?_) | (refine wpList_store_row rfl 48 _ _ rfl go (bytesOf T).toArray rfl rfl 48 _ HO.out ?_ ?_ ?_ ?_))
      · rw [size23, List.size_toArray, bytesOf_length]
      · rfl
      · exact all_oneCell_toArray (bytesOf_one _)
      · exact bodyPost_ret (results_cell_row rfl _ _ go 48 (bytesOf T).toArray (0, 0) _ rfl (setRow_heap wr go _ _ 48 (0, 0) HO.out) Tryz.underlying48 rfl (by rw [size23, List.size_toArray, bytesOf_length])) rfl ⟨rfl, World.grownBy.andThen HG.out (World.grownBy.trans HG2.out (grown_setRow _ _ _)) (by rintro _ ⟨⟩; exact .inl HW.out)⟩
end Go.Proofs.YtkbffponemihoaaGreatDoor.C
