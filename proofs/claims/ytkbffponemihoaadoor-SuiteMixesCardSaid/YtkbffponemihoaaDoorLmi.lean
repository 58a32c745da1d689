/- The law of what is mixed, walked through. Conditions: the tables of the hash lie where the program lays them. -/
import Derived.Test.YtkbffponemihoaaDoorM3
import Derived.Stop.BytesEq
namespace Go.Proofs.YtkbffponemihoaaDoor
open Go.RowKit T
instance (ps : List (List UInt8)) : Decidable (MixOk ps) := by unfold MixOk; exact inferInstance
/-- What Mix answers, as a value. -/
def mixV (f : Bool) (x : UInt8) (ps : List (List UInt8)) : List UInt8 × Bool := if MixOk ps then (mixR f x ps, true) else (z32, false)
theorem mixV_length (f : Bool) (x : UInt8) (ps : List (List UInt8)) : (mixV f x ps).1.length = 32 := by
  unfold mixV
  split
  · exact mixR_length f x ps
  · exact z32_length
theorem mixA_val {f : Bool} {x : UInt8} {ps : List (List UInt8)} {e : Ending} (h : MixA f x ps e) : e = .returned (.tuple #[.agg (u8s (mixV f x ps).1).toArray, .bool (mixV f x ps).2]) := by
  unfold mixV
  rcases h with ⟨h, rfl⟩ | ⟨h, rfl⟩
  · rw [if_pos h]
  · rw [if_neg h]
theorem sizeOf5' (w : World) : (sizeOf 5).run Tryd.prog w = .ok 1 w := by kernel_rfl
theorem key_same (xs : List UInt8) (hx : xs.length = 32) (w : World) : (binOp .eql 26 (.agg (u8s xs).toArray) (.agg (u8s xs).toArray)).run Tryd.prog w = .ok (.bool true) w := by
  have h : (binOp .eql 26 (.agg (u8s xs).toArray) (.agg (u8s xs).toArray)).run Tryd.prog w = .ok (.bool (xs == xs)) w := run_eql_bytes (P := Tryd.prog) w 26 5 32 Tryd.underlying26 Tryd.underlying5 sizeOf5' xs xs hx hx
  rw [beq_self_eq_true] at h
  exact h
theorem guard26 : Tryd.prog.eqGuardType Tryd.prog.depth 26 = false := by kernel_rfl
theorem wpList_same26 {w : World} {ops : Array Oper} {rest : List Oper} {o : Oper} {a : Act} {Q : Exit → Act → World → Prop} (hgd : o.guard = none) (x y : Operand) (ho : o.op = .binOp .eql 26 x y 26)
    (ks : List UInt8) (hx : a.eval x = .agg (u8s ks).toArray) (hy : a.eval y = .agg (u8s ks).toArray) (hl : ks.length = 32) (h : wpList Tryd.prog ops Q rest (a.put o.dst (.bool true)) w) : wpList Tryd.prog ops Q (o :: rest) a w := by
  refine wpList_plain hgd fun K hK => ?_
  have hrun := key_same ks hl w
  unfold Oper.wp execOp
  simp only [ho, hx, hy, hrun, run_eqGuard_agg _ _ _ _ _ _ _ guard26, Sem.run_bind, Result.andThen_ok]
  exact hK _ _ h
theorem lst_on {v w : World} {ok : Nat → Prop} {A : Option Addr} {ps : List (List UInt8)} (h : Lst v ok A ps) (hok : ∀ b, ok b → b < v.heap.size) (hb : Below v.heap.size v w) : Lst w (fun b => b < w.heap.size) A ps := (h.below hb hok).imp fun _ hbb => Nat.lt_of_lt_of_le (hok _ hbb) hb.size
set_option maxRecDepth 100000 in
set_option maxHeartbeats 4000000 in
theorem mixes_walk {w : World} {ok : Nat → Prop} {A : Option Addr} {ps : List (List UInt8)} {c : Nat} (f : Bool) (x : UInt8) (hx : Lst w ok A ps) (hok : ∀ b, ok b → b < w.heap.size) (hm1 : ps.length ≤ maxLen) (hT : S.Tab w) :
    Calls Tryd.prog 3 #[.bool f, .int .u8 (x.toNat : Int), .slice A ps.length c] w fun e w' => e = .returned (.bool true) ∧ w.grownBy w' none := by
  have hal := alive_any hT
  have HX := Lib.hid hx
  have HO := Lib.hid hok
  have HT := Lib.hid hT
  have HM := Lib.hid hm1
  clear hx hok hT hm1
  go_enter Tryd.func3, Tryd.ntmps3
  go_wp2_with fail
  go_at_call 6
  refine hal.mono ?_
  rintro _ w1 ⟨rfl, g1⟩
  have B1 := Lib.hid (grown_below g1)
  have hgt := great_any (c := c) (lst_on HX.out HO.out B1.out) HM.out
  clear hal g1
  go_wp2_with fail
  go_at_call 7
  refine hgt.mono ?_
  rintro _ w2 ⟨gb, rfl, rfl⟩
  clear hgt
  obtain ⟨w2, hw2⟩ : ∃ W, W = w1 := ⟨_, rfl⟩
  rw [← hw2] at B1 ⊢
  have B2 := B1
  clear hw2 B1
  obtain ⟨n, hn⟩ : ∃ n, ps.length = n := ⟨_, rfl⟩
  rw [hn] at HM ⊢
  have HN := Lib.hid hn
  clear hn HM
  cases gb
  · cases f
    · have hsu := suite_real w2
      unfold sui at hsu
      go_wp2_with fail
      go_at_call 8
      refine hsu.mono ?_
      rintro _ w3 ⟨rfl, g3⟩
      have B3 := Lib.hid (B2.out.trans ((grown_below g3).mono B2.out.size))
      have hmi := mix_real (c := c) x (HT.out.grown (below_grown B3.out) (by simp) (by simp)) (lst_on HX.out HO.out B3.out) (fun _ h => h) HN.out
      have SZ3 : Hid (w.heap.size ≤ w2.heap.size) := B2.out.size
      clear hsu g3
      go_wp2_with fail
      go_at_call 9
      refine hmi.mono ?_
      rintro e4 w4 ⟨ha, m4⟩
      obtain rfl := mixA_val ha
      have B4 := Lib.hid (B3.out.trans ((grown_below m4).mono B3.out.size))
      clear hmi ha m4 B2 SZ3
      obtain ⟨r, hr⟩ : ∃ r, (mixV false x ps).1 = r := ⟨_, rfl⟩
      obtain ⟨q, hq⟩ : ∃ q, (mixV false x ps).2 = q := ⟨_, rfl⟩
      have hrl : r.length = 32 := by rw [← hr]; exact mixV_length _ _ _
      have HRL := Lib.hid hrl
      have HR := Lib.hid hr
      have HQ := Lib.hid hq
      rw [hr, hq]
      clear hr hq hrl
      go_wp2_with (refine wpList_alloc_ar ar26 rfl rfl ?_)
      intro w5 k5 g5 z5
      have NG : Hid (w.heap.size ≤ w4.heap.size) := B4.out.size
      obtain ⟨g7, hg7⟩ : ∃ g, g = w4.heap.size := ⟨_, rfl⟩
      rw [← hg7] at k5 ⊢
      have K5 := Lib.hid k5
      have B5 := Lib.hid (B4.out.trans ((grown_below g5).mono B4.out.size))
      have NG7 : Hid (w.heap.size ≤ g7) := by rw [hg7]; exact NG.out
      clear k5 g5 z5 hg7 NG B4 B3
      go_wp2_with (refine wpList_store_ar ar26 rfl _ _ rfl g7 (zz 32) r rfl rfl K5.out (zz_length _) HRL.out ?_)
      intro w6 k6 g6 z6
      have K6 := Lib.hid k6
      have B6 := Lib.hid (B5.out.trans ⟨g6.os, g6.tape, g6.output, g6.size, fun k hk => g6.block k (Nat.lt_of_lt_of_le hk B5.out.size) (by have := NG7.out; simp; omega)⟩ : Below w.heap.size w w6)
      clear k6 g6 z6 K5 B5
      have hrn := ref_any w6 false
      go_wp2_with fail
      go_at_call 10
      refine hrn.mono ?_
      rintro e7 w7 ⟨g7w, h7⟩
      have K7 := Lib.hid (Arr.grown K6.out g7w (by simp))
      have B7 := Lib.hid (B6.out.trans ((grown_below g7w).mono B6.out.size))
      have SZ6 : Hid (w.heap.size ≤ w6.heap.size) := B6.out.size
      have LT6 : Hid (g7 < w6.heap.size) := Arr.lt K6.out
      clear hrn g7w B6 K6
      rcases h7 with ⟨-, rfl⟩ | ⟨h, -⟩
      rotate_left
      · cases h
      have hrm := rmix_real (c := c) x (lst_on HX.out HO.out B7.out) (fun _ h => h) HN.out
      go_wp2_with fail
      go_at_call 11
      refine hrm.mono ?_
      rintro e8 w8 ⟨ha, m8⟩
      obtain rfl := mixA_val ha
      rw [HR.out, HQ.out]
      have B8 := Lib.hid (B7.out.trans ((grown_below m8).mono B7.out.size))
      have K8 := Lib.hid (Arr.grown K7.out m8 (by simp))
      clear hrm ha m8 B7 K7 SZ6 LT6
      go_wp2_with (refine wpList_alloc_ar ar25 rfl rfl ?_)
      intro w9 k9 gw9 z9
      obtain ⟨g9, hg9⟩ : ∃ g, g = w8.heap.size := ⟨_, rfl⟩
      rw [← hg9] at k9 ⊢
      have K9 := Lib.hid k9
      have B9 := Lib.hid (B8.out.trans ((grown_below gw9).mono B8.out.size))
      have KK9 := Lib.hid (Arr.grown K8.out gw9 (by simp))
      have NG9 : Hid (w.heap.size ≤ g9 ∧ g7 ≠ g9) := ⟨by rw [hg9]; exact B8.out.size, by have := Arr.lt K8.out; omega⟩
      clear k9 gw9 z9 hg9 B8 K8
      go_wp2_with (refine wpList_store_ar ar25 rfl _ _ rfl g9 (zz 32) r rfl rfl K9.out (zz_length _) HRL.out ?_)
      intro w10 k10 gw10 z10
      have K10 := Lib.hid k10
      have KK10 := Lib.hid (Arr.grown KK9.out gw10 (by simpa using NG9.out.2))
      have B10 := Lib.hid (B9.out.trans ⟨gw10.os, gw10.tape, gw10.output, gw10.size, fun k hk => gw10.block k (Nat.lt_of_lt_of_le hk B9.out.size) (by have := NG9.out.1; simp; omega)⟩ : Below w.heap.size w w10)
      clear k10 gw10 z10 K9 B9 KK9
      go_wp2_with (first | (refine wpList_load_ar ar26 rfl _ rfl g7 rfl r KK10.out HRL.out ?_) | (refine wpList_load_ar ar25 rfl _ rfl g9 rfl r K10.out HRL.out ?_) | (refine wpList_same26 rfl (.tmp 31) (.tmp 32) rfl r rfl rfl HRL.out ?_))
      go_ret
      exact ⟨by simp, below_grown B10.out⟩
    · have hsu := suite_free w2
      unfold NewS sui at hsu
      go_wp2_with fail
      go_at_call 8
      refine hsu.mono ?_
      rintro _ w3 ⟨tb, rfl, t3, g3⟩
      have B3 := Lib.hid (B2.out.trans ((grown_below g3).mono B2.out.size))
      have hmi := mix_free (c := c) x t3 (lst_on HX.out HO.out B3.out) (fun _ h => h) HN.out
      have SZ3 : Hid (w.heap.size ≤ w2.heap.size) := B2.out.size
      clear hsu g3
      go_wp2_with fail
      go_at_call 9
      refine hmi.mono ?_
      rintro e4 w4 ⟨ha, m4⟩
      obtain rfl := mixA_val ha
      have B4 := Lib.hid (B3.out.trans (m4.below (B := w.heap.size) B3.out.size fun b _ h => Nat.le_trans SZ3.out h.1))
      clear t3
      clear hmi ha m4 B2 SZ3
      obtain ⟨r, hr⟩ : ∃ r, (mixV true x ps).1 = r := ⟨_, rfl⟩
      obtain ⟨q, hq⟩ : ∃ q, (mixV true x ps).2 = q := ⟨_, rfl⟩
      have hrl : r.length = 32 := by rw [← hr]; exact mixV_length _ _ _
      have HRL := Lib.hid hrl
      have HR := Lib.hid hr
      have HQ := Lib.hid hq
      rw [hr, hq]
      clear hr hq hrl
      go_wp2_with (refine wpList_alloc_ar ar26 rfl rfl ?_)
      intro w5 k5 g5 z5
      have NG : Hid (w.heap.size ≤ w4.heap.size) := B4.out.size
      obtain ⟨g7, hg7⟩ : ∃ g, g = w4.heap.size := ⟨_, rfl⟩
      rw [← hg7] at k5 ⊢
      have K5 := Lib.hid k5
      have B5 := Lib.hid (B4.out.trans ((grown_below g5).mono B4.out.size))
      have NG7 : Hid (w.heap.size ≤ g7) := by rw [hg7]; exact NG.out
      clear k5 g5 z5 hg7 NG B4 B3
      go_wp2_with (refine wpList_store_ar ar26 rfl _ _ rfl g7 (zz 32) r rfl rfl K5.out (zz_length _) HRL.out ?_)
      intro w6 k6 g6 z6
      have K6 := Lib.hid k6
      have B6 := Lib.hid (B5.out.trans ⟨g6.os, g6.tape, g6.output, g6.size, fun k hk => g6.block k (Nat.lt_of_lt_of_le hk B5.out.size) (by have := NG7.out; simp; omega)⟩ : Below w.heap.size w w6)
      clear k6 g6 z6 K5 B5
      have hrn := ref_any w6 true
      go_wp2_with fail
      go_at_call 10
      refine hrn.mono ?_
      rintro e7 w7 ⟨g7w, h7⟩
      have K7 := Lib.hid (Arr.grown K6.out g7w (by simp))
      have B7 := Lib.hid (B6.out.trans ((grown_below g7w).mono B6.out.size))
      have SZ6 : Hid (w.heap.size ≤ w6.heap.size) := B6.out.size
      have LT6 : Hid (g7 < w6.heap.size) := Arr.lt K6.out
      clear hrn g7w B6 K6
      rcases h7 with ⟨h, -⟩ | ⟨-, rb, rfl, t7⟩
      · cases h
      have hrm := rmix_free (c := c) x t7 (lst_on HX.out HO.out B7.out) (fun _ h => h) HN.out
      go_wp2_with fail
      go_at_call 11
      refine hrm.mono ?_
      rintro e8 w8 ⟨ha, m8⟩
      obtain rfl := mixA_val ha
      rw [HR.out, HQ.out]
      have B8 := Lib.hid (B7.out.trans (m8.below (B := w.heap.size) B7.out.size fun b _ h => Nat.le_trans SZ6.out h.1))
      have K8 := Lib.hid (Arr.keep K7.out (m8.block _ (Arr.lt K7.out) fun h => Nat.lt_irrefl _ (Nat.lt_of_lt_of_le LT6.out h.1)))
      clear t7
      clear hrm ha m8 B7 K7 SZ6 LT6
      go_wp2_with (refine wpList_alloc_ar ar25 rfl rfl ?_)
      intro w9 k9 gw9 z9
      obtain ⟨g9, hg9⟩ : ∃ g, g = w8.heap.size := ⟨_, rfl⟩
      rw [← hg9] at k9 ⊢
      have K9 := Lib.hid k9
      have B9 := Lib.hid (B8.out.trans ((grown_below gw9).mono B8.out.size))
      have KK9 := Lib.hid (Arr.grown K8.out gw9 (by simp))
      have NG9 : Hid (w.heap.size ≤ g9 ∧ g7 ≠ g9) := ⟨by rw [hg9]; exact B8.out.size, by have := Arr.lt K8.out; omega⟩
      clear k9 gw9 z9 hg9 B8 K8
      go_wp2_with (refine wpList_store_ar ar25 rfl _ _ rfl g9 (zz 32) r rfl rfl K9.out (zz_length _) HRL.out ?_)
      intro w10 k10 gw10 z10
      have K10 := Lib.hid k10
      have KK10 := Lib.hid (Arr.grown KK9.out gw10 (by simpa using NG9.out.2))
      have B10 := Lib.hid (B9.out.trans ⟨gw10.os, gw10.tape, gw10.output, gw10.size, fun k hk => gw10.block k (Nat.lt_of_lt_of_le hk B9.out.size) (by have := NG9.out.1; simp; omega)⟩ : Below w.heap.size w w10)
      clear k10 gw10 z10 K9 B9 KK9
      go_wp2_with (first | (refine wpList_load_ar ar26 rfl _ rfl g7 rfl r KK10.out HRL.out ?_) | (refine wpList_load_ar ar25 rfl _ rfl g9 rfl r K10.out HRL.out ?_) | (refine wpList_same26 rfl (.tmp 31) (.tmp 32) rfl r rfl rfl HRL.out ?_))
      go_ret
      exact ⟨by simp, below_grown B10.out⟩
  · go_wp2
    go_ret
    exact ⟨rfl, below_grown B2.out⟩
end Go.Proofs.YtkbffponemihoaaDoor
