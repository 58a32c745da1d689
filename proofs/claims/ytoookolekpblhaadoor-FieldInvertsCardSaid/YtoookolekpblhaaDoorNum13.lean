/- The reference's roots. Conditions: the number is below p. -/
import Derived.Test.YtoookolekpblhaaDoorNum12
namespace Go.Proofs.YtoookolekpblhaaDoor
open Go.RowKit
/-- Numbers told apart, in a region that draws. -/
theorem yieldsIf_neq32 {ops : Array Oper} {S : World → Prop} {o : Oper} {a : Act} (hw : Region.wanted o (yielded ops a.tmps) = true) (x y : Operand) (ho : o.op = .binOp .neq 31 x y 31) {m n : Nat} (hm : m < 65536 ^ 16) (hn : n < 65536 ^ 16) (hx : a.eval x = .agg (num (dgt m)).toArray) (hy : a.eval y = .agg (num (dgt n)).toArray) {c : Bool} (hc : (!decide (m = n)) = c) :
    YieldsIf Tryd.prog ops S o (.bool c) a :=
  .inl ⟨hw, fun w _ => by
    have hrun := run_neq32 w hm hn
    rw [hc] at hrun
    unfold execOp
    simp only [ho, hx, hy, hrun, run_eqGuard_agg _ _ _ _ _ _ _ guard32, Sem.run_bind, Sem.run_pure, Result.andThen_ok]⟩
theorem yieldsIf_build0 {ops : Array Oper} {S : World → Prop} {o : Oper} {a : Act} (hw : Region.wanted o (yielded ops a.tmps) = true) (ho : o.op = .build 31 #[]) : YieldsIf Tryd.prog ops S o (.agg (num (dgt 0)).toArray) a :=
  .inl ⟨hw, fun w _ => by
    have hrun := run_build0 w
    rw [num_zero] at hrun
    generalize num (dgt 0) = z at hrun ⊢
    unfold execOp
    simp only [ho, List.map_toArray, List.map_nil, hrun, Sem.run_bind, Sem.run_pure, Result.andThen_ok]⟩
theorem wp_neq32 {w : World} {o : Oper} {a : Act} {K : Act → World → Prop} {Q : Exit → Act → World → Prop} (x y : Operand) (ho : o.op = .binOp .neq 31 x y 31) {m n : Nat} (hm : m < 65536 ^ 16) (hn : n < 65536 ^ 16) (hx : a.eval x = .agg (num (dgt m)).toArray) (hy : a.eval y = .agg (num (dgt n)).toArray) {c : Bool} (hc : (!decide (m = n)) = c)
    (h : K (a.put o.dst (.bool c)) w) : o.wp Tryd.prog a w K Q := by
  have hrun := run_neq32 w hm hn
  rw [hc] at hrun
  unfold Oper.wp execOp
  simp only [ho, hx, hy, hrun, run_eqGuard_agg _ _ _ _ _ _ _ guard32, Sem.run_bind, Result.andThen_ok]
  exact h
theorem results_root {fn : Func} {p t : Tmp} (h : fn.results = #[.cell p 31, .tmp t]) (tmps : Array Value) (w : World) (g : Nat) (f : Nat → Nat) (hp : tmps.getD p undef = .pointer (some ⟨g, 0, none⟩)) (hk : Blk w g 31 (num f)) :
    (results fn tmps).run Tryd.prog w = .ok (.tuple #[.agg (num f).toArray, tmps.getD t undef]) w := by
  have hp' : tmps[p]?.getD undef = .pointer (some ⟨g, 0, none⟩) := by simpa using hp
  simp [results, h, hp', asAddr, run_loadVar_row w g 31 31 _ (0, 0) _ hk Tryd.underlying31 rfl (num_size f)]
/-- Is there no root? -/
def noRt (a e2 : Nat) : Prop := a ≠ 0 ∧ a ^ e2 % fq ≠ 1 % fq
instance (a e2 : Nat) : Decidable (noRt a e2) := inferInstanceAs (Decidable (_ ∧ _))
def rtA (a e8 : Nat) : Nat := a ^ e8 % fq
def rtB (a e4 e8 : Nat) : Nat := if rtA a e8 * rtA a e8 % fq = a then rtA a e8 else rtA a e8 * ((2 % fq) ^ e4 % fq) % fq
def rtC (a e4 e8 : Nat) : Nat := if rtB a e4 e8 % 2 = 1 then ng (rtB a e4 e8) else rtB a e4 e8
theorem fq8_set : (num (dgt (fq / 2 / 2 / 2))).set 0 (.int .i64 (65534 : Int)) = num (dgt (fq / 2 / 2 / 2 + 1)) := by
  rw [← num_dgs, ← num_dgs, show (65534 : Int) = ((65534 : Nat) : Int) from rfl, ints_set]
  exact congrArg ints (by decide +kernel)
theorem fq8_zero : dgt (fq / 2 / 2 / 2) 0 = 65533 := by decide +kernel
theorem not_rt {a e2 : Nat} (h : ¬ a = 0) : (!decide (a ^ e2 % fq = 1 % fq)) = decide (noRt a e2) := by
  rw [Bool.eq_iff_iff]
  simp [noRt, h]
set_option maxRecDepth 100000 in
set_option maxHeartbeats 3200000 in
theorem root_any (w : World) (a e e2 e4 e8 : Nat) (ha : a < fq) (he : e = fq - 1) (he2 : e2 = e / 2) (he4 : e4 = e2 / 2) (he8 : e8 = fq / 2 / 2 / 2 + 1) : Calls Tryd.prog 16 #[.agg (num (dgt a)).toArray] w fun r w' => w.grownBy w' none ∧ ((noRt a e2 ∧ r = .returned (.tuple #[.agg (num (dgt 0)).toArray, .bool false])) ∨ (¬ noRt a e2 ∧ r = .returned (.tuple #[.agg (num (dgt (rtC a e4 e8))).toArray, .bool true]))) := by
  have HAL := Lib.hid ha
  have HAQ := Lib.hid (lt16 ha)
  have hm : ∀ W : World, Calls Tryd.prog 25 #[.agg (num (dgt fq)).toArray, .agg (num (dgt 1)).toArray] W fun e' w' => e' = .returned (.agg (num (dgt e)).toArray) ∧ W.grownBy w' none := fun W => by
    have := minus_any W fq 1 fq_lt16 (by decide)
    rwa [← he] at this
  have heL : e < 65536 ^ 16 := Nat.lt_of_le_of_lt (by rw [he]; exact Nat.sub_le _ _) fq_lt16
  have hh : ∀ W : World, Calls Tryd.prog 28 #[.agg (num (dgt e)).toArray] W fun e' w' => e' = .returned (.agg (num (dgt e2)).toArray) ∧ W.grownBy w' none := fun W => by rw [he2]; exact half_any W e heL
  have he2L : e2 < 65536 ^ 16 := Nat.lt_of_le_of_lt (by rw [he2]; exact Nat.div_le_self _ _) heL
  have hh2 : ∀ W : World, Calls Tryd.prog 28 #[.agg (num (dgt e2)).toArray] W fun e' w' => e' = .returned (.agg (num (dgt e4)).toArray) ∧ W.grownBy w' none := fun W => by rw [he4]; exact half_any W e2 he2L
  have he4L : e4 < 65536 ^ 16 := Nat.lt_of_le_of_lt (by rw [he4]; exact Nat.div_le_self _ _) he2L
  obtain ⟨q1, hq1⟩ : ∃ q, q = fq / 2 := ⟨_, rfl⟩
  obtain ⟨q2, hq2⟩ : ∃ q, q = q1 / 2 := ⟨_, rfl⟩
  obtain ⟨q3, hq3⟩ : ∃ q, q = q2 / 2 := ⟨_, rfl⟩
  have q1L : q1 < 65536 ^ 16 := Nat.lt_of_le_of_lt (by rw [hq1]; exact Nat.div_le_self _ _) fq_lt16
  have q2L : q2 < 65536 ^ 16 := Nat.lt_of_le_of_lt (by rw [hq2]; exact Nat.div_le_self _ _) q1L
  have hf1 : ∀ W : World, Calls Tryd.prog 28 #[.agg (num (dgt fq)).toArray] W fun e' w' => e' = .returned (.agg (num (dgt q1)).toArray) ∧ W.grownBy w' none := fun W => by rw [hq1]; exact half_any W fq fq_lt16
  have hf2 : ∀ W : World, Calls Tryd.prog 28 #[.agg (num (dgt q1)).toArray] W fun e' w' => e' = .returned (.agg (num (dgt q2)).toArray) ∧ W.grownBy w' none := fun W => by rw [hq2]; exact half_any W q1 q1L
  have hf3 : ∀ W : World, Calls Tryd.prog 28 #[.agg (num (dgt q2)).toArray] W fun e' w' => e' = .returned (.agg (num (dgt q3)).toArray) ∧ W.grownBy w' none := fun W => by rw [hq3]; exact half_any W q2 q2L
  have hq3z : dgt q3 0 = 65533 := by rw [hq3, hq2, hq1]; exact fq8_zero
  have hq3s : (num (dgt q3)).set 0 (.int .i64 (65534 : Int)) = num (dgt e8) := by rw [he8, hq3, hq2, hq1]; exact fq8_set
  have he8L : e8 < 65536 ^ 16 := by
    have h1 : fq / 2 / 2 / 2 ≤ fq := Nat.le_trans (Nat.div_le_self _ _) (Nat.le_trans (Nat.div_le_self _ _) (Nat.div_le_self _ _))
    have h2 := fq_lt16
    rw [he8]
    have h3 : fq + 1 < 65536 ^ 16 := by decide +kernel
    omega
  have HM := Lib.hid hm
  have HH := Lib.hid hh
  have HH2 := Lib.hid hh2
  have HE := Lib.hid heL
  have HE2 := Lib.hid he2L
  have HE4 := Lib.hid he4L
  have HE8 := Lib.hid he8L
  have HF1 := Lib.hid hf1
  have HF2 := Lib.hid hf2
  have HF3 := Lib.hid hf3
  have HQZ := Lib.hid hq3z
  have HQS := Lib.hid hq3s
  have HS1 : Hid (∀ W : World, Calls Tryd.prog 29 #[.int .i64 1] W fun e w' => e = .returned (.agg (num (dgt (1 % fq))).toArray) ∧ W.grownBy w' none) := Lib.hid fun W => small_any W 1 (by omega)
  have HS2 : Hid (∀ W : World, Calls Tryd.prog 29 #[.int .i64 2] W fun e w' => e = .returned (.agg (num (dgt (2 % fq))).toArray) ∧ W.grownBy w' none) := Lib.hid fun W => small_any W 2 (by omega)
  clear ha he he2 he4 he8 hm hh hh2 heL he2L he4L he8L hf1 hf2 hf3 hq1 hq2 hq3 q1L q2L hq3z hq3s
  go_enter Tryd.func16, Tryd.ntmps16
  go_wp2_with (refine wpList_box32 rfl _ (dgt a) rfl rfl ?_)
  intro w1 hb1 hg1 hz1'
  go_wp2_with (refine wpList_alloc32 rfl rfl ?_)
  intro w3 hb3 hg3 hz3
  obtain ⟨ga, hga⟩ : ∃ g, g = w.heap.size := ⟨_, rfl⟩
  obtain ⟨gr, hgr⟩ : ∃ g, g = w.heap.size + 1 := ⟨_, rfl⟩
  rw [← hgr, ← hga]
  rw [← hga] at hb1
  rw [← hgr] at hb3
  have HA : Hid (Blk w3 ga 31 (num (dgt a))) := Lib.hid (hb1.grown hg3 (by simp))
  have HR : Hid (Blk w3 gr 31 (num fun _ => 0)) := Lib.hid hb3
  have HG : Hid (w.grownBy w3 none) := Lib.hid (World.grownBy.trans hg1 hg3)
  have HWR : Hid (w.heap.size ≤ gr) := Lib.hid (by omega)
  have HNE : Hid (ga ≠ gr) := Lib.hid (by omega)
  clear hb1 hg1 hz1' hb3 hg3 hz3 hga hgr
  go_wp2_with (first
    | (go_at_call 26
       refine (prime_any _).mono ?_
       rintro _ w4 ⟨rfl, hg4⟩
       have HA4 := Lib.hid (HA.out.grown hg4 (by simp))
       have HR4 := Lib.hid (HR.out.grown hg4 (by simp))
       have HG4 := Lib.hid (World.grownBy.trans HG.out hg4)
       clear hg4)
    | (refine wpList_build rfl 1 rfl (by decide) ?_)
    | (go_at_call 25
       refine (HM.out _).mono ?_
       rintro _ w5 ⟨rfl, hg5⟩
       have HA5 := Lib.hid (HA4.out.grown hg5 (by simp))
       have HR5 := Lib.hid (HR4.out.grown hg5 (by simp))
       have HG5 := Lib.hid (World.grownBy.trans HG4.out hg5)
       clear hg5)
    | (refine wpList_alloc32 rfl rfl ?_
       intro w6 hb6 hg6 hz6
       obtain ⟨ge, hge⟩ : ∃ g, g = w5.heap.size := ⟨_, rfl⟩
       rw [← hge] at hb6 ⊢
       have h1 := HA5.out.lt
       have h3 := HR5.out.lt
       have h4 := HG5.out.size
       have HO6 := Lib.hid hb6
       have HN6 : Hid (ga ≠ ge ∧ gr ≠ ge ∧ w.heap.size ≤ ge) := Lib.hid (by omega)
       have HA6 := Lib.hid (HA5.out.grown hg6 (by simp))
       have HR6 := Lib.hid (HR5.out.grown hg6 (by simp))
       have HG6 := Lib.hid (World.grownBy.trans HG5.out hg6)
       clear hb6 hg6 hz6 hge h1 h3 h4)
    | (refine wpList_store_row rfl 31 _ _ rfl ge (num (dgt e)).toArray rfl rfl 31 _ HO6.out (num_size _) (num_same _ _) (all_oneCell_toArray (num_one _)) ?_
       obtain ⟨w7, hw7⟩ : ∃ w7, w7 = w6.setRow ge (num (dgt e)).toArray := ⟨_, rfl⟩
       have hg7 : w6.grownBy w7 (some ge) := by rw [hw7]; exact grown_setRow _ _ _
       have hl7 : Blk w7 ge 31 (num (dgt e)) := by rw [hw7]; exact Blk.setRow HO6.out
       rw [← hw7]
       have HE7 := Lib.hid hl7
       have HA7 := Lib.hid (HA6.out.grown hg7 (fun e => HN6.out.1 (Option.some.inj e)))
       have HR7 := Lib.hid (HR6.out.grown hg7 (fun e => HN6.out.2.1 (Option.some.inj e)))
       have HG7 : Hid (w.grownBy w7 none) := Lib.hid (World.grownBy.andThen HG6.out hg7 (by rintro _ ⟨⟩; exact .inl HN6.out.2.2))
       clear hw7 hg7 hl7)
    | fail)
  clear HA HR HG HA4 HR4 HG4 HA5 HR5 HG5 HO6 HA6 HR6 HG6
  simp only [Act.put, List.setIfInBounds_toArray, List.set_cons_zero, List.set_cons_succ]
  go_cut [20] from 10 to 19 (fun s wx => s = .bool (decide (noRt a e2)) ∧ Blk wx ga 31 (num (dgt a)) ∧ Blk wx ge 31 (num (dgt e)) ∧ Blk wx gr 31 (num fun _ => 0) ∧ w.grownBy wx none)
  case first =>
    by_cases h0 : a = 0
    · have HD : Hid ((!decide (a = 0)) = false) := Lib.hid (by simp [h0])
      have HDN : Hid (decide (noRt a e2) = false) := Lib.hid (by simp [noRt, h0])
      clear h0
      refine wp_region_held_drew (S := fun w' => Blk w' ga 31 (num (dgt a)) ∧ Blk w' ge 31 (num (dgt e))) (by kernel_rfl) ⟨HA7.out.keep rfl, HE7.out.keep rfl⟩ (fun hHeld => ?_)
      have hr0 := HR7.out.keep (w' := w7.drew) rfl
      have hw0 := grown_drew HG7.out
      refine' wpAnyH_take (i := 0) (oi := { dst := some 10, op := Op.load 31 (Operand.tmp 1), type := 31, pos := "ref.go:156", after := #[], guard := none }) (v := _) rfl (by kernel_rfl) (by kernel_rfl) (by kernel_rfl) (fun _ _ _ h => h) (yieldsIf_load_mid (by rfl) _ _ rfl ga 0 rfl (num (dgt a)) _ (fun w' hs => range_blk hs.1) Tryd.underlying31 rfl (num_size' _)) (by assumption) ?qz1
      try simp only [Act.put, List.setIfInBounds_toArray, List.set_cons_zero, List.set_cons_succ]
      refine' wpAnyH_take (i := 1) (oi := { dst := some 11, op := Op.build 31 #[], type := 31, pos := "ref.go:156", after := #[], guard := none }) (v := _) rfl (by kernel_rfl) (by kernel_rfl) (by kernel_rfl) (fun _ _ _ h => h) (yieldsIf_build0 (by rfl) rfl) (by assumption) ?qz2
      try simp only [Act.put, List.setIfInBounds_toArray, List.set_cons_zero, List.set_cons_succ]
      refine' wpAnyH_take (i := 2) (oi := { dst := some 12, op := Op.binOp BinOp.neq 31 (Operand.tmp 10) (Operand.tmp 11) 31, type := 4, pos := "ref.go:156", after := #[{ on := 0, ground := Ground.data }, { on := 1, ground := Ground.data }], guard := none }) (v := .bool false) rfl (by kernel_rfl) (by kernel_rfl) (by kernel_rfl) (fun _ _ _ h => h) (yieldsIf_neq32 (by rfl) _ _ rfl HAQ.out b16_pos rfl rfl HD.out) (by assumption) ?qz3
      try simp only [Act.put, List.setIfInBounds_toArray, List.set_cons_zero, List.set_cons_succ]
      refine' wpAnyH_take (i := 3) (oi := { dst := some 13, op := Op.move (Operand.tmp 12), type := 4, pos := "ref.go:156", after := #[{ on := 2, ground := Ground.data }], guard := none }) (v := .bool false) rfl (by kernel_rfl) (by kernel_rfl) (by kernel_rfl) (fun _ _ _ h => h) (.inl ⟨by rfl, fun _ _ => rfl⟩) (by assumption) ?qz4
      try simp only [Act.put, List.setIfInBounds_toArray, List.set_cons_zero, List.set_cons_succ]
      refine' wpAnyH_take (i := 4) (oi := { dst := some 14, op := Op.load 31 (Operand.tmp 1), type := 31, pos := "ref.go:156", after := #[{ on := 3, ground := Ground.guard }], guard := some (3, true) }) (v := undef) rfl (by kernel_rfl) (by kernel_rfl) (by kernel_rfl) (fun _ _ _ h => h) (.inr ⟨by rfl, rfl⟩) (by assumption) ?qz5
      try simp only [Act.put, List.setIfInBounds_toArray, List.set_cons_zero, List.set_cons_succ]
      refine' wpAnyH_take (i := 5) (oi := { dst := some 15, op := Op.load 31 (Operand.tmp 4), type := 31, pos := "ref.go:156", after := #[{ on := 3, ground := Ground.guard }], guard := some (3, true) }) (v := undef) rfl (by kernel_rfl) (by kernel_rfl) (by kernel_rfl) (fun _ _ _ h => h) (.inr ⟨by rfl, rfl⟩) (by assumption) ?qz6
      try simp only [Act.put, List.setIfInBounds_toArray, List.set_cons_zero, List.set_cons_succ]
      refine' wpAnyH_take (i := 6) (oi := { dst := some 16, op := Op.call { callee := Callee.value (Operand.func 28), args := #[Operand.tmp 15], argTypes := #[31] }, type := 31, pos := "ref.go:156", after := #[{ on := 5, ground := Ground.data }, { on := 3, ground := Ground.chain }, { on := 3, ground := Ground.guard }], guard := some (3, true) }) (v := undef) rfl (by kernel_rfl) (by kernel_rfl) (by kernel_rfl) (fun _ _ _ h => h) (.inr ⟨by rfl, rfl⟩) (by assumption) ?qz7
      try simp only [Act.put, List.setIfInBounds_toArray, List.set_cons_zero, List.set_cons_succ]
      refine' wpAnyH_take (i := 7) (oi := { dst := some 17, op := Op.call { callee := Callee.value (Operand.func 24), args := #[Operand.tmp 14, Operand.tmp 16], argTypes := #[31, 31] }, type := 31, pos := "ref.go:156", after := #[{ on := 4, ground := Ground.data }, { on := 6, ground := Ground.data }, { on := 6, ground := Ground.chain }, { on := 3, ground := Ground.guard }], guard := some (3, true) }) (v := undef) rfl (by kernel_rfl) (by kernel_rfl) (by kernel_rfl) (fun _ _ _ h => h) (.inr ⟨by rfl, rfl⟩) (by assumption) ?qz8
      try simp only [Act.put, List.setIfInBounds_toArray, List.set_cons_zero, List.set_cons_succ]
      refine' wpAnyH_take (i := 8) (oi := { dst := some 18, op := Op.call { callee := Callee.value (Operand.func 29), args := #[Operand.const (Value.int IntKind.i64 1)], argTypes := #[3] }, type := 31, pos := "ref.go:156", after := #[{ on := 7, ground := Ground.chain }, { on := 3, ground := Ground.guard }], guard := some (3, true) }) (v := undef) rfl (by kernel_rfl) (by kernel_rfl) (by kernel_rfl) (fun _ _ _ h => h) (.inr ⟨by rfl, rfl⟩) (by assumption) ?qz9
      try simp only [Act.put, List.setIfInBounds_toArray, List.set_cons_zero, List.set_cons_succ]
      refine' wpAnyH_take (i := 9) (oi := { dst := some 19, op := Op.binOp BinOp.neq 31 (Operand.tmp 17) (Operand.tmp 18) 31, type := 4, pos := "ref.go:156", after := #[{ on := 7, ground := Ground.data }, { on := 8, ground := Ground.data }, { on := 3, ground := Ground.guard }], guard := some (3, true) }) (v := undef) rfl (by kernel_rfl) (by kernel_rfl) (by kernel_rfl) (fun _ _ _ h => h) (.inr ⟨by rfl, rfl⟩) (by assumption) ?qz10
      try simp only [Act.put, List.setIfInBounds_toArray, List.set_cons_zero, List.set_cons_succ]
      refine wpAnyH_ready (rs := [10]) (by kernel_rfl) (by simp) ?_
      refine AllReadyH.cons (o := { dst := some 20, op := Op.pick (Operand.tmp 13) (Operand.tmp 19) (Operand.const (Value.bool false)), type := 4, pos := "ref.go:156", after := #[{ on := 3, ground := Ground.data }, { on := 9, ground := Ground.data }], guard := none }) rfl (fun K hK => ?_) AllReadyH.nil
      rw [if_pos (by rfl)]
      go_simp
      refine hK.out _ _ hHeld (fun hHeld => ?_)
      clear hK K
      try simp only [Act.put, List.setIfInBounds_toArray, List.set_cons_zero, List.set_cons_succ]
      refine wpAnyH_done (by kernel_rfl) ?_ _
      go_wp2_with (fail)
      go_meet
      case rel => exact ⟨by rw [HDN.out], hHeld.1, hHeld.2, hr0, hw0⟩
    · have HD : Hid ((!decide (a = 0)) = true) := Lib.hid (by simp [h0])
      have HDN : Hid ((!decide (a ^ e2 % fq = 1 % fq)) = decide (noRt a e2)) := Lib.hid (not_rt h0)
      clear h0
      refine wp_region_held_drew (S := fun w' => Blk w' ga 31 (num (dgt a)) ∧ Blk w' ge 31 (num (dgt e))) (by kernel_rfl) ⟨HA7.out.keep rfl, HE7.out.keep rfl⟩ (fun hHeld => ?_)
      have hr0 := HR7.out.keep (w' := w7.drew) rfl
      have hw0 := grown_drew HG7.out
      refine' wpAnyH_take (i := 0) (oi := { dst := some 10, op := Op.load 31 (Operand.tmp 1), type := 31, pos := "ref.go:156", after := #[], guard := none }) (v := _) rfl (by kernel_rfl) (by kernel_rfl) (by kernel_rfl) (fun _ _ _ h => h) (yieldsIf_load_mid (by rfl) _ _ rfl ga 0 rfl (num (dgt a)) _ (fun w' hs => range_blk hs.1) Tryd.underlying31 rfl (num_size' _)) (by assumption) ?qz11
      try simp only [Act.put, List.setIfInBounds_toArray, List.set_cons_zero, List.set_cons_succ]
      refine' wpAnyH_take (i := 1) (oi := { dst := some 11, op := Op.build 31 #[], type := 31, pos := "ref.go:156", after := #[], guard := none }) (v := _) rfl (by kernel_rfl) (by kernel_rfl) (by kernel_rfl) (fun _ _ _ h => h) (yieldsIf_build0 (by rfl) rfl) (by assumption) ?qz12
      try simp only [Act.put, List.setIfInBounds_toArray, List.set_cons_zero, List.set_cons_succ]
      refine' wpAnyH_take (i := 2) (oi := { dst := some 12, op := Op.binOp BinOp.neq 31 (Operand.tmp 10) (Operand.tmp 11) 31, type := 4, pos := "ref.go:156", after := #[{ on := 0, ground := Ground.data }, { on := 1, ground := Ground.data }], guard := none }) (v := .bool true) rfl (by kernel_rfl) (by kernel_rfl) (by kernel_rfl) (fun _ _ _ h => h) (yieldsIf_neq32 (by rfl) _ _ rfl HAQ.out b16_pos rfl rfl HD.out) (by assumption) ?qz13
      try simp only [Act.put, List.setIfInBounds_toArray, List.set_cons_zero, List.set_cons_succ]
      refine' wpAnyH_take (i := 3) (oi := { dst := some 13, op := Op.move (Operand.tmp 12), type := 4, pos := "ref.go:156", after := #[{ on := 2, ground := Ground.data }], guard := none }) (v := .bool true) rfl (by kernel_rfl) (by kernel_rfl) (by kernel_rfl) (fun _ _ _ h => h) (.inl ⟨by rfl, fun _ _ => rfl⟩) (by assumption) ?qz14
      try simp only [Act.put, List.setIfInBounds_toArray, List.set_cons_zero, List.set_cons_succ]
      refine' wpAnyH_take (i := 4) (oi := { dst := some 14, op := Op.load 31 (Operand.tmp 1), type := 31, pos := "ref.go:156", after := #[{ on := 3, ground := Ground.guard }], guard := some (3, true) }) (v := _) rfl (by kernel_rfl) (by kernel_rfl) (by kernel_rfl) (fun _ _ _ h => h) (yieldsIf_load_mid (by rfl) _ _ rfl ga 0 rfl (num (dgt a)) _ (fun w' hs => range_blk hs.1) Tryd.underlying31 rfl (num_size' _)) (by assumption) ?qz15
      try simp only [Act.put, List.setIfInBounds_toArray, List.set_cons_zero, List.set_cons_succ]
      refine' wpAnyH_take (i := 5) (oi := { dst := some 15, op := Op.load 31 (Operand.tmp 4), type := 31, pos := "ref.go:156", after := #[{ on := 3, ground := Ground.guard }], guard := some (3, true) }) (v := _) rfl (by kernel_rfl) (by kernel_rfl) (by kernel_rfl) (fun _ _ _ h => h) (yieldsIf_load_mid (by rfl) _ _ rfl ge 0 rfl (num (dgt e)) _ (fun w' hs => range_blk hs.2) Tryd.underlying31 rfl (num_size' _)) (by assumption) ?qz16
      try simp only [Act.put, List.setIfInBounds_toArray, List.set_cons_zero, List.set_cons_succ]
      refine wpAnyH_ready (rs := [6]) (by kernel_rfl) (by simp) ?_
      refine AllReadyH.cons (o := { dst := some 16, op := Op.call { callee := Callee.value (Operand.func 28), args := #[Operand.tmp 15], argTypes := #[31] }, type := 31, pos := "ref.go:156", after := #[{ on := 5, ground := Ground.data }, { on := 3, ground := Ground.chain }, { on := 3, ground := Ground.guard }], guard := some (3, true) }) rfl (fun K hK => ?_) AllReadyH.nil
      rw [if_pos (by rfl)]
      go_simp
      with_reducible refine (HH.out _).mono ?_
      rintro _ wz17 ⟨rfl, hgz18⟩
      have hbz19 := Blk.grown hr0 hgz18 (by simp)
      have hwz20 := World.grownBy.trans hw0 hgz18
      refine hK.out _ _ ⟨hHeld.1.grown hgz18 (by simp), hHeld.2.grown hgz18 (by simp)⟩ (fun hHeld => ?_)
      clear hK K
      try simp only [Act.put, List.setIfInBounds_toArray, List.set_cons_zero, List.set_cons_succ]
      refine wpAnyH_ready (rs := [7]) (by kernel_rfl) (by simp) ?_
      refine AllReadyH.cons (o := { dst := some 17, op := Op.call { callee := Callee.value (Operand.func 24), args := #[Operand.tmp 14, Operand.tmp 16], argTypes := #[31, 31] }, type := 31, pos := "ref.go:156", after := #[{ on := 4, ground := Ground.data }, { on := 6, ground := Ground.data }, { on := 6, ground := Ground.chain }, { on := 3, ground := Ground.guard }], guard := some (3, true) }) rfl (fun K hK => ?_) AllReadyH.nil
      rw [if_pos (by rfl)]
      go_simp
      with_reducible refine (power_any _ a e2 HAQ.out HE2.out).mono ?_
      rintro _ wz21 ⟨rfl, hgz22⟩
      have hbz23 := Blk.grown hbz19 hgz22 (by simp)
      have hwz24 := World.grownBy.trans hwz20 hgz22
      refine hK.out _ _ ⟨hHeld.1.grown hgz22 (by simp), hHeld.2.grown hgz22 (by simp)⟩ (fun hHeld => ?_)
      clear hK K
      try simp only [Act.put, List.setIfInBounds_toArray, List.set_cons_zero, List.set_cons_succ]
      refine wpAnyH_ready (rs := [8]) (by kernel_rfl) (by simp) ?_
      refine AllReadyH.cons (o := { dst := some 18, op := Op.call { callee := Callee.value (Operand.func 29), args := #[Operand.const (Value.int IntKind.i64 1)], argTypes := #[3] }, type := 31, pos := "ref.go:156", after := #[{ on := 7, ground := Ground.chain }, { on := 3, ground := Ground.guard }], guard := some (3, true) }) rfl (fun K hK => ?_) AllReadyH.nil
      rw [if_pos (by rfl)]
      go_simp
      with_reducible refine (HS1.out _).mono ?_
      rintro _ wz25 ⟨rfl, hgz26⟩
      have hbz27 := Blk.grown hbz23 hgz26 (by simp)
      have hwz28 := World.grownBy.trans hwz24 hgz26
      refine hK.out _ _ ⟨hHeld.1.grown hgz26 (by simp), hHeld.2.grown hgz26 (by simp)⟩ (fun hHeld => ?_)
      clear hK K
      try simp only [Act.put, List.setIfInBounds_toArray, List.set_cons_zero, List.set_cons_succ]
      refine' wpAnyH_take (i := 9) (oi := { dst := some 19, op := Op.binOp BinOp.neq 31 (Operand.tmp 17) (Operand.tmp 18) 31, type := 4, pos := "ref.go:156", after := #[{ on := 7, ground := Ground.data }, { on := 8, ground := Ground.data }, { on := 3, ground := Ground.guard }], guard := some (3, true) }) (v := .bool (decide (noRt a e2))) rfl (by kernel_rfl) (by kernel_rfl) (by kernel_rfl) (fun _ _ _ h => h) (yieldsIf_neq32 (by rfl) _ _ rfl (lt16 (Nat.mod_lt _ fq_pos)) (lt16 (Nat.mod_lt _ fq_pos)) rfl rfl HDN.out) (by assumption) ?qz29
      try simp only [Act.put, List.setIfInBounds_toArray, List.set_cons_zero, List.set_cons_succ]
      refine wpAnyH_ready (rs := [10]) (by kernel_rfl) (by simp) ?_
      refine AllReadyH.cons (o := { dst := some 20, op := Op.pick (Operand.tmp 13) (Operand.tmp 19) (Operand.const (Value.bool false)), type := 4, pos := "ref.go:156", after := #[{ on := 3, ground := Ground.data }, { on := 9, ground := Ground.data }], guard := none }) rfl (fun K hK => ?_) AllReadyH.nil
      rw [if_pos (by rfl)]
      go_simp
      refine hK.out _ _ hHeld (fun hHeld => ?_)
      clear hK K
      try simp only [Act.put, List.setIfInBounds_toArray, List.set_cons_zero, List.set_cons_succ]
      refine wpAnyH_done (by kernel_rfl) ?_ _
      go_wp2_with (fail)
      go_meet
      case rel => exact ⟨rfl, hHeld.1, hHeld.2, hbz27, hwz28⟩
  case rest =>
    obtain ⟨rfl, hA, hE, hR, hG⟩ := hcut
    obtain ⟨w8, hw8⟩ : ∃ w8, w8 = wc := ⟨_, rfl⟩
    rw [← hw8] at hA hE hR hG ⊢
    have HA8 := Lib.hid hA
    have HE8' := Lib.hid hE
    have HR8 := Lib.hid hR
    have HG8 := Lib.hid hG
    clear hA hE hR hG hw8 HA7 HE7 HR7 HG7
    by_cases hno : noRt a e2
    · have hd : decide (noRt a e2) = true := by simp [hno]
      rw [hd]
      have HNO := Lib.hid hno
      clear hno hd
      go_wp2_with (first
        | (refine wpList_build0 rfl rfl ?_)
        | (refine wpList_store_row rfl 31 _ _ rfl gr (num (dgt 0)).toArray rfl rfl 31 _ HR8.out (num_size _) (num_same _ _) (all_oneCell_toArray (num_one _)) ?_)
        | fail)
      exact bodyPost_ret (results_root rfl _ _ gr (dgt 0) rfl (Blk.setRow HR8.out)) rfl ⟨World.grownBy.andThen HG8.out (grown_setRow _ _ _) (by rintro _ ⟨⟩; exact .inl HWR.out), .inl ⟨HNO.out, rfl⟩⟩
    · have hd : decide (noRt a e2) = false := by simp [hno]
      rw [hd]
      have HNO := Lib.hid hno
      clear hno hd
      have HAx8 := HA8
      have HEx8 := HE8'
      have HRx8 := HR8
      have HGx8 := HG8
      obtain ⟨r, hra⟩ : ∃ r, r = rtA a e8 := ⟨_, rfl⟩
      have HRL : Hid (r < 65536 ^ 16) := Lib.hid (by rw [hra]; exact lt16 (Nat.mod_lt _ fq_pos))
      have HRA : Hid (r = a ^ e8 % fq) := Lib.hid hra
      clear hra
      go_wp2_with (first
        | (go_at_call 26
           with_reducible refine (prime_any _).mono ?_
           rintro _ wx9 ⟨rfl, hgv⟩
           have HAx9 := Lib.hid (HAx8.out.grown hgv (by simp))
           have HEx9 := Lib.hid (HEx8.out.grown hgv (by simp))
           have HRx9 := Lib.hid (HRx8.out.grown hgv (by simp))
           have HGx9 := Lib.hid (World.grownBy.trans HGx8.out hgv)
           clear hgv)
        | (go_at_call 28
           with_reducible refine (HF1.out _).mono ?_
           rintro _ wx10 ⟨rfl, hgv⟩
           have HAx10 := Lib.hid (HAx9.out.grown hgv (by simp))
           have HEx10 := Lib.hid (HEx9.out.grown hgv (by simp))
           have HRx10 := Lib.hid (HRx9.out.grown hgv (by simp))
           have HGx10 := Lib.hid (World.grownBy.trans HGx9.out hgv)
           clear hgv)
        | (go_at_call 28
           with_reducible refine (HF2.out _).mono ?_
           rintro _ wx11 ⟨rfl, hgv⟩
           have HAx11 := Lib.hid (HAx10.out.grown hgv (by simp))
           have HEx11 := Lib.hid (HEx10.out.grown hgv (by simp))
           have HRx11 := Lib.hid (HRx10.out.grown hgv (by simp))
           have HGx11 := Lib.hid (World.grownBy.trans HGx10.out hgv)
           clear hgv)
        | (go_at_call 28
           with_reducible refine (HF3.out _).mono ?_
           rintro _ wx12 ⟨rfl, hgv⟩
           have HAx12 := Lib.hid (HAx11.out.grown hgv (by simp))
           have HEx12 := Lib.hid (HEx11.out.grown hgv (by simp))
           have HRx12 := Lib.hid (HRx11.out.grown hgv (by simp))
           have HGx12 := Lib.hid (World.grownBy.trans HGx11.out hgv)
           clear hgv)
        | (refine wpList_alloc32 rfl rfl ?_
           intro wx13 hb6 hg6 hz6
           obtain ⟨g5, hge⟩ : ∃ g, g = wx12.heap.size := ⟨_, rfl⟩
           rw [← hge] at hb6 ⊢
           have h1 := HAx12.out.lt
           have h2 := HEx12.out.lt
           have h3 := HRx12.out.lt
           have h4 := HGx12.out.size
           have HO13 := Lib.hid hb6
           have HN5 : Hid (ga ≠ g5 ∧ ge ≠ g5 ∧ gr ≠ g5 ∧ w.heap.size ≤ g5) := Lib.hid (by omega)
           have HAx13 := Lib.hid (HAx12.out.grown hg6 (by simp))
           have HEx13 := Lib.hid (HEx12.out.grown hg6 (by simp))
           have HRx13 := Lib.hid (HRx12.out.grown hg6 (by simp))
           have HGx13 := Lib.hid (World.grownBy.trans HGx12.out hg6)
           clear hb6 hg6 hz6 hge h1 h2 h3 h4)
        | (refine wpList_store_row rfl 31 _ _ rfl g5 (num (dgt q3)).toArray rfl rfl 31 _ HO13.out (num_size _) (num_same _ _) (all_oneCell_toArray (num_one _)) ?_
           obtain ⟨wx14, hw14⟩ : ∃ w', w' = wx13.setRow g5 (num (dgt q3)).toArray := ⟨_, rfl⟩
           have hg14 : wx13.grownBy wx14 (some g5) := by rw [hw14]; exact grown_setRow _ _ _
           have hl14 : Blk wx14 g5 31 (num (dgt q3)) := by rw [hw14]; exact Blk.setRow HO13.out
           rw [← hw14]
           have c5 := hl14.get 0 (.int .i64 (65533 : Int)) (by rw [num_get _ 0 (by omega), HQZ.out]; rfl)
           have hf5 := hl14.frozen 0
           have hs5 := (hl14.set 0 (.int .i64 (65534 : Int))).to HQS.out
           have hg15 := World.grownBy.trans hg14 (grown_set wx14 g5 0 (.int .i64 (65534 : Int)))
           have HO15 := Lib.hid hs5
           have HAx15 := Lib.hid (HAx13.out.grown hg15 (fun e => HN5.out.1 (Option.some.inj e)))
           have HEx15 := Lib.hid (HEx13.out.grown hg15 (fun e => HN5.out.2.1 (Option.some.inj e)))
           have HRx15 := Lib.hid (HRx13.out.grown hg15 (fun e => HN5.out.2.2.1 (Option.some.inj e)))
           have HGx15 : Hid (w.grownBy (wx14.setCell ⟨g5, 0, none⟩ (.int .i64 (65534 : Int))) none) := Lib.hid (World.grownBy.andThen HGx13.out hg15 (by rintro _ ⟨⟩; exact .inl HN5.out.2.2.2))
           clear hw14 hg14 hl14 hs5 hg15)
        | (with_reducible refine wpList_load_mid rfl 31 _ rfl ga 0 rfl (num (dgt a)) _ (range_blk HAx15.out) Tryd.underlying31 rfl (num_size' _) ?_
      )
        | (with_reducible refine wpList_load_mid rfl 31 _ rfl g5 0 rfl (num (dgt e8)) _ (range_blk HO15.out) Tryd.underlying31 rfl (num_size' _) ?_
      )
        | (go_at_call 24
           with_reducible refine (power_any _ a e8 HAQ.out HE8.out).mono ?_
           rw [← HRA.out]
           rintro _ wx16 ⟨rfl, hgv⟩
           have HAx16 := Lib.hid (HAx15.out.grown hgv (by simp))
           have HEx16 := Lib.hid (HEx15.out.grown hgv (by simp))
           have HRx16 := Lib.hid (HRx15.out.grown hgv (by simp))
           have HGx16 := Lib.hid (World.grownBy.trans HGx15.out hgv)
           clear hgv)
        | (refine wpList_alloc32 rfl rfl ?_
           intro wx17 hb6 hg6 hz6
           obtain ⟨g6, hge⟩ : ∃ g, g = wx16.heap.size := ⟨_, rfl⟩
           rw [← hge] at hb6 ⊢
           have h1 := HAx16.out.lt
           have h2 := HEx16.out.lt
           have h3 := HRx16.out.lt
           have h4 := HGx16.out.size
           have HO17 := Lib.hid hb6
           have HN6' : Hid (ga ≠ g6 ∧ ge ≠ g6 ∧ gr ≠ g6 ∧ w.heap.size ≤ g6) := Lib.hid (by omega)
           have HAx17 := Lib.hid (HAx16.out.grown hg6 (by simp))
           have HEx17 := Lib.hid (HEx16.out.grown hg6 (by simp))
           have HRx17 := Lib.hid (HRx16.out.grown hg6 (by simp))
           have HGx17 := Lib.hid (World.grownBy.trans HGx16.out hg6)
           clear hb6 hg6 hz6 hge h1 h2 h3 h4)
        | (refine wpList_store_row rfl 31 _ _ rfl g6 (num (dgt r)).toArray rfl rfl 31 _ HO17.out (num_size _) (num_same _ _) (all_oneCell_toArray (num_one _)) ?_
           obtain ⟨wx18, hw18⟩ : ∃ w', w' = wx17.setRow g6 (num (dgt r)).toArray := ⟨_, rfl⟩
           have hg18 : wx17.grownBy wx18 (some g6) := by rw [hw18]; exact grown_setRow _ _ _
           have hl18 : Blk wx18 g6 31 (num (dgt r)) := by rw [hw18]; exact Blk.setRow HO17.out
           rw [← hw18]
           have HO18 := Lib.hid hl18
           have HAx18 := Lib.hid (HAx17.out.grown hg18 (fun e => HN6'.out.1 (Option.some.inj e)))
           have HEx18 := Lib.hid (HEx17.out.grown hg18 (fun e => HN6'.out.2.1 (Option.some.inj e)))
           have HRx18 := Lib.hid (HRx17.out.grown hg18 (fun e => HN6'.out.2.2.1 (Option.some.inj e)))
           have HGx18 : Hid (w.grownBy wx18 none) := Lib.hid (World.grownBy.andThen HGx17.out hg18 (by rintro _ ⟨⟩; exact .inl HN6'.out.2.2.2))
           clear hw18 hg18 hl18)
        | fail)
      clear HA8 HE8' HR8 HG8 HAx8 HEx8 HRx8 HGx8 HAx9 HEx9 HRx9 HGx9 HAx10 HEx10 HRx10 HGx10 HAx11 HEx11 HRx11 HGx11 HAx12 HEx12 HRx12 HGx12 HO13 HAx13 HEx13 HRx13 HGx13 HO15 HAx15 HEx15 HRx15 HGx15 HAx16 HEx16 HRx16 HGx16 HO17 HAx17 HEx17 HRx17 HGx17
      simp only [Act.put, List.setIfInBounds_toArray, List.set_cons_zero, List.set_cons_succ]
      by_cases heq : r * r % fq = a
      · have HD7 : Hid ((!decide (r * r % fq = a)) = false) := Lib.hid (by simp [heq])
        obtain ⟨s, hs⟩ : ∃ s, s = r := ⟨_, rfl⟩
        have HRB : Hid (rtB a e4 e8 = s) := Lib.hid (by unfold rtB rtA; rw [← HRA.out, if_pos heq, hs])
        have HSL : Hid (s < fq) := Lib.hid (by rw [hs, HRA.out]; exact Nat.mod_lt _ fq_pos)
        subst hs
        clear heq
        refine wp_region_held_drew (S := fun w' => Blk w' g6 31 (num (dgt s)) ∧ Blk w' ga 31 (num (dgt a))) (by kernel_rfl) ⟨HO18.out.keep rfl, HAx18.out.keep rfl⟩ (fun hHeld => ?_)
        have he0 := HEx18.out.keep (w' := wx18.drew) rfl
        have hr0 := HRx18.out.keep (w' := wx18.drew) rfl
        have hw0 := grown_drew HGx18.out
        refine' wpAnyH_take (i := 0) (oi := { dst := some 33, op := Op.load 31 (Operand.tmp 6), type := 31, pos := "ref.go:162", after := #[], guard := none }) (v := _) rfl (by kernel_rfl) (by kernel_rfl) (by kernel_rfl) (fun _ _ _ h => h) (yieldsIf_load_mid (by rfl) _ _ rfl g6 0 rfl (num (dgt s)) _ (fun w' hs => range_blk hs.1) Tryd.underlying31 rfl (num_size' _)) (by assumption) ?qz30
        try simp only [Act.put, List.setIfInBounds_toArray, List.set_cons_zero, List.set_cons_succ]
        refine' wpAnyH_take (i := 1) (oi := { dst := some 34, op := Op.load 31 (Operand.tmp 6), type := 31, pos := "ref.go:162", after := #[], guard := none }) (v := _) rfl (by kernel_rfl) (by kernel_rfl) (by kernel_rfl) (fun _ _ _ h => h) (yieldsIf_load_mid (by rfl) _ _ rfl g6 0 rfl (num (dgt s)) _ (fun w' hs => range_blk hs.1) Tryd.underlying31 rfl (num_size' _)) (by assumption) ?qz31
        try simp only [Act.put, List.setIfInBounds_toArray, List.set_cons_zero, List.set_cons_succ]
        refine' wpAnyH_take (i := 3) (oi := { dst := some 36, op := Op.load 31 (Operand.tmp 1), type := 31, pos := "ref.go:162", after := #[], guard := none }) (v := _) rfl (by kernel_rfl) (by kernel_rfl) (by kernel_rfl) (fun _ _ _ h => h) (yieldsIf_load_mid (by rfl) _ _ rfl ga 0 rfl (num (dgt a)) _ (fun w' hs => range_blk hs.2) Tryd.underlying31 rfl (num_size' _)) (by assumption) ?qz32
        try simp only [Act.put, List.setIfInBounds_toArray, List.set_cons_zero, List.set_cons_succ]
        refine wpAnyH_ready (rs := [2]) (by kernel_rfl) (by simp) ?_
        refine AllReadyH.cons (o := { dst := some 35, op := Op.call { callee := Callee.value (Operand.func 30), args := #[Operand.tmp 33, Operand.tmp 34], argTypes := #[31, 31] }, type := 31, pos := "ref.go:162", after := #[{ on := 0, ground := Ground.data }, { on := 1, ground := Ground.data }], guard := none }) rfl (fun K hK => ?_) AllReadyH.nil
        rw [if_pos (by rfl)]
        go_simp
        with_reducible refine (mul_any _ s s HRL.out HRL.out).mono ?_
        rintro _ wz33 ⟨rfl, hgz34⟩
        have hbz35 := Blk.grown he0 hgz34 (by simp)
        have hbz36 := Blk.grown hr0 hgz34 (by simp)
        have hwz37 := World.grownBy.trans hw0 hgz34
        refine hK.out _ _ ⟨hHeld.1.grown hgz34 (by simp), hHeld.2.grown hgz34 (by simp)⟩ (fun hHeld => ?_)
        clear hK K
        try simp only [Act.put, List.setIfInBounds_toArray, List.set_cons_zero, List.set_cons_succ]
        refine' wpAnyH_take (i := 4) (oi := { dst := some 37, op := Op.binOp BinOp.neq 31 (Operand.tmp 35) (Operand.tmp 36) 31, type := 4, pos := "ref.go:162", after := #[{ on := 2, ground := Ground.data }, { on := 3, ground := Ground.data }], guard := none }) (v := .bool false) rfl (by kernel_rfl) (by kernel_rfl) (by kernel_rfl) (fun _ _ _ h => h) (yieldsIf_neq32 (by rfl) _ _ rfl (lt16 (Nat.mod_lt _ fq_pos)) HAQ.out rfl rfl HD7.out) (by assumption) ?qz38
        try simp only [Act.put, List.setIfInBounds_toArray, List.set_cons_zero, List.set_cons_succ]
        refine wpAnyH_done (by kernel_rfl) ?_ _
        have ho9 := hHeld.1
        have hr9 := hbz36
        have hw9 := hwz37
        have HOz := Lib.hid ho9
        have HRz := Lib.hid hr9
        have HGz := Lib.hid hw9
        obtain ⟨d, hd⟩ : ∃ d, d = dgt s 0 := ⟨_, rfl⟩
        have hd1 := dgt_lt s 0
        have hds : d % 2 = s % 2 := by rw [hd]; simp [dgt]
        have c9 := HOz.out.get 0 _ (num_get (dgt s) 0 (by omega))
        rw [← hd] at c9 hd1
        obtain ⟨b, hb⟩ : ∃ b, b = d % 2 := ⟨_, rfl⟩
        have d1 : (d : Int).tmod 2 = (b : Int) := by rw [Int.tmod_eq_emod_of_nonneg (by omega)]; omega
        have d2 : (d : Int) % 2 = (b : Int) := by omega
        have d3 := i64_keep b (by omega)
        have HBS : Hid (b = s % 2) := Lib.hid (by omega)
        clear hd hds
        by_cases hodd : b = 1
        · have f1 : (b : Int) = 1 := by omega
          have HRC : Hid (rtC a e4 e8 = ng s) := Lib.hid (by unfold rtC; rw [HRB.out, if_pos (by rw [← HBS.out]; exact hodd)])
          subst hodd
          clear hb
          go_wp2_with (first
            | (with_reducible refine wpList_load_mid rfl 31 _ rfl g6 0 rfl (num (dgt s)) _ (range_blk HOz.out) Tryd.underlying31 rfl (num_size' _) ?_)
            | (go_at_call 31
               with_reducible refine (neg_any _ s HSL.out).mono ?_
               rintro _ wn ⟨rfl, hgv⟩
               have HOn := Lib.hid (HOz.out.grown hgv (by simp))
               have HRn := Lib.hid (HRz.out.grown hgv (by simp))
               have HGn := Lib.hid (World.grownBy.trans HGz.out hgv)
               clear hgv)
            | (refine wpList_store_row rfl 31 _ _ rfl g6 (num (dgt (ng s))).toArray rfl rfl 31 _ HOn.out (num_size _) (num_same _ _) (all_oneCell_toArray (num_one _)) ?_
               obtain ⟨wo, hwo⟩ : ∃ w', w' = wn.setRow g6 (num (dgt (ng s))).toArray := ⟨_, rfl⟩
               have hgo : wn.grownBy wo (some g6) := by rw [hwo]; exact grown_setRow _ _ _
               have hlo : Blk wo g6 31 (num (dgt (ng s))) := by rw [hwo]; exact Blk.setRow HOn.out
               rw [← hwo]
               have HOo := Lib.hid hlo
               have HRo := Lib.hid (HRn.out.grown hgo (fun e => HN6'.out.2.2.1 (Option.some.inj e)))
               have HGo : Hid (w.grownBy wo none) := Lib.hid (World.grownBy.andThen HGn.out hgo (by rintro _ ⟨⟩; exact .inl HN6'.out.2.2.2))
               clear hwo hgo hlo)
            | (with_reducible refine wpList_load_mid rfl 31 _ rfl g6 0 rfl (num (dgt (ng s))) _ (range_blk HOo.out) Tryd.underlying31 rfl (num_size' _) ?_)
            | (refine wpList_store_row rfl 31 _ _ rfl gr (num (dgt (ng s))).toArray rfl rfl 31 _ HRo.out (num_size _) (num_same _ _) (all_oneCell_toArray (num_one _)) ?_)
            | fail)
          exact bodyPost_ret (results_root rfl _ _ gr (dgt (ng s)) rfl (Blk.setRow HRo.out)) rfl ⟨World.grownBy.andThen HGo.out (grown_setRow _ _ _) (by rintro _ ⟨⟩; exact .inl HWR.out), .inr ⟨HNO.out, by rw [HRC.out]; rfl⟩⟩
        · have f1 : ¬ (b : Int) = 1 := by omega
          have HRC : Hid (rtC a e4 e8 = s) := Lib.hid (by unfold rtC; rw [HRB.out, if_neg (by rw [← HBS.out]; exact hodd)])
          have hb0 : b = 0 := by omega
          subst hb0
          clear hb
          go_wp2_with (first
            | (with_reducible refine wpList_load_mid rfl 31 _ rfl g6 0 rfl (num (dgt s)) _ (range_blk HOz.out) Tryd.underlying31 rfl (num_size' _) ?_)
            | (refine wpList_store_row rfl 31 _ _ rfl gr (num (dgt s)).toArray rfl rfl 31 _ HRz.out (num_size _) (num_same _ _) (all_oneCell_toArray (num_one _)) ?_)
            | fail)
          exact bodyPost_ret (results_root rfl _ _ gr (dgt s) rfl (Blk.setRow HRz.out)) rfl ⟨World.grownBy.andThen HGz.out (grown_setRow _ _ _) (by rintro _ ⟨⟩; exact .inl HWR.out), .inr ⟨HNO.out, by rw [HRC.out]; rfl⟩⟩
      · have HD7 : Hid ((!decide (r * r % fq = a)) = true) := Lib.hid (by simp [heq])
        obtain ⟨s, hs⟩ : ∃ s, s = r * ((2 % fq) ^ e4 % fq) % fq := ⟨_, rfl⟩
        have HRB : Hid (rtB a e4 e8 = s) := Lib.hid (by unfold rtB rtA; rw [← HRA.out, if_neg heq, hs])
        have HSL : Hid (s < fq) := Lib.hid (by rw [hs]; exact Nat.mod_lt _ fq_pos)
        have HS := Lib.hid hs
        clear heq hs
        refine wp_region_held_drew (S := fun w' => Blk w' g6 31 (num (dgt r)) ∧ Blk w' ga 31 (num (dgt a))) (by kernel_rfl) ⟨HO18.out.keep rfl, HAx18.out.keep rfl⟩ (fun hHeld => ?_)
        have he0 := HEx18.out.keep (w' := wx18.drew) rfl
        have hr0 := HRx18.out.keep (w' := wx18.drew) rfl
        have hw0 := grown_drew HGx18.out
        refine' wpAnyH_take (i := 0) (oi := { dst := some 33, op := Op.load 31 (Operand.tmp 6), type := 31, pos := "ref.go:162", after := #[], guard := none }) (v := _) rfl (by kernel_rfl) (by kernel_rfl) (by kernel_rfl) (fun _ _ _ h => h) (yieldsIf_load_mid (by rfl) _ _ rfl g6 0 rfl (num (dgt r)) _ (fun w' hs => range_blk hs.1) Tryd.underlying31 rfl (num_size' _)) (by assumption) ?qz39
        try simp only [Act.put, List.setIfInBounds_toArray, List.set_cons_zero, List.set_cons_succ]
        refine' wpAnyH_take (i := 1) (oi := { dst := some 34, op := Op.load 31 (Operand.tmp 6), type := 31, pos := "ref.go:162", after := #[], guard := none }) (v := _) rfl (by kernel_rfl) (by kernel_rfl) (by kernel_rfl) (fun _ _ _ h => h) (yieldsIf_load_mid (by rfl) _ _ rfl g6 0 rfl (num (dgt r)) _ (fun w' hs => range_blk hs.1) Tryd.underlying31 rfl (num_size' _)) (by assumption) ?qz40
        try simp only [Act.put, List.setIfInBounds_toArray, List.set_cons_zero, List.set_cons_succ]
        refine' wpAnyH_take (i := 3) (oi := { dst := some 36, op := Op.load 31 (Operand.tmp 1), type := 31, pos := "ref.go:162", after := #[], guard := none }) (v := _) rfl (by kernel_rfl) (by kernel_rfl) (by kernel_rfl) (fun _ _ _ h => h) (yieldsIf_load_mid (by rfl) _ _ rfl ga 0 rfl (num (dgt a)) _ (fun w' hs => range_blk hs.2) Tryd.underlying31 rfl (num_size' _)) (by assumption) ?qz41
        try simp only [Act.put, List.setIfInBounds_toArray, List.set_cons_zero, List.set_cons_succ]
        refine wpAnyH_ready (rs := [2]) (by kernel_rfl) (by simp) ?_
        refine AllReadyH.cons (o := { dst := some 35, op := Op.call { callee := Callee.value (Operand.func 30), args := #[Operand.tmp 33, Operand.tmp 34], argTypes := #[31, 31] }, type := 31, pos := "ref.go:162", after := #[{ on := 0, ground := Ground.data }, { on := 1, ground := Ground.data }], guard := none }) rfl (fun K hK => ?_) AllReadyH.nil
        rw [if_pos (by rfl)]
        go_simp
        with_reducible refine (mul_any _ r r HRL.out HRL.out).mono ?_
        rintro _ wz42 ⟨rfl, hgz43⟩
        have hbz44 := Blk.grown he0 hgz43 (by simp)
        have hbz45 := Blk.grown hr0 hgz43 (by simp)
        have hwz46 := World.grownBy.trans hw0 hgz43
        refine hK.out _ _ ⟨hHeld.1.grown hgz43 (by simp), hHeld.2.grown hgz43 (by simp)⟩ (fun hHeld => ?_)
        clear hK K
        try simp only [Act.put, List.setIfInBounds_toArray, List.set_cons_zero, List.set_cons_succ]
        refine' wpAnyH_take (i := 4) (oi := { dst := some 37, op := Op.binOp BinOp.neq 31 (Operand.tmp 35) (Operand.tmp 36) 31, type := 4, pos := "ref.go:162", after := #[{ on := 2, ground := Ground.data }, { on := 3, ground := Ground.data }], guard := none }) (v := .bool true) rfl (by kernel_rfl) (by kernel_rfl) (by kernel_rfl) (fun _ _ _ h => h) (yieldsIf_neq32 (by rfl) _ _ rfl (lt16 (Nat.mod_lt _ fq_pos)) HAQ.out rfl rfl HD7.out) (by assumption) ?qz47
        try simp only [Act.put, List.setIfInBounds_toArray, List.set_cons_zero, List.set_cons_succ]
        refine wpAnyH_done (by kernel_rfl) ?_ _
        have HO9 := Lib.hid hHeld.1
        have HE9 := Lib.hid hbz44
        have HR9 := Lib.hid hbz45
        have HG9 := Lib.hid hwz46
        obtain ⟨w9, hw9⟩ : ∃ w9, w9 = wz42 := ⟨_, rfl⟩
        rw [← hw9] at HO9 HE9 HR9 HG9 ⊢
        clear hw9
        go_wp2_with (fail)
        refine wp_region_held_drew (S := fun w' => Blk w' ge 31 (num (dgt e))) (by kernel_rfl) (HE9.out.keep rfl) (fun hHeld => ?_)
        have hob := HO9.out.keep (w' := w9.drew) rfl
        have hrb := HR9.out.keep (w' := w9.drew) rfl
        have hwb := grown_drew HG9.out
        refine' wpAnyH_take (i := 2) (oi := { dst := some 40, op := Op.load 31 (Operand.tmp 4), type := 31, pos := "ref.go:163", after := #[], guard := none }) (v := _) rfl (by kernel_rfl) (by kernel_rfl) (by kernel_rfl) (fun _ _ _ h => h) (yieldsIf_load_mid (by rfl) _ _ rfl ge 0 rfl (num (dgt e)) _ (fun w' hs => range_blk hs) Tryd.underlying31 rfl (num_size' _)) (by assumption) ?qz48
        try simp only [Act.put, List.setIfInBounds_toArray, List.set_cons_zero, List.set_cons_succ]
        refine wpAnyH_ready (rs := [0, 1]) (by kernel_rfl) (by simp) ?_
        refine AllReadyH.cons (o := { dst := some 38, op := Op.load 31 (Operand.tmp 6), type := 31, pos := "ref.go:163", after := #[], guard := none }) rfl (fun K hK => ?_) (AllReadyH.cons (o := { dst := some 39, op := Op.call { callee := Callee.value (Operand.func 29), args := #[Operand.const (Value.int IntKind.i64 2)], argTypes := #[3] }, type := 31, pos := "ref.go:163", after := #[], guard := none }) rfl (fun K hK => ?_) AllReadyH.nil)
        · rw [if_pos (by rfl)]
          refine wp_load_mid 31 _ rfl g6 0 rfl (num (dgt r)) _ (range_blk hob) Tryd.underlying31 rfl (num_size' _) ?_
          refine hK.out _ _ hHeld (fun hHeld => ?_)
          clear hK K
          try simp only [Act.put, List.setIfInBounds_toArray, List.set_cons_zero, List.set_cons_succ]
          refine wpAnyH_ready (rs := [1]) (by kernel_rfl) (by simp) ?_
          refine AllReadyH.cons (o := { dst := some 39, op := Op.call { callee := Callee.value (Operand.func 29), args := #[Operand.const (Value.int IntKind.i64 2)], argTypes := #[3] }, type := 31, pos := "ref.go:163", after := #[], guard := none }) rfl (fun K hK => ?_) AllReadyH.nil
          rw [if_pos (by rfl)]
          go_simp
          with_reducible refine (HS2.out _).mono ?_
          rintro _ wz49 ⟨rfl, hgz50⟩
          have hbz51 := Blk.grown hob hgz50 (by simp)
          have hbz52 := Blk.grown hrb hgz50 (by simp)
          have hwz53 := World.grownBy.trans hwb hgz50
          refine hK.out _ _ (hHeld.grown hgz50 (by simp)) (fun hHeld => ?_)
          clear hK K
          try simp only [Act.put, List.setIfInBounds_toArray, List.set_cons_zero, List.set_cons_succ]
          refine wpAnyH_ready (rs := [3]) (by kernel_rfl) (by simp) ?_
          refine AllReadyH.cons (o := { dst := some 41, op := Op.call { callee := Callee.value (Operand.func 28), args := #[Operand.tmp 40], argTypes := #[31] }, type := 31, pos := "ref.go:163", after := #[{ on := 2, ground := Ground.data }, { on := 1, ground := Ground.chain }], guard := none }) rfl (fun K hK => ?_) AllReadyH.nil
          rw [if_pos (by rfl)]
          go_simp
          with_reducible refine (HH.out _).mono ?_
          rintro _ wz54 ⟨rfl, hgz55⟩
          have hbz56 := Blk.grown hbz51 hgz55 (by simp)
          have hbz57 := Blk.grown hbz52 hgz55 (by simp)
          have hwz58 := World.grownBy.trans hwz53 hgz55
          refine hK.out _ _ (hHeld.grown hgz55 (by simp)) (fun hHeld => ?_)
          clear hK K
          try simp only [Act.put, List.setIfInBounds_toArray, List.set_cons_zero, List.set_cons_succ]
          refine wpAnyH_ready (rs := [4]) (by kernel_rfl) (by simp) ?_
          refine AllReadyH.cons (o := { dst := some 42, op := Op.call { callee := Callee.value (Operand.func 28), args := #[Operand.tmp 41], argTypes := #[31] }, type := 31, pos := "ref.go:163", after := #[{ on := 3, ground := Ground.data }, { on := 3, ground := Ground.chain }], guard := none }) rfl (fun K hK => ?_) AllReadyH.nil
          rw [if_pos (by rfl)]
          go_simp
          with_reducible refine (HH2.out _).mono ?_
          rintro _ wz59 ⟨rfl, hgz60⟩
          have hbz61 := Blk.grown hbz56 hgz60 (by simp)
          have hbz62 := Blk.grown hbz57 hgz60 (by simp)
          have hwz63 := World.grownBy.trans hwz58 hgz60
          refine hK.out _ _ (hHeld.grown hgz60 (by simp)) (fun hHeld => ?_)
          clear hK K
          try simp only [Act.put, List.setIfInBounds_toArray, List.set_cons_zero, List.set_cons_succ]
          refine wpAnyH_ready (rs := [5]) (by kernel_rfl) (by simp) ?_
          refine AllReadyH.cons (o := { dst := some 43, op := Op.call { callee := Callee.value (Operand.func 24), args := #[Operand.tmp 39, Operand.tmp 42], argTypes := #[31, 31] }, type := 31, pos := "ref.go:163", after := #[{ on := 1, ground := Ground.data }, { on := 4, ground := Ground.data }, { on := 4, ground := Ground.chain }], guard := none }) rfl (fun K hK => ?_) AllReadyH.nil
          rw [if_pos (by rfl)]
          go_simp
          with_reducible refine (power_any _ (2 % fq) e4 (lt16 (Nat.mod_lt _ fq_pos)) HE4.out).mono ?_
          rintro _ wz64 ⟨rfl, hgz65⟩
          have hbz66 := Blk.grown hbz61 hgz65 (by simp)
          have hbz67 := Blk.grown hbz62 hgz65 (by simp)
          have hwz68 := World.grownBy.trans hwz63 hgz65
          refine hK.out _ _ (hHeld.grown hgz65 (by simp)) (fun hHeld => ?_)
          clear hK K
          try simp only [Act.put, List.setIfInBounds_toArray, List.set_cons_zero, List.set_cons_succ]
          refine wpAnyH_ready (rs := [6]) (by kernel_rfl) (by simp) ?_
          refine AllReadyH.cons (o := { dst := some 44, op := Op.call { callee := Callee.value (Operand.func 30), args := #[Operand.tmp 38, Operand.tmp 43], argTypes := #[31, 31] }, type := 31, pos := "ref.go:163", after := #[{ on := 0, ground := Ground.data }, { on := 5, ground := Ground.data }, { on := 5, ground := Ground.chain }], guard := none }) rfl (fun K hK => ?_) AllReadyH.nil
          rw [if_pos (by rfl)]
          go_simp
          with_reducible refine (mul_any _ r ((2 % fq) ^ e4 % fq) HRL.out (lt16 (Nat.mod_lt _ fq_pos))).mono ?_
          rw [← HS.out]
          rintro _ wz69 ⟨rfl, hgz70⟩
          have hbz71 := Blk.grown hbz66 hgz70 (by simp)
          have hbz72 := Blk.grown hbz67 hgz70 (by simp)
          have hwz73 := World.grownBy.trans hwz68 hgz70
          refine hK.out _ _ (hHeld.grown hgz70 (by simp)) (fun hHeld => ?_)
          clear hK K
          try simp only [Act.put, List.setIfInBounds_toArray, List.set_cons_zero, List.set_cons_succ]
          refine wpAnyH_ready (rs := [7]) (by kernel_rfl) (by simp) ?_
          refine AllReadyH.cons (o := { dst := none, op := Op.store 31 (Operand.tmp 6) (Operand.tmp 44), type := 0, pos := "ref.go:163", after := #[{ on := 6, ground := Ground.data }, { on := 6, ground := Ground.chain }, { on := 0, ground := Ground.phase }, { on := 1, ground := Ground.phase }, { on := 2, ground := Ground.phase }, { on := 3, ground := Ground.phase }, { on := 4, ground := Ground.phase }, { on := 5, ground := Ground.phase }, { on := 6, ground := Ground.phase }], guard := none }) rfl (fun K hK => ?_) AllReadyH.nil
          rw [if_pos (by rfl)]
          refine wp_store_row 31 _ _ rfl g6 (num (dgt s)).toArray rfl rfl 31 _ hbz71 (num_size _) (num_same _ _) (all_oneCell_toArray (num_one _)) ?_
          refine hK.out _ _ (hHeld.grown (grown_setRow _ _ _) (fun e => HN6'.out.2.1 (Option.some.inj e))) (fun hHeld => ?_)
          clear hK K
          dsimp only [Act.put]
          refine wpAnyH_done (by kernel_rfl) ?_ _
          have ho9 : Blk (wz69.setRow g6 (num (dgt s)).toArray) g6 31 (num (dgt s)) := Blk.setRow hbz71
          have hr9 := Blk.grown hbz72 (grown_setRow wz69 g6 (num (dgt s)).toArray) (fun e => HN6'.out.2.2.1 (Option.some.inj e))
          have hw9 : w.grownBy (wz69.setRow g6 (num (dgt s)).toArray) none := World.grownBy.andThen hwz73 (grown_setRow _ _ _) (by rintro _ ⟨⟩; exact .inl HN6'.out.2.2.2)
          obtain ⟨wy, hwy⟩ : ∃ wy, wy = wz69.setRow g6 (num (dgt s)).toArray := ⟨_, rfl⟩
          rw [← hwy] at ho9 hr9 hw9 ⊢
          clear hwy
          have HOz := Lib.hid ho9
          have HRz := Lib.hid hr9
          have HGz := Lib.hid hw9
          obtain ⟨d, hd⟩ : ∃ d, d = dgt s 0 := ⟨_, rfl⟩
          have hd1 := dgt_lt s 0
          have hds : d % 2 = s % 2 := by rw [hd]; simp [dgt]
          have c9 := HOz.out.get 0 _ (num_get (dgt s) 0 (by omega))
          rw [← hd] at c9 hd1
          obtain ⟨b, hb⟩ : ∃ b, b = d % 2 := ⟨_, rfl⟩
          have d1 : (d : Int).tmod 2 = (b : Int) := by rw [Int.tmod_eq_emod_of_nonneg (by omega)]; omega
          have d2 : (d : Int) % 2 = (b : Int) := by omega
          have d3 := i64_keep b (by omega)
          have HBS : Hid (b = s % 2) := Lib.hid (by omega)
          clear hd hds
          by_cases hodd : b = 1
          · have f1 : (b : Int) = 1 := by omega
            have HRC : Hid (rtC a e4 e8 = ng s) := Lib.hid (by unfold rtC; rw [HRB.out, if_pos (by rw [← HBS.out]; exact hodd)])
            subst hodd
            clear hb
            go_wp2_with (first
              | (with_reducible refine wpList_load_mid rfl 31 _ rfl g6 0 rfl (num (dgt s)) _ (range_blk HOz.out) Tryd.underlying31 rfl (num_size' _) ?_)
              | (go_at_call 31
                 with_reducible refine (neg_any _ s HSL.out).mono ?_
                 rintro _ wn ⟨rfl, hgv⟩
                 have HOn := Lib.hid (HOz.out.grown hgv (by simp))
                 have HRn := Lib.hid (HRz.out.grown hgv (by simp))
                 have HGn := Lib.hid (World.grownBy.trans HGz.out hgv)
                 clear hgv)
              | (refine wpList_store_row rfl 31 _ _ rfl g6 (num (dgt (ng s))).toArray rfl rfl 31 _ HOn.out (num_size _) (num_same _ _) (all_oneCell_toArray (num_one _)) ?_
                 obtain ⟨wo, hwo⟩ : ∃ w', w' = wn.setRow g6 (num (dgt (ng s))).toArray := ⟨_, rfl⟩
                 have hgo : wn.grownBy wo (some g6) := by rw [hwo]; exact grown_setRow _ _ _
                 have hlo : Blk wo g6 31 (num (dgt (ng s))) := by rw [hwo]; exact Blk.setRow HOn.out
                 rw [← hwo]
                 have HOo := Lib.hid hlo
                 have HRo := Lib.hid (HRn.out.grown hgo (fun e => HN6'.out.2.2.1 (Option.some.inj e)))
                 have HGo : Hid (w.grownBy wo none) := Lib.hid (World.grownBy.andThen HGn.out hgo (by rintro _ ⟨⟩; exact .inl HN6'.out.2.2.2))
                 clear hwo hgo hlo)
              | (with_reducible refine wpList_load_mid rfl 31 _ rfl g6 0 rfl (num (dgt (ng s))) _ (range_blk HOo.out) Tryd.underlying31 rfl (num_size' _) ?_)
              | (refine wpList_store_row rfl 31 _ _ rfl gr (num (dgt (ng s))).toArray rfl rfl 31 _ HRo.out (num_size _) (num_same _ _) (all_oneCell_toArray (num_one _)) ?_)
              | fail)
            exact bodyPost_ret (results_root rfl _ _ gr (dgt (ng s)) rfl (Blk.setRow HRo.out)) rfl ⟨World.grownBy.andThen HGo.out (grown_setRow _ _ _) (by rintro _ ⟨⟩; exact .inl HWR.out), .inr ⟨HNO.out, by rw [HRC.out]; rfl⟩⟩
          · have f1 : ¬ (b : Int) = 1 := by omega
            have HRC : Hid (rtC a e4 e8 = s) := Lib.hid (by unfold rtC; rw [HRB.out, if_neg (by rw [← HBS.out]; exact hodd)])
            have hb0 : b = 0 := by omega
            subst hb0
            clear hb
            go_wp2_with (first
              | (with_reducible refine wpList_load_mid rfl 31 _ rfl g6 0 rfl (num (dgt s)) _ (range_blk HOz.out) Tryd.underlying31 rfl (num_size' _) ?_)
              | (refine wpList_store_row rfl 31 _ _ rfl gr (num (dgt s)).toArray rfl rfl 31 _ HRz.out (num_size _) (num_same _ _) (all_oneCell_toArray (num_one _)) ?_)
              | fail)
            exact bodyPost_ret (results_root rfl _ _ gr (dgt s) rfl (Blk.setRow HRz.out)) rfl ⟨World.grownBy.andThen HGz.out (grown_setRow _ _ _) (by rintro _ ⟨⟩; exact .inl HWR.out), .inr ⟨HNO.out, by rw [HRC.out]; rfl⟩⟩
        · rw [if_pos (by rfl)]
          go_simp
          with_reducible refine (HS2.out _).mono ?_
          rintro _ wz74 ⟨rfl, hgz75⟩
          have hbz76 := Blk.grown hob hgz75 (by simp)
          have hbz77 := Blk.grown hrb hgz75 (by simp)
          have hwz78 := World.grownBy.trans hwb hgz75
          refine hK.out _ _ (hHeld.grown hgz75 (by simp)) (fun hHeld => ?_)
          clear hK K
          try simp only [Act.put, List.setIfInBounds_toArray, List.set_cons_zero, List.set_cons_succ]
          refine wpAnyH_ready (rs := [0, 3]) (by kernel_rfl) (by simp) ?_
          refine AllReadyH.cons (o := { dst := some 38, op := Op.load 31 (Operand.tmp 6), type := 31, pos := "ref.go:163", after := #[], guard := none }) rfl (fun K hK => ?_) (AllReadyH.cons (o := { dst := some 41, op := Op.call { callee := Callee.value (Operand.func 28), args := #[Operand.tmp 40], argTypes := #[31] }, type := 31, pos := "ref.go:163", after := #[{ on := 2, ground := Ground.data }, { on := 1, ground := Ground.chain }], guard := none }) rfl (fun K hK => ?_) AllReadyH.nil)
          · rw [if_pos (by rfl)]
            refine wp_load_mid 31 _ rfl g6 0 rfl (num (dgt r)) _ (range_blk hbz76) Tryd.underlying31 rfl (num_size' _) ?_
            refine hK.out _ _ hHeld (fun hHeld => ?_)
            clear hK K
            try simp only [Act.put, List.setIfInBounds_toArray, List.set_cons_zero, List.set_cons_succ]
            refine wpAnyH_ready (rs := [3]) (by kernel_rfl) (by simp) ?_
            refine AllReadyH.cons (o := { dst := some 41, op := Op.call { callee := Callee.value (Operand.func 28), args := #[Operand.tmp 40], argTypes := #[31] }, type := 31, pos := "ref.go:163", after := #[{ on := 2, ground := Ground.data }, { on := 1, ground := Ground.chain }], guard := none }) rfl (fun K hK => ?_) AllReadyH.nil
            rw [if_pos (by rfl)]
            go_simp
            with_reducible refine (HH.out _).mono ?_
            rintro _ wz79 ⟨rfl, hgz80⟩
            have hbz81 := Blk.grown hbz76 hgz80 (by simp)
            have hbz82 := Blk.grown hbz77 hgz80 (by simp)
            have hwz83 := World.grownBy.trans hwz78 hgz80
            refine hK.out _ _ (hHeld.grown hgz80 (by simp)) (fun hHeld => ?_)
            clear hK K
            try simp only [Act.put, List.setIfInBounds_toArray, List.set_cons_zero, List.set_cons_succ]
            refine wpAnyH_ready (rs := [4]) (by kernel_rfl) (by simp) ?_
            refine AllReadyH.cons (o := { dst := some 42, op := Op.call { callee := Callee.value (Operand.func 28), args := #[Operand.tmp 41], argTypes := #[31] }, type := 31, pos := "ref.go:163", after := #[{ on := 3, ground := Ground.data }, { on := 3, ground := Ground.chain }], guard := none }) rfl (fun K hK => ?_) AllReadyH.nil
            rw [if_pos (by rfl)]
            go_simp
            with_reducible refine (HH2.out _).mono ?_
            rintro _ wz84 ⟨rfl, hgz85⟩
            have hbz86 := Blk.grown hbz81 hgz85 (by simp)
            have hbz87 := Blk.grown hbz82 hgz85 (by simp)
            have hwz88 := World.grownBy.trans hwz83 hgz85
            refine hK.out _ _ (hHeld.grown hgz85 (by simp)) (fun hHeld => ?_)
            clear hK K
            try simp only [Act.put, List.setIfInBounds_toArray, List.set_cons_zero, List.set_cons_succ]
            refine wpAnyH_ready (rs := [5]) (by kernel_rfl) (by simp) ?_
            refine AllReadyH.cons (o := { dst := some 43, op := Op.call { callee := Callee.value (Operand.func 24), args := #[Operand.tmp 39, Operand.tmp 42], argTypes := #[31, 31] }, type := 31, pos := "ref.go:163", after := #[{ on := 1, ground := Ground.data }, { on := 4, ground := Ground.data }, { on := 4, ground := Ground.chain }], guard := none }) rfl (fun K hK => ?_) AllReadyH.nil
            rw [if_pos (by rfl)]
            go_simp
            with_reducible refine (power_any _ (2 % fq) e4 (lt16 (Nat.mod_lt _ fq_pos)) HE4.out).mono ?_
            rintro _ wz89 ⟨rfl, hgz90⟩
            have hbz91 := Blk.grown hbz86 hgz90 (by simp)
            have hbz92 := Blk.grown hbz87 hgz90 (by simp)
            have hwz93 := World.grownBy.trans hwz88 hgz90
            refine hK.out _ _ (hHeld.grown hgz90 (by simp)) (fun hHeld => ?_)
            clear hK K
            try simp only [Act.put, List.setIfInBounds_toArray, List.set_cons_zero, List.set_cons_succ]
            refine wpAnyH_ready (rs := [6]) (by kernel_rfl) (by simp) ?_
            refine AllReadyH.cons (o := { dst := some 44, op := Op.call { callee := Callee.value (Operand.func 30), args := #[Operand.tmp 38, Operand.tmp 43], argTypes := #[31, 31] }, type := 31, pos := "ref.go:163", after := #[{ on := 0, ground := Ground.data }, { on := 5, ground := Ground.data }, { on := 5, ground := Ground.chain }], guard := none }) rfl (fun K hK => ?_) AllReadyH.nil
            rw [if_pos (by rfl)]
            go_simp
            with_reducible refine (mul_any _ r ((2 % fq) ^ e4 % fq) HRL.out (lt16 (Nat.mod_lt _ fq_pos))).mono ?_
            rw [← HS.out]
            rintro _ wz94 ⟨rfl, hgz95⟩
            have hbz96 := Blk.grown hbz91 hgz95 (by simp)
            have hbz97 := Blk.grown hbz92 hgz95 (by simp)
            have hwz98 := World.grownBy.trans hwz93 hgz95
            refine hK.out _ _ (hHeld.grown hgz95 (by simp)) (fun hHeld => ?_)
            clear hK K
            try simp only [Act.put, List.setIfInBounds_toArray, List.set_cons_zero, List.set_cons_succ]
            refine wpAnyH_ready (rs := [7]) (by kernel_rfl) (by simp) ?_
            refine AllReadyH.cons (o := { dst := none, op := Op.store 31 (Operand.tmp 6) (Operand.tmp 44), type := 0, pos := "ref.go:163", after := #[{ on := 6, ground := Ground.data }, { on := 6, ground := Ground.chain }, { on := 0, ground := Ground.phase }, { on := 1, ground := Ground.phase }, { on := 2, ground := Ground.phase }, { on := 3, ground := Ground.phase }, { on := 4, ground := Ground.phase }, { on := 5, ground := Ground.phase }, { on := 6, ground := Ground.phase }], guard := none }) rfl (fun K hK => ?_) AllReadyH.nil
            rw [if_pos (by rfl)]
            refine wp_store_row 31 _ _ rfl g6 (num (dgt s)).toArray rfl rfl 31 _ hbz96 (num_size _) (num_same _ _) (all_oneCell_toArray (num_one _)) ?_
            refine hK.out _ _ (hHeld.grown (grown_setRow _ _ _) (fun e => HN6'.out.2.1 (Option.some.inj e))) (fun hHeld => ?_)
            clear hK K
            dsimp only [Act.put]
            refine wpAnyH_done (by kernel_rfl) ?_ _
            have ho9 : Blk (wz94.setRow g6 (num (dgt s)).toArray) g6 31 (num (dgt s)) := Blk.setRow hbz96
            have hr9 := Blk.grown hbz97 (grown_setRow wz94 g6 (num (dgt s)).toArray) (fun e => HN6'.out.2.2.1 (Option.some.inj e))
            have hw9 : w.grownBy (wz94.setRow g6 (num (dgt s)).toArray) none := World.grownBy.andThen hwz98 (grown_setRow _ _ _) (by rintro _ ⟨⟩; exact .inl HN6'.out.2.2.2)
            obtain ⟨wy, hwy⟩ : ∃ wy, wy = wz94.setRow g6 (num (dgt s)).toArray := ⟨_, rfl⟩
            rw [← hwy] at ho9 hr9 hw9 ⊢
            clear hwy
            have HOz := Lib.hid ho9
            have HRz := Lib.hid hr9
            have HGz := Lib.hid hw9
            obtain ⟨d, hd⟩ : ∃ d, d = dgt s 0 := ⟨_, rfl⟩
            have hd1 := dgt_lt s 0
            have hds : d % 2 = s % 2 := by rw [hd]; simp [dgt]
            have c9 := HOz.out.get 0 _ (num_get (dgt s) 0 (by omega))
            rw [← hd] at c9 hd1
            obtain ⟨b, hb⟩ : ∃ b, b = d % 2 := ⟨_, rfl⟩
            have d1 : (d : Int).tmod 2 = (b : Int) := by rw [Int.tmod_eq_emod_of_nonneg (by omega)]; omega
            have d2 : (d : Int) % 2 = (b : Int) := by omega
            have d3 := i64_keep b (by omega)
            have HBS : Hid (b = s % 2) := Lib.hid (by omega)
            clear hd hds
            by_cases hodd : b = 1
            · have f1 : (b : Int) = 1 := by omega
              have HRC : Hid (rtC a e4 e8 = ng s) := Lib.hid (by unfold rtC; rw [HRB.out, if_pos (by rw [← HBS.out]; exact hodd)])
              subst hodd
              clear hb
              go_wp2_with (first
                | (with_reducible refine wpList_load_mid rfl 31 _ rfl g6 0 rfl (num (dgt s)) _ (range_blk HOz.out) Tryd.underlying31 rfl (num_size' _) ?_)
                | (go_at_call 31
                   with_reducible refine (neg_any _ s HSL.out).mono ?_
                   rintro _ wn ⟨rfl, hgv⟩
                   have HOn := Lib.hid (HOz.out.grown hgv (by simp))
                   have HRn := Lib.hid (HRz.out.grown hgv (by simp))
                   have HGn := Lib.hid (World.grownBy.trans HGz.out hgv)
                   clear hgv)
                | (refine wpList_store_row rfl 31 _ _ rfl g6 (num (dgt (ng s))).toArray rfl rfl 31 _ HOn.out (num_size _) (num_same _ _) (all_oneCell_toArray (num_one _)) ?_
                   obtain ⟨wo, hwo⟩ : ∃ w', w' = wn.setRow g6 (num (dgt (ng s))).toArray := ⟨_, rfl⟩
                   have hgo : wn.grownBy wo (some g6) := by rw [hwo]; exact grown_setRow _ _ _
                   have hlo : Blk wo g6 31 (num (dgt (ng s))) := by rw [hwo]; exact Blk.setRow HOn.out
                   rw [← hwo]
                   have HOo := Lib.hid hlo
                   have HRo := Lib.hid (HRn.out.grown hgo (fun e => HN6'.out.2.2.1 (Option.some.inj e)))
                   have HGo : Hid (w.grownBy wo none) := Lib.hid (World.grownBy.andThen HGn.out hgo (by rintro _ ⟨⟩; exact .inl HN6'.out.2.2.2))
                   clear hwo hgo hlo)
                | (with_reducible refine wpList_load_mid rfl 31 _ rfl g6 0 rfl (num (dgt (ng s))) _ (range_blk HOo.out) Tryd.underlying31 rfl (num_size' _) ?_)
                | (refine wpList_store_row rfl 31 _ _ rfl gr (num (dgt (ng s))).toArray rfl rfl 31 _ HRo.out (num_size _) (num_same _ _) (all_oneCell_toArray (num_one _)) ?_)
                | fail)
              exact bodyPost_ret (results_root rfl _ _ gr (dgt (ng s)) rfl (Blk.setRow HRo.out)) rfl ⟨World.grownBy.andThen HGo.out (grown_setRow _ _ _) (by rintro _ ⟨⟩; exact .inl HWR.out), .inr ⟨HNO.out, by rw [HRC.out]; rfl⟩⟩
            · have f1 : ¬ (b : Int) = 1 := by omega
              have HRC : Hid (rtC a e4 e8 = s) := Lib.hid (by unfold rtC; rw [HRB.out, if_neg (by rw [← HBS.out]; exact hodd)])
              have hb0 : b = 0 := by omega
              subst hb0
              clear hb
              go_wp2_with (first
                | (with_reducible refine wpList_load_mid rfl 31 _ rfl g6 0 rfl (num (dgt s)) _ (range_blk HOz.out) Tryd.underlying31 rfl (num_size' _) ?_)
                | (refine wpList_store_row rfl 31 _ _ rfl gr (num (dgt s)).toArray rfl rfl 31 _ HRz.out (num_size _) (num_same _ _) (all_oneCell_toArray (num_one _)) ?_)
                | fail)
              exact bodyPost_ret (results_root rfl _ _ gr (dgt s) rfl (Blk.setRow HRz.out)) rfl ⟨World.grownBy.andThen HGz.out (grown_setRow _ _ _) (by rintro _ ⟨⟩; exact .inl HWR.out), .inr ⟨HNO.out, by rw [HRC.out]; rfl⟩⟩
          · rw [if_pos (by rfl)]
            go_simp
            with_reducible refine (HH.out _).mono ?_
            rintro _ wz99 ⟨rfl, hgz100⟩
            have hbz101 := Blk.grown hbz76 hgz100 (by simp)
            have hbz102 := Blk.grown hbz77 hgz100 (by simp)
            have hwz103 := World.grownBy.trans hwz78 hgz100
            refine hK.out _ _ (hHeld.grown hgz100 (by simp)) (fun hHeld => ?_)
            clear hK K
            try simp only [Act.put, List.setIfInBounds_toArray, List.set_cons_zero, List.set_cons_succ]
            refine wpAnyH_ready (rs := [0, 4]) (by kernel_rfl) (by simp) ?_
            refine AllReadyH.cons (o := { dst := some 38, op := Op.load 31 (Operand.tmp 6), type := 31, pos := "ref.go:163", after := #[], guard := none }) rfl (fun K hK => ?_) (AllReadyH.cons (o := { dst := some 42, op := Op.call { callee := Callee.value (Operand.func 28), args := #[Operand.tmp 41], argTypes := #[31] }, type := 31, pos := "ref.go:163", after := #[{ on := 3, ground := Ground.data }, { on := 3, ground := Ground.chain }], guard := none }) rfl (fun K hK => ?_) AllReadyH.nil)
            · rw [if_pos (by rfl)]
              refine wp_load_mid 31 _ rfl g6 0 rfl (num (dgt r)) _ (range_blk hbz101) Tryd.underlying31 rfl (num_size' _) ?_
              refine hK.out _ _ hHeld (fun hHeld => ?_)
              clear hK K
              try simp only [Act.put, List.setIfInBounds_toArray, List.set_cons_zero, List.set_cons_succ]
              refine wpAnyH_ready (rs := [4]) (by kernel_rfl) (by simp) ?_
              refine AllReadyH.cons (o := { dst := some 42, op := Op.call { callee := Callee.value (Operand.func 28), args := #[Operand.tmp 41], argTypes := #[31] }, type := 31, pos := "ref.go:163", after := #[{ on := 3, ground := Ground.data }, { on := 3, ground := Ground.chain }], guard := none }) rfl (fun K hK => ?_) AllReadyH.nil
              rw [if_pos (by rfl)]
              go_simp
              with_reducible refine (HH2.out _).mono ?_
              rintro _ wz104 ⟨rfl, hgz105⟩
              have hbz106 := Blk.grown hbz101 hgz105 (by simp)
              have hbz107 := Blk.grown hbz102 hgz105 (by simp)
              have hwz108 := World.grownBy.trans hwz103 hgz105
              refine hK.out _ _ (hHeld.grown hgz105 (by simp)) (fun hHeld => ?_)
              clear hK K
              try simp only [Act.put, List.setIfInBounds_toArray, List.set_cons_zero, List.set_cons_succ]
              refine wpAnyH_ready (rs := [5]) (by kernel_rfl) (by simp) ?_
              refine AllReadyH.cons (o := { dst := some 43, op := Op.call { callee := Callee.value (Operand.func 24), args := #[Operand.tmp 39, Operand.tmp 42], argTypes := #[31, 31] }, type := 31, pos := "ref.go:163", after := #[{ on := 1, ground := Ground.data }, { on := 4, ground := Ground.data }, { on := 4, ground := Ground.chain }], guard := none }) rfl (fun K hK => ?_) AllReadyH.nil
              rw [if_pos (by rfl)]
              go_simp
              with_reducible refine (power_any _ (2 % fq) e4 (lt16 (Nat.mod_lt _ fq_pos)) HE4.out).mono ?_
              rintro _ wz109 ⟨rfl, hgz110⟩
              have hbz111 := Blk.grown hbz106 hgz110 (by simp)
              have hbz112 := Blk.grown hbz107 hgz110 (by simp)
              have hwz113 := World.grownBy.trans hwz108 hgz110
              refine hK.out _ _ (hHeld.grown hgz110 (by simp)) (fun hHeld => ?_)
              clear hK K
              try simp only [Act.put, List.setIfInBounds_toArray, List.set_cons_zero, List.set_cons_succ]
              refine wpAnyH_ready (rs := [6]) (by kernel_rfl) (by simp) ?_
              refine AllReadyH.cons (o := { dst := some 44, op := Op.call { callee := Callee.value (Operand.func 30), args := #[Operand.tmp 38, Operand.tmp 43], argTypes := #[31, 31] }, type := 31, pos := "ref.go:163", after := #[{ on := 0, ground := Ground.data }, { on := 5, ground := Ground.data }, { on := 5, ground := Ground.chain }], guard := none }) rfl (fun K hK => ?_) AllReadyH.nil
              rw [if_pos (by rfl)]
              go_simp
              with_reducible refine (mul_any _ r ((2 % fq) ^ e4 % fq) HRL.out (lt16 (Nat.mod_lt _ fq_pos))).mono ?_
              rw [← HS.out]
              rintro _ wz114 ⟨rfl, hgz115⟩
              have hbz116 := Blk.grown hbz111 hgz115 (by simp)
              have hbz117 := Blk.grown hbz112 hgz115 (by simp)
              have hwz118 := World.grownBy.trans hwz113 hgz115
              refine hK.out _ _ (hHeld.grown hgz115 (by simp)) (fun hHeld => ?_)
              clear hK K
              try simp only [Act.put, List.setIfInBounds_toArray, List.set_cons_zero, List.set_cons_succ]
              refine wpAnyH_ready (rs := [7]) (by kernel_rfl) (by simp) ?_
              refine AllReadyH.cons (o := { dst := none, op := Op.store 31 (Operand.tmp 6) (Operand.tmp 44), type := 0, pos := "ref.go:163", after := #[{ on := 6, ground := Ground.data }, { on := 6, ground := Ground.chain }, { on := 0, ground := Ground.phase }, { on := 1, ground := Ground.phase }, { on := 2, ground := Ground.phase }, { on := 3, ground := Ground.phase }, { on := 4, ground := Ground.phase }, { on := 5, ground := Ground.phase }, { on := 6, ground := Ground.phase }], guard := none }) rfl (fun K hK => ?_) AllReadyH.nil
              rw [if_pos (by rfl)]
              refine wp_store_row 31 _ _ rfl g6 (num (dgt s)).toArray rfl rfl 31 _ hbz116 (num_size _) (num_same _ _) (all_oneCell_toArray (num_one _)) ?_
              refine hK.out _ _ (hHeld.grown (grown_setRow _ _ _) (fun e => HN6'.out.2.1 (Option.some.inj e))) (fun hHeld => ?_)
              clear hK K
              dsimp only [Act.put]
              refine wpAnyH_done (by kernel_rfl) ?_ _
              have ho9 : Blk (wz114.setRow g6 (num (dgt s)).toArray) g6 31 (num (dgt s)) := Blk.setRow hbz116
              have hr9 := Blk.grown hbz117 (grown_setRow wz114 g6 (num (dgt s)).toArray) (fun e => HN6'.out.2.2.1 (Option.some.inj e))
              have hw9 : w.grownBy (wz114.setRow g6 (num (dgt s)).toArray) none := World.grownBy.andThen hwz118 (grown_setRow _ _ _) (by rintro _ ⟨⟩; exact .inl HN6'.out.2.2.2)
              obtain ⟨wy, hwy⟩ : ∃ wy, wy = wz114.setRow g6 (num (dgt s)).toArray := ⟨_, rfl⟩
              rw [← hwy] at ho9 hr9 hw9 ⊢
              clear hwy
              have HOz := Lib.hid ho9
              have HRz := Lib.hid hr9
              have HGz := Lib.hid hw9
              obtain ⟨d, hd⟩ : ∃ d, d = dgt s 0 := ⟨_, rfl⟩
              have hd1 := dgt_lt s 0
              have hds : d % 2 = s % 2 := by rw [hd]; simp [dgt]
              have c9 := HOz.out.get 0 _ (num_get (dgt s) 0 (by omega))
              rw [← hd] at c9 hd1
              obtain ⟨b, hb⟩ : ∃ b, b = d % 2 := ⟨_, rfl⟩
              have d1 : (d : Int).tmod 2 = (b : Int) := by rw [Int.tmod_eq_emod_of_nonneg (by omega)]; omega
              have d2 : (d : Int) % 2 = (b : Int) := by omega
              have d3 := i64_keep b (by omega)
              have HBS : Hid (b = s % 2) := Lib.hid (by omega)
              clear hd hds
              by_cases hodd : b = 1
              · have f1 : (b : Int) = 1 := by omega
                have HRC : Hid (rtC a e4 e8 = ng s) := Lib.hid (by unfold rtC; rw [HRB.out, if_pos (by rw [← HBS.out]; exact hodd)])
                subst hodd
                clear hb
                go_wp2_with (first
                  | (with_reducible refine wpList_load_mid rfl 31 _ rfl g6 0 rfl (num (dgt s)) _ (range_blk HOz.out) Tryd.underlying31 rfl (num_size' _) ?_)
                  | (go_at_call 31
                     with_reducible refine (neg_any _ s HSL.out).mono ?_
                     rintro _ wn ⟨rfl, hgv⟩
                     have HOn := Lib.hid (HOz.out.grown hgv (by simp))
                     have HRn := Lib.hid (HRz.out.grown hgv (by simp))
                     have HGn := Lib.hid (World.grownBy.trans HGz.out hgv)
                     clear hgv)
                  | (refine wpList_store_row rfl 31 _ _ rfl g6 (num (dgt (ng s))).toArray rfl rfl 31 _ HOn.out (num_size _) (num_same _ _) (all_oneCell_toArray (num_one _)) ?_
                     obtain ⟨wo, hwo⟩ : ∃ w', w' = wn.setRow g6 (num (dgt (ng s))).toArray := ⟨_, rfl⟩
                     have hgo : wn.grownBy wo (some g6) := by rw [hwo]; exact grown_setRow _ _ _
                     have hlo : Blk wo g6 31 (num (dgt (ng s))) := by rw [hwo]; exact Blk.setRow HOn.out
                     rw [← hwo]
                     have HOo := Lib.hid hlo
                     have HRo := Lib.hid (HRn.out.grown hgo (fun e => HN6'.out.2.2.1 (Option.some.inj e)))
                     have HGo : Hid (w.grownBy wo none) := Lib.hid (World.grownBy.andThen HGn.out hgo (by rintro _ ⟨⟩; exact .inl HN6'.out.2.2.2))
                     clear hwo hgo hlo)
                  | (with_reducible refine wpList_load_mid rfl 31 _ rfl g6 0 rfl (num (dgt (ng s))) _ (range_blk HOo.out) Tryd.underlying31 rfl (num_size' _) ?_)
                  | (refine wpList_store_row rfl 31 _ _ rfl gr (num (dgt (ng s))).toArray rfl rfl 31 _ HRo.out (num_size _) (num_same _ _) (all_oneCell_toArray (num_one _)) ?_)
                  | fail)
                exact bodyPost_ret (results_root rfl _ _ gr (dgt (ng s)) rfl (Blk.setRow HRo.out)) rfl ⟨World.grownBy.andThen HGo.out (grown_setRow _ _ _) (by rintro _ ⟨⟩; exact .inl HWR.out), .inr ⟨HNO.out, by rw [HRC.out]; rfl⟩⟩
              · have f1 : ¬ (b : Int) = 1 := by omega
                have HRC : Hid (rtC a e4 e8 = s) := Lib.hid (by unfold rtC; rw [HRB.out, if_neg (by rw [← HBS.out]; exact hodd)])
                have hb0 : b = 0 := by omega
                subst hb0
                clear hb
                go_wp2_with (first
                  | (with_reducible refine wpList_load_mid rfl 31 _ rfl g6 0 rfl (num (dgt s)) _ (range_blk HOz.out) Tryd.underlying31 rfl (num_size' _) ?_)
                  | (refine wpList_store_row rfl 31 _ _ rfl gr (num (dgt s)).toArray rfl rfl 31 _ HRz.out (num_size _) (num_same _ _) (all_oneCell_toArray (num_one _)) ?_)
                  | fail)
                exact bodyPost_ret (results_root rfl _ _ gr (dgt s) rfl (Blk.setRow HRz.out)) rfl ⟨World.grownBy.andThen HGz.out (grown_setRow _ _ _) (by rintro _ ⟨⟩; exact .inl HWR.out), .inr ⟨HNO.out, by rw [HRC.out]; rfl⟩⟩
            · rw [if_pos (by rfl)]
              go_simp
              with_reducible refine (HH2.out _).mono ?_
              rintro _ wz119 ⟨rfl, hgz120⟩
              have hbz121 := Blk.grown hbz101 hgz120 (by simp)
              have hbz122 := Blk.grown hbz102 hgz120 (by simp)
              have hwz123 := World.grownBy.trans hwz103 hgz120
              refine hK.out _ _ (hHeld.grown hgz120 (by simp)) (fun hHeld => ?_)
              clear hK K
              try simp only [Act.put, List.setIfInBounds_toArray, List.set_cons_zero, List.set_cons_succ]
              refine wpAnyH_ready (rs := [0, 5]) (by kernel_rfl) (by simp) ?_
              refine AllReadyH.cons (o := { dst := some 38, op := Op.load 31 (Operand.tmp 6), type := 31, pos := "ref.go:163", after := #[], guard := none }) rfl (fun K hK => ?_) (AllReadyH.cons (o := { dst := some 43, op := Op.call { callee := Callee.value (Operand.func 24), args := #[Operand.tmp 39, Operand.tmp 42], argTypes := #[31, 31] }, type := 31, pos := "ref.go:163", after := #[{ on := 1, ground := Ground.data }, { on := 4, ground := Ground.data }, { on := 4, ground := Ground.chain }], guard := none }) rfl (fun K hK => ?_) AllReadyH.nil)
              · rw [if_pos (by rfl)]
                refine wp_load_mid 31 _ rfl g6 0 rfl (num (dgt r)) _ (range_blk hbz121) Tryd.underlying31 rfl (num_size' _) ?_
                refine hK.out _ _ hHeld (fun hHeld => ?_)
                clear hK K
                try simp only [Act.put, List.setIfInBounds_toArray, List.set_cons_zero, List.set_cons_succ]
                refine wpAnyH_ready (rs := [5]) (by kernel_rfl) (by simp) ?_
                refine AllReadyH.cons (o := { dst := some 43, op := Op.call { callee := Callee.value (Operand.func 24), args := #[Operand.tmp 39, Operand.tmp 42], argTypes := #[31, 31] }, type := 31, pos := "ref.go:163", after := #[{ on := 1, ground := Ground.data }, { on := 4, ground := Ground.data }, { on := 4, ground := Ground.chain }], guard := none }) rfl (fun K hK => ?_) AllReadyH.nil
                rw [if_pos (by rfl)]
                go_simp
                with_reducible refine (power_any _ (2 % fq) e4 (lt16 (Nat.mod_lt _ fq_pos)) HE4.out).mono ?_
                rintro _ wz124 ⟨rfl, hgz125⟩
                have hbz126 := Blk.grown hbz121 hgz125 (by simp)
                have hbz127 := Blk.grown hbz122 hgz125 (by simp)
                have hwz128 := World.grownBy.trans hwz123 hgz125
                refine hK.out _ _ (hHeld.grown hgz125 (by simp)) (fun hHeld => ?_)
                clear hK K
                try simp only [Act.put, List.setIfInBounds_toArray, List.set_cons_zero, List.set_cons_succ]
                refine wpAnyH_ready (rs := [6]) (by kernel_rfl) (by simp) ?_
                refine AllReadyH.cons (o := { dst := some 44, op := Op.call { callee := Callee.value (Operand.func 30), args := #[Operand.tmp 38, Operand.tmp 43], argTypes := #[31, 31] }, type := 31, pos := "ref.go:163", after := #[{ on := 0, ground := Ground.data }, { on := 5, ground := Ground.data }, { on := 5, ground := Ground.chain }], guard := none }) rfl (fun K hK => ?_) AllReadyH.nil
                rw [if_pos (by rfl)]
                go_simp
                with_reducible refine (mul_any _ r ((2 % fq) ^ e4 % fq) HRL.out (lt16 (Nat.mod_lt _ fq_pos))).mono ?_
                rw [← HS.out]
                rintro _ wz129 ⟨rfl, hgz130⟩
                have hbz131 := Blk.grown hbz126 hgz130 (by simp)
                have hbz132 := Blk.grown hbz127 hgz130 (by simp)
                have hwz133 := World.grownBy.trans hwz128 hgz130
                refine hK.out _ _ (hHeld.grown hgz130 (by simp)) (fun hHeld => ?_)
                clear hK K
                try simp only [Act.put, List.setIfInBounds_toArray, List.set_cons_zero, List.set_cons_succ]
                refine wpAnyH_ready (rs := [7]) (by kernel_rfl) (by simp) ?_
                refine AllReadyH.cons (o := { dst := none, op := Op.store 31 (Operand.tmp 6) (Operand.tmp 44), type := 0, pos := "ref.go:163", after := #[{ on := 6, ground := Ground.data }, { on := 6, ground := Ground.chain }, { on := 0, ground := Ground.phase }, { on := 1, ground := Ground.phase }, { on := 2, ground := Ground.phase }, { on := 3, ground := Ground.phase }, { on := 4, ground := Ground.phase }, { on := 5, ground := Ground.phase }, { on := 6, ground := Ground.phase }], guard := none }) rfl (fun K hK => ?_) AllReadyH.nil
                rw [if_pos (by rfl)]
                refine wp_store_row 31 _ _ rfl g6 (num (dgt s)).toArray rfl rfl 31 _ hbz131 (num_size _) (num_same _ _) (all_oneCell_toArray (num_one _)) ?_
                refine hK.out _ _ (hHeld.grown (grown_setRow _ _ _) (fun e => HN6'.out.2.1 (Option.some.inj e))) (fun hHeld => ?_)
                clear hK K
                dsimp only [Act.put]
                refine wpAnyH_done (by kernel_rfl) ?_ _
                have ho9 : Blk (wz129.setRow g6 (num (dgt s)).toArray) g6 31 (num (dgt s)) := Blk.setRow hbz131
                have hr9 := Blk.grown hbz132 (grown_setRow wz129 g6 (num (dgt s)).toArray) (fun e => HN6'.out.2.2.1 (Option.some.inj e))
                have hw9 : w.grownBy (wz129.setRow g6 (num (dgt s)).toArray) none := World.grownBy.andThen hwz133 (grown_setRow _ _ _) (by rintro _ ⟨⟩; exact .inl HN6'.out.2.2.2)
                obtain ⟨wy, hwy⟩ : ∃ wy, wy = wz129.setRow g6 (num (dgt s)).toArray := ⟨_, rfl⟩
                rw [← hwy] at ho9 hr9 hw9 ⊢
                clear hwy
                have HOz := Lib.hid ho9
                have HRz := Lib.hid hr9
                have HGz := Lib.hid hw9
                obtain ⟨d, hd⟩ : ∃ d, d = dgt s 0 := ⟨_, rfl⟩
                have hd1 := dgt_lt s 0
                have hds : d % 2 = s % 2 := by rw [hd]; simp [dgt]
                have c9 := HOz.out.get 0 _ (num_get (dgt s) 0 (by omega))
                rw [← hd] at c9 hd1
                obtain ⟨b, hb⟩ : ∃ b, b = d % 2 := ⟨_, rfl⟩
                have d1 : (d : Int).tmod 2 = (b : Int) := by rw [Int.tmod_eq_emod_of_nonneg (by omega)]; omega
                have d2 : (d : Int) % 2 = (b : Int) := by omega
                have d3 := i64_keep b (by omega)
                have HBS : Hid (b = s % 2) := Lib.hid (by omega)
                clear hd hds
                by_cases hodd : b = 1
                · have f1 : (b : Int) = 1 := by omega
                  have HRC : Hid (rtC a e4 e8 = ng s) := Lib.hid (by unfold rtC; rw [HRB.out, if_pos (by rw [← HBS.out]; exact hodd)])
                  subst hodd
                  clear hb
                  go_wp2_with (first
                    | (with_reducible refine wpList_load_mid rfl 31 _ rfl g6 0 rfl (num (dgt s)) _ (range_blk HOz.out) Tryd.underlying31 rfl (num_size' _) ?_)
                    | (go_at_call 31
                       with_reducible refine (neg_any _ s HSL.out).mono ?_
                       rintro _ wn ⟨rfl, hgv⟩
                       have HOn := Lib.hid (HOz.out.grown hgv (by simp))
                       have HRn := Lib.hid (HRz.out.grown hgv (by simp))
                       have HGn := Lib.hid (World.grownBy.trans HGz.out hgv)
                       clear hgv)
                    | (refine wpList_store_row rfl 31 _ _ rfl g6 (num (dgt (ng s))).toArray rfl rfl 31 _ HOn.out (num_size _) (num_same _ _) (all_oneCell_toArray (num_one _)) ?_
                       obtain ⟨wo, hwo⟩ : ∃ w', w' = wn.setRow g6 (num (dgt (ng s))).toArray := ⟨_, rfl⟩
                       have hgo : wn.grownBy wo (some g6) := by rw [hwo]; exact grown_setRow _ _ _
                       have hlo : Blk wo g6 31 (num (dgt (ng s))) := by rw [hwo]; exact Blk.setRow HOn.out
                       rw [← hwo]
                       have HOo := Lib.hid hlo
                       have HRo := Lib.hid (HRn.out.grown hgo (fun e => HN6'.out.2.2.1 (Option.some.inj e)))
                       have HGo : Hid (w.grownBy wo none) := Lib.hid (World.grownBy.andThen HGn.out hgo (by rintro _ ⟨⟩; exact .inl HN6'.out.2.2.2))
                       clear hwo hgo hlo)
                    | (with_reducible refine wpList_load_mid rfl 31 _ rfl g6 0 rfl (num (dgt (ng s))) _ (range_blk HOo.out) Tryd.underlying31 rfl (num_size' _) ?_)
                    | (refine wpList_store_row rfl 31 _ _ rfl gr (num (dgt (ng s))).toArray rfl rfl 31 _ HRo.out (num_size _) (num_same _ _) (all_oneCell_toArray (num_one _)) ?_)
                    | fail)
                  exact bodyPost_ret (results_root rfl _ _ gr (dgt (ng s)) rfl (Blk.setRow HRo.out)) rfl ⟨World.grownBy.andThen HGo.out (grown_setRow _ _ _) (by rintro _ ⟨⟩; exact .inl HWR.out), .inr ⟨HNO.out, by rw [HRC.out]; rfl⟩⟩
                · have f1 : ¬ (b : Int) = 1 := by omega
                  have HRC : Hid (rtC a e4 e8 = s) := Lib.hid (by unfold rtC; rw [HRB.out, if_neg (by rw [← HBS.out]; exact hodd)])
                  have hb0 : b = 0 := by omega
                  subst hb0
                  clear hb
                  go_wp2_with (first
                    | (with_reducible refine wpList_load_mid rfl 31 _ rfl g6 0 rfl (num (dgt s)) _ (range_blk HOz.out) Tryd.underlying31 rfl (num_size' _) ?_)
                    | (refine wpList_store_row rfl 31 _ _ rfl gr (num (dgt s)).toArray rfl rfl 31 _ HRz.out (num_size _) (num_same _ _) (all_oneCell_toArray (num_one _)) ?_)
                    | fail)
                  exact bodyPost_ret (results_root rfl _ _ gr (dgt s) rfl (Blk.setRow HRz.out)) rfl ⟨World.grownBy.andThen HGz.out (grown_setRow _ _ _) (by rintro _ ⟨⟩; exact .inl HWR.out), .inr ⟨HNO.out, by rw [HRC.out]; rfl⟩⟩
              · rw [if_pos (by rfl)]
                go_simp
                with_reducible refine (power_any _ (2 % fq) e4 (lt16 (Nat.mod_lt _ fq_pos)) HE4.out).mono ?_
                rintro _ wz134 ⟨rfl, hgz135⟩
                have hbz136 := Blk.grown hbz121 hgz135 (by simp)
                have hbz137 := Blk.grown hbz122 hgz135 (by simp)
                have hwz138 := World.grownBy.trans hwz123 hgz135
                refine hK.out _ _ (hHeld.grown hgz135 (by simp)) (fun hHeld => ?_)
                clear hK K
                try simp only [Act.put, List.setIfInBounds_toArray, List.set_cons_zero, List.set_cons_succ]
                refine wpAnyH_ready (rs := [0]) (by kernel_rfl) (by simp) ?_
                refine AllReadyH.cons (o := { dst := some 38, op := Op.load 31 (Operand.tmp 6), type := 31, pos := "ref.go:163", after := #[], guard := none }) rfl (fun K hK => ?_) AllReadyH.nil
                rw [if_pos (by rfl)]
                refine wp_load_mid 31 _ rfl g6 0 rfl (num (dgt r)) _ (range_blk hbz136) Tryd.underlying31 rfl (num_size' _) ?_
                refine hK.out _ _ hHeld (fun hHeld => ?_)
                clear hK K
                try simp only [Act.put, List.setIfInBounds_toArray, List.set_cons_zero, List.set_cons_succ]
                refine wpAnyH_ready (rs := [6]) (by kernel_rfl) (by simp) ?_
                refine AllReadyH.cons (o := { dst := some 44, op := Op.call { callee := Callee.value (Operand.func 30), args := #[Operand.tmp 38, Operand.tmp 43], argTypes := #[31, 31] }, type := 31, pos := "ref.go:163", after := #[{ on := 0, ground := Ground.data }, { on := 5, ground := Ground.data }, { on := 5, ground := Ground.chain }], guard := none }) rfl (fun K hK => ?_) AllReadyH.nil
                rw [if_pos (by rfl)]
                go_simp
                with_reducible refine (mul_any _ r ((2 % fq) ^ e4 % fq) HRL.out (lt16 (Nat.mod_lt _ fq_pos))).mono ?_
                rw [← HS.out]
                rintro _ wz139 ⟨rfl, hgz140⟩
                have hbz141 := Blk.grown hbz136 hgz140 (by simp)
                have hbz142 := Blk.grown hbz137 hgz140 (by simp)
                have hwz143 := World.grownBy.trans hwz138 hgz140
                refine hK.out _ _ (hHeld.grown hgz140 (by simp)) (fun hHeld => ?_)
                clear hK K
                try simp only [Act.put, List.setIfInBounds_toArray, List.set_cons_zero, List.set_cons_succ]
                refine wpAnyH_ready (rs := [7]) (by kernel_rfl) (by simp) ?_
                refine AllReadyH.cons (o := { dst := none, op := Op.store 31 (Operand.tmp 6) (Operand.tmp 44), type := 0, pos := "ref.go:163", after := #[{ on := 6, ground := Ground.data }, { on := 6, ground := Ground.chain }, { on := 0, ground := Ground.phase }, { on := 1, ground := Ground.phase }, { on := 2, ground := Ground.phase }, { on := 3, ground := Ground.phase }, { on := 4, ground := Ground.phase }, { on := 5, ground := Ground.phase }, { on := 6, ground := Ground.phase }], guard := none }) rfl (fun K hK => ?_) AllReadyH.nil
                rw [if_pos (by rfl)]
                refine wp_store_row 31 _ _ rfl g6 (num (dgt s)).toArray rfl rfl 31 _ hbz141 (num_size _) (num_same _ _) (all_oneCell_toArray (num_one _)) ?_
                refine hK.out _ _ (hHeld.grown (grown_setRow _ _ _) (fun e => HN6'.out.2.1 (Option.some.inj e))) (fun hHeld => ?_)
                clear hK K
                dsimp only [Act.put]
                refine wpAnyH_done (by kernel_rfl) ?_ _
                have ho9 : Blk (wz139.setRow g6 (num (dgt s)).toArray) g6 31 (num (dgt s)) := Blk.setRow hbz141
                have hr9 := Blk.grown hbz142 (grown_setRow wz139 g6 (num (dgt s)).toArray) (fun e => HN6'.out.2.2.1 (Option.some.inj e))
                have hw9 : w.grownBy (wz139.setRow g6 (num (dgt s)).toArray) none := World.grownBy.andThen hwz143 (grown_setRow _ _ _) (by rintro _ ⟨⟩; exact .inl HN6'.out.2.2.2)
                obtain ⟨wy, hwy⟩ : ∃ wy, wy = wz139.setRow g6 (num (dgt s)).toArray := ⟨_, rfl⟩
                rw [← hwy] at ho9 hr9 hw9 ⊢
                clear hwy
                have HOz := Lib.hid ho9
                have HRz := Lib.hid hr9
                have HGz := Lib.hid hw9
                obtain ⟨d, hd⟩ : ∃ d, d = dgt s 0 := ⟨_, rfl⟩
                have hd1 := dgt_lt s 0
                have hds : d % 2 = s % 2 := by rw [hd]; simp [dgt]
                have c9 := HOz.out.get 0 _ (num_get (dgt s) 0 (by omega))
                rw [← hd] at c9 hd1
                obtain ⟨b, hb⟩ : ∃ b, b = d % 2 := ⟨_, rfl⟩
                have d1 : (d : Int).tmod 2 = (b : Int) := by rw [Int.tmod_eq_emod_of_nonneg (by omega)]; omega
                have d2 : (d : Int) % 2 = (b : Int) := by omega
                have d3 := i64_keep b (by omega)
                have HBS : Hid (b = s % 2) := Lib.hid (by omega)
                clear hd hds
                by_cases hodd : b = 1
                · have f1 : (b : Int) = 1 := by omega
                  have HRC : Hid (rtC a e4 e8 = ng s) := Lib.hid (by unfold rtC; rw [HRB.out, if_pos (by rw [← HBS.out]; exact hodd)])
                  subst hodd
                  clear hb
                  go_wp2_with (first
                    | (with_reducible refine wpList_load_mid rfl 31 _ rfl g6 0 rfl (num (dgt s)) _ (range_blk HOz.out) Tryd.underlying31 rfl (num_size' _) ?_)
                    | (go_at_call 31
                       with_reducible refine (neg_any _ s HSL.out).mono ?_
                       rintro _ wn ⟨rfl, hgv⟩
                       have HOn := Lib.hid (HOz.out.grown hgv (by simp))
                       have HRn := Lib.hid (HRz.out.grown hgv (by simp))
                       have HGn := Lib.hid (World.grownBy.trans HGz.out hgv)
                       clear hgv)
                    | (refine wpList_store_row rfl 31 _ _ rfl g6 (num (dgt (ng s))).toArray rfl rfl 31 _ HOn.out (num_size _) (num_same _ _) (all_oneCell_toArray (num_one _)) ?_
                       obtain ⟨wo, hwo⟩ : ∃ w', w' = wn.setRow g6 (num (dgt (ng s))).toArray := ⟨_, rfl⟩
                       have hgo : wn.grownBy wo (some g6) := by rw [hwo]; exact grown_setRow _ _ _
                       have hlo : Blk wo g6 31 (num (dgt (ng s))) := by rw [hwo]; exact Blk.setRow HOn.out
                       rw [← hwo]
                       have HOo := Lib.hid hlo
                       have HRo := Lib.hid (HRn.out.grown hgo (fun e => HN6'.out.2.2.1 (Option.some.inj e)))
                       have HGo : Hid (w.grownBy wo none) := Lib.hid (World.grownBy.andThen HGn.out hgo (by rintro _ ⟨⟩; exact .inl HN6'.out.2.2.2))
                       clear hwo hgo hlo)
                    | (with_reducible refine wpList_load_mid rfl 31 _ rfl g6 0 rfl (num (dgt (ng s))) _ (range_blk HOo.out) Tryd.underlying31 rfl (num_size' _) ?_)
                    | (refine wpList_store_row rfl 31 _ _ rfl gr (num (dgt (ng s))).toArray rfl rfl 31 _ HRo.out (num_size _) (num_same _ _) (all_oneCell_toArray (num_one _)) ?_)
                    | fail)
                  exact bodyPost_ret (results_root rfl _ _ gr (dgt (ng s)) rfl (Blk.setRow HRo.out)) rfl ⟨World.grownBy.andThen HGo.out (grown_setRow _ _ _) (by rintro _ ⟨⟩; exact .inl HWR.out), .inr ⟨HNO.out, by rw [HRC.out]; rfl⟩⟩
                · have f1 : ¬ (b : Int) = 1 := by omega
                  have HRC : Hid (rtC a e4 e8 = s) := Lib.hid (by unfold rtC; rw [HRB.out, if_neg (by rw [← HBS.out]; exact hodd)])
                  have hb0 : b = 0 := by omega
                  subst hb0
                  clear hb
                  go_wp2_with (first
                    | (with_reducible refine wpList_load_mid rfl 31 _ rfl g6 0 rfl (num (dgt s)) _ (range_blk HOz.out) Tryd.underlying31 rfl (num_size' _) ?_)
                    | (refine wpList_store_row rfl 31 _ _ rfl gr (num (dgt s)).toArray rfl rfl 31 _ HRz.out (num_size _) (num_same _ _) (all_oneCell_toArray (num_one _)) ?_)
                    | fail)
                  exact bodyPost_ret (results_root rfl _ _ gr (dgt s) rfl (Blk.setRow HRz.out)) rfl ⟨World.grownBy.andThen HGz.out (grown_setRow _ _ _) (by rintro _ ⟨⟩; exact .inl HWR.out), .inr ⟨HNO.out, by rw [HRC.out]; rfl⟩⟩
end Go.Proofs.YtoookolekpblhaaDoor
