/- The code's Root. Conditions: the number is below p; the tables lie where the program has laid them. -/
import Derived.Test.YtoookolekpblhaaDoorNeq
namespace Go.Proofs.YtoookolekpblhaaDoor
open Go.RowKit
section
variable {w : World} {ops : Array Oper} {S : World → Prop} {o : Oper} {a : Act} {K : Act → World → Prop} {Q : Exit → Act → World → Prop}
theorem wp_new27 (ho : o.op = .alloc 27)
    (h : ∀ w', Blk w' w.heap.size 27 (cl fun _ => 0) → w.grownBy w' none → K (a.put o.dst (.pointer (some ⟨w.heap.size, 0, none⟩))) w') : o.wp Tryd.prog a w K Q := by
  have hrun := run_new27 w
  generalize (cl fun _ => 0) = z at hrun h
  unfold Oper.wp
  simp only [execOp, ho, Sem.run_bind, hrun, Result.andThen_ok, Sem.run_pure]
  exact h _ (Blk.of_alloc w _ 27) (World.grownBy_alloc w _ none)
theorem yieldsIf_neq27 (hw : Region.wanted o (yielded ops a.tmps) = true) (x y : Operand) (ho : o.op = .binOp .neq 27 x y 27) {m n : Nat} (hm : m < fq) (hn : n < fq) (hx : a.eval x = .agg (cl (lf m)).toArray) (hy : a.eval y = .agg (cl (lf n)).toArray) {c : Bool} (hc : (!decide (m = n)) = c) :
    YieldsIf Tryd.prog ops S o (.bool c) a :=
  .inl ⟨hw, fun w _ => by
    have hrun := run_neq27 w hm hn
    rw [hc] at hrun
    unfold execOp
    simp only [ho, hx, hy, hrun, run_eqGuard_agg _ _ _ _ _ _ _ guard27, Sem.run_bind, Sem.run_pure, Result.andThen_ok]⟩
end
theorem results_root5 {fn : Func} {p t : Tmp} (h : fn.results = #[.cell p 27, .tmp t]) (tmps : Array Value) (w : World) (g : Nat) (f : Nat → Int) (hp : tmps.getD p undef = .pointer (some ⟨g, 0, none⟩)) (hk : Blk w g 27 (cl f)) :
    (results fn tmps).run Tryd.prog w = .ok (.tuple #[.agg (cl f).toArray, tmps.getD t undef]) w := by
  have hp' : tmps[p]?.getD undef = .pointer (some ⟨g, 0, none⟩) := by simpa using hp
  simp [results, h, hp', asAddr, run_loadVar_row w g 27 27 _ (0, 0) _ hk Tryd.underlying27 rfl (cl_size f)]
theorem cutW4 {F R : World → Nat → Nat → Nat → Prop} {G : Prop} (h2 : (∀ w a b c, F w a b c → R w a b c) → G) (h1 : ∀ w a b c, F w a b c → R w a b c) : G := h2 h1
/-- What lies behind the first candidate. -/
structure RtA (w : World) (ga gr x r : Nat) (w' : World) (g gs gb : Nat) : Prop where
  root : Blk w' g 27 (cl (lf r))
  arg : Blk w' ga 27 (cl (lf x))
  res : Blk w' gr 27 (cl fun _ => 0)
  grown : w.grownBy w' none
  new : w.heap.size ≤ g
  ne : g ≠ ga ∧ g ≠ gr
  any : gs = gs ∧ gb = gb
theorem evn_odd {s : Nat} (h : s < fq) (h1 : s % 2 = 1) : ng s = evn s := by
  have := evn_ng h
  rwa [if_pos h1] at this
theorem evn_ev {s : Nat} (h : s < fq) (h1 : ¬ s % 2 = 1) : s = evn s := by
  have := evn_ng h
  rwa [if_neg h1] at this
theorem lf_low (x : Nat) : lf x 0 % 2 = ((x % 2 : Nat) : Int) := by
  unfold lf lm
  rw [Nat.pow_zero, Nat.div_one]
  omega
set_option maxRecDepth 100000 in
set_option maxHeartbeats 6400000 in
theorem root5_any {w : World} (ht : Tab w) (x : Nat) (hx : x < fq) : Calls Tryd.prog 15 #[.agg (ls x).toArray] w fun e w' => e = .returned (.tuple #[.agg (ls ((rootN x).getD 0)).toArray, .bool (rootN x).isSome]) ∧ w.grownBy w' none := by
  obtain ⟨e8, he8⟩ : ∃ e, e = (fp + 3) / 8 := ⟨_, rfl⟩
  have hrc := root_cases hx he8
  have hrl : x ^ e8 % fq < fq := Nat.mod_lt _ fq_pos
  have hp : ∀ (W : World) (g gb : Nat), Blk W g 3 (ints [0]) → W.cell? ⟨gb, 0, none⟩ = some (sl g 1) → Calls Tryd.prog 22 #[.agg (ls x).toArray, .int .i64 252, .func (.func 33) #[] #[.pointer (some ⟨gb, 0, none⟩)]] W fun e w' => e = .returned (.agg (ls (x ^ e8 % fq)).toArray) ∧ W.grownBy w' none := fun W g gb h1 h2 =>
    power_but h1 h2 (by decide) x hx 252 (by omega) _ (by rw [ex_root, he8])
  obtain ⟨r, hr⟩ : ∃ r, r = x ^ e8 % fq := ⟨_, rfl⟩
  rw [← hr] at hrc hrl hp
  clear hr he8
  obtain ⟨D, hD⟩ : ∃ D, D = (rootN x).getD 0 := ⟨_, rfl⟩
  obtain ⟨B, hB⟩ : ∃ B, B = (rootN x).isSome := ⟨_, rfl⟩
  rw [← hD, ← hB]
  have HP := Lib.hid hp
  have HRC := Lib.hid hrc
  have HD := Lib.hid hD
  have HBB := Lib.hid hB
  have HX := Lib.hid hx
  have HRL := Lib.hid hrl
  have HT := Lib.hid ht
  clear hp hrc hD hB hx hrl ht
  unfold ls at HP ⊢
  go_enter Tryd.func15, Tryd.ntmps15
  go_wp2_with (refine wpList_box27 rfl _ (lf x) rfl rfl ?_)
  intro w1 hb1 hg1 hz1
  go_wp2_with (refine wpList_new27 rfl rfl ?_)
  intro w3 hb3 hg3 hz3
  obtain ⟨ga, hga⟩ : ∃ g, g = w.heap.size := ⟨_, rfl⟩
  obtain ⟨gr, hgr⟩ : ∃ g, g = w.heap.size + 1 := ⟨_, rfl⟩
  rw [← hgr, ← hga]
  rw [← hga] at hb1
  rw [← hgr] at hb3
  have n1 : ga ≠ gr := by omega
  have HA : Hid (Blk w3 ga 27 (cl (lf x))) := Lib.hid (hb1.grown hg3 (by simp))
  have hr3 : Blk w3.drew gr 27 (cl fun _ => 0) := hb3.keep rfl
  have hg3' : w.grownBy w3.drew none := grown_drew (World.grownBy.trans hg1 hg3)
  have hsz : w3.drew.heap.size = w.heap.size + 1 + 1 := hz3.trans (by omega)
  have HWR : Hid (w.heap.size ≤ gr) := Lib.hid (by omega)
  clear hb1 hg1 hz1 hb3 hg3 hz3
  go_wp2_with (fail)
  clear hga hgr hsz
  apply cutW4 (F := RtA w ga gr x r)
  · intro hrest_
    refine wp_region_held_drew (S := fun w' => Blk w' ga 27 (cl (lf x))) (by kernel_rfl) (HA.out.keep rfl) (fun hHeld => ?_)
    refine' wpAnyH_take (i := 0) (oi := { dst := some 5, op := Op.load 27 (Operand.tmp 1), type := 27, pos := "field.go:102", after := #[], guard := none }) (v := .agg (cl (lf x)).toArray) rfl (by kernel_rfl) (by kernel_rfl) (by kernel_rfl) (fun _ _ _ h => h) (yieldsIf_load_mid (by rfl) _ _ rfl ga 0 rfl (cl (lf x)) _ (fun w' hs => range_blk hs) Tryd.underlying27 rfl (cl_size' _)) (by assumption) ?_
    try simp only [Act.put, List.setIfInBounds_toArray, List.set_cons_zero, List.set_cons_succ]
    refine wpAnyH_ready (rs := [1, 4]) (by kernel_rfl) (by simp) ?_
    refine AllReadyH.cons (o := { dst := some 6, op := Op.buildSlice 43 1 #[(0, Operand.const (Value.int IntKind.i64 0))], type := 43, pos := "field.go:102", after := #[], guard := none }) rfl (fun K hK => ?_) (AllReadyH.cons (o := { dst := some 4, op := Op.alloc 27, type := 0, pos := "field.go:102", after := #[], guard := none }) rfl (fun K hK => ?_) AllReadyH.nil)
    · rw [if_pos (by rfl)]
      refine wp_lit1 rfl ?_
      intro wz1 hb_ hgz1
      obtain ⟨gs, hgs⟩ : ∃ g, g = w3.drew.heap.size := ⟨_, rfl⟩
      rw [← hgs] at hb_ ⊢
      clear hgs
      have hbsz1 := hb_
      clear hb_
      have hggz1 := World.grownBy.trans hg3' hgz1
      have hrz1 := Blk.grown hr3 hgz1 (by simp)
      refine hK.out _ _ (hHeld.grown hgz1 (by simp)) (fun hHeld => ?_)
      clear hK K
      try simp only [Act.put, List.setIfInBounds_toArray, List.set_cons_zero, List.set_cons_succ]
      refine wpAnyH_ready (rs := [2, 4]) (by kernel_rfl) (by simp) ?_
      refine AllReadyH.cons (o := { dst := some 7, op := Op.call { callee := Callee.value (Operand.func 23), args := #[Operand.tmp 6], argTypes := #[43] }, type := 46, pos := "field.go:102", after := #[{ on := 1, ground := Ground.data }], guard := none }) rfl (fun K hK => ?_) (AllReadyH.cons (o := { dst := some 4, op := Op.alloc 27, type := 0, pos := "field.go:102", after := #[], guard := none }) rfl (fun K hK => ?_) AllReadyH.nil)
      · rw [if_pos (by rfl)]
        go_simp
        with_reducible refine (allBut_any _ _ _).mono ?_
        rintro _ wz2 ⟨gb, rfl, hcz2, _, hgz2⟩
        have hggz2 := World.grownBy.trans hggz1 hgz2
        have hrz2 := Blk.grown hrz1 hgz2 (by simp)
        have hbsz2 := Blk.grown hbsz1 hgz2 (by simp)
        refine hK.out _ _ (hHeld.grown hgz2 (by simp)) (fun hHeld => ?_)
        clear hK K
        try simp only [Act.put, List.setIfInBounds_toArray, List.set_cons_zero, List.set_cons_succ]
        refine wpAnyH_ready (rs := [3, 4]) (by kernel_rfl) (by simp) ?_
        refine AllReadyH.cons (o := { dst := some 8, op := Op.call { callee := Callee.value (Operand.func 22), args := #[Operand.tmp 5, Operand.const (Value.int IntKind.i64 252), Operand.tmp 7], argTypes := #[27, 3, 46] }, type := 27, pos := "field.go:102", after := #[{ on := 0, ground := Ground.data }, { on := 2, ground := Ground.data }, { on := 2, ground := Ground.chain }], guard := none }) rfl (fun K hK => ?_) (AllReadyH.cons (o := { dst := some 4, op := Op.alloc 27, type := 0, pos := "field.go:102", after := #[], guard := none }) rfl (fun K hK => ?_) AllReadyH.nil)
        · rw [if_pos (by rfl)]
          go_simp
          with_reducible refine (HP.out _ _ _ hbsz2 hcz2).mono ?_
          rintro _ wz3 ⟨rfl, hgz3⟩
          have hggz3 := World.grownBy.trans hggz2 hgz3
          have hrz3 := Blk.grown hrz2 hgz3 (by simp)
          have hbsz3 := Blk.grown hbsz2 hgz3 (by simp)
          have hcz3 := World.grownBy.cell hgz3 hcz2 (by simp)
          refine hK.out _ _ (hHeld.grown hgz3 (by simp)) (fun hHeld => ?_)
          clear hK K
          try simp only [Act.put, List.setIfInBounds_toArray, List.set_cons_zero, List.set_cons_succ]
          refine wpAnyH_ready (rs := [4]) (by kernel_rfl) (by simp) ?_
          refine AllReadyH.cons (o := { dst := some 4, op := Op.alloc 27, type := 0, pos := "field.go:102", after := #[], guard := none }) rfl (fun K hK => ?_) AllReadyH.nil
          rw [if_pos (by rfl)]
          refine wp_new27 rfl ?_
          intro wz4 hb_ hgz4
          obtain ⟨g, hgq⟩ : ∃ g, g = wz3.heap.size := ⟨_, rfl⟩
          rw [← hgq] at hb_ ⊢
          have hqz4 := hb_
          clear hb_
          have hgn : w.heap.size ≤ g := by rw [hgq]; exact hggz3.size
          have hgne : g ≠ ga ∧ g ≠ gr := by
            have h1 := hrz3.lt
            have h2 := hHeld.lt
            exact ⟨by omega, by omega⟩
          clear hgq
          have hggz4 := World.grownBy.trans hggz3 hgz4
          have hrz4 := Blk.grown hrz3 hgz4 (by simp)
          have hbsz4 := Blk.grown hbsz3 hgz4 (by simp)
          have hcz4 := World.grownBy.cell hgz4 hcz3 (by simp)
          refine hK.out _ _ (hHeld.grown hgz4 (by simp)) (fun hHeld => ?_)
          clear hK K
          try simp only [Act.put, List.setIfInBounds_toArray, List.set_cons_zero, List.set_cons_succ]
          refine wpAnyH_ready (rs := [5]) (by kernel_rfl) (by simp) ?_
          refine AllReadyH.cons (o := { dst := none, op := Op.store 27 (Operand.tmp 4) (Operand.tmp 8), type := 0, pos := "field.go:102", after := #[{ on := 4, ground := Ground.data }, { on := 3, ground := Ground.data }, { on := 3, ground := Ground.chain }, { on := 0, ground := Ground.phase }, { on := 1, ground := Ground.phase }, { on := 2, ground := Ground.phase }, { on := 3, ground := Ground.phase }, { on := 4, ground := Ground.phase }], guard := none }) rfl (fun K hK => ?_) AllReadyH.nil
          rw [if_pos (by rfl)]
          refine wp_store_row 27 _ _ rfl g (cl (lf r)).toArray rfl rfl 27 _ hqz4 (cl_size _) (cl_same _ _) (all_oneCell_toArray (cl_one _)) ?_
          refine hK.out _ _ (hHeld.grown (grown_setRow _ _ _) (fun e => hgne.1 (Option.some.inj e).symm)) (fun hHeld => ?_)
          clear hK K
          dsimp only [Act.put]
          refine wpAnyH_done (by kernel_rfl) ?_ _
          obtain ⟨w9, hw9⟩ : ∃ w9, w9 = wz4.setRow g (cl (lf r)).toArray := ⟨_, rfl⟩
          have hs9 : wz4.grownBy w9 (some g) := by rw [hw9]; exact grown_setRow _ _ _
          have hb9 : Blk w9 g 27 (cl (lf r)) := by rw [hw9]; exact Blk.setRow hqz4
          rw [← hw9] at hHeld ⊢
          exact hrest_ _ g gs gb ⟨hb9, hHeld, Blk.grown hrz4 hs9 (fun e => hgne.2 (Option.some.inj e).symm), World.grownBy.andThen hggz4 hs9 (by rintro _ ⟨⟩; exact .inl hgn), hgn, hgne, rfl, rfl⟩
        · rw [if_pos (by rfl)]
          refine wp_new27 rfl ?_
          intro wz6 hb_ hgz6
          obtain ⟨g, hgq⟩ : ∃ g, g = wz2.heap.size := ⟨_, rfl⟩
          rw [← hgq] at hb_ ⊢
          have hqz6 := hb_
          clear hb_
          have hgn : w.heap.size ≤ g := by rw [hgq]; exact hggz2.size
          have hgne : g ≠ ga ∧ g ≠ gr := by
            have h1 := hrz2.lt
            have h2 := hHeld.lt
            exact ⟨by omega, by omega⟩
          clear hgq
          have hggz6 := World.grownBy.trans hggz2 hgz6
          have hrz6 := Blk.grown hrz2 hgz6 (by simp)
          have hbsz6 := Blk.grown hbsz2 hgz6 (by simp)
          have hcz6 := World.grownBy.cell hgz6 hcz2 (by simp)
          refine hK.out _ _ (hHeld.grown hgz6 (by simp)) (fun hHeld => ?_)
          clear hK K
          try simp only [Act.put, List.setIfInBounds_toArray, List.set_cons_zero, List.set_cons_succ]
          refine wpAnyH_ready (rs := [3]) (by kernel_rfl) (by simp) ?_
          refine AllReadyH.cons (o := { dst := some 8, op := Op.call { callee := Callee.value (Operand.func 22), args := #[Operand.tmp 5, Operand.const (Value.int IntKind.i64 252), Operand.tmp 7], argTypes := #[27, 3, 46] }, type := 27, pos := "field.go:102", after := #[{ on := 0, ground := Ground.data }, { on := 2, ground := Ground.data }, { on := 2, ground := Ground.chain }], guard := none }) rfl (fun K hK => ?_) AllReadyH.nil
          rw [if_pos (by rfl)]
          go_simp
          with_reducible refine (HP.out _ _ _ hbsz6 hcz6).mono ?_
          rintro _ wz7 ⟨rfl, hgz7⟩
          have hggz7 := World.grownBy.trans hggz6 hgz7
          have hrz7 := Blk.grown hrz6 hgz7 (by simp)
          have hbsz7 := Blk.grown hbsz6 hgz7 (by simp)
          have hqz7 := Blk.grown hqz6 hgz7 (by simp)
          have hcz7 := World.grownBy.cell hgz7 hcz6 (by simp)
          refine hK.out _ _ (hHeld.grown hgz7 (by simp)) (fun hHeld => ?_)
          clear hK K
          try simp only [Act.put, List.setIfInBounds_toArray, List.set_cons_zero, List.set_cons_succ]
          refine wpAnyH_ready (rs := [5]) (by kernel_rfl) (by simp) ?_
          refine AllReadyH.cons (o := { dst := none, op := Op.store 27 (Operand.tmp 4) (Operand.tmp 8), type := 0, pos := "field.go:102", after := #[{ on := 4, ground := Ground.data }, { on := 3, ground := Ground.data }, { on := 3, ground := Ground.chain }, { on := 0, ground := Ground.phase }, { on := 1, ground := Ground.phase }, { on := 2, ground := Ground.phase }, { on := 3, ground := Ground.phase }, { on := 4, ground := Ground.phase }], guard := none }) rfl (fun K hK => ?_) AllReadyH.nil
          rw [if_pos (by rfl)]
          refine wp_store_row 27 _ _ rfl g (cl (lf r)).toArray rfl rfl 27 _ hqz7 (cl_size _) (cl_same _ _) (all_oneCell_toArray (cl_one _)) ?_
          refine hK.out _ _ (hHeld.grown (grown_setRow _ _ _) (fun e => hgne.1 (Option.some.inj e).symm)) (fun hHeld => ?_)
          clear hK K
          dsimp only [Act.put]
          refine wpAnyH_done (by kernel_rfl) ?_ _
          obtain ⟨w9, hw9⟩ : ∃ w9, w9 = wz7.setRow g (cl (lf r)).toArray := ⟨_, rfl⟩
          have hs9 : wz7.grownBy w9 (some g) := by rw [hw9]; exact grown_setRow _ _ _
          have hb9 : Blk w9 g 27 (cl (lf r)) := by rw [hw9]; exact Blk.setRow hqz7
          rw [← hw9] at hHeld ⊢
          exact hrest_ _ g gs gb ⟨hb9, hHeld, Blk.grown hrz7 hs9 (fun e => hgne.2 (Option.some.inj e).symm), World.grownBy.andThen hggz7 hs9 (by rintro _ ⟨⟩; exact .inl hgn), hgn, hgne, rfl, rfl⟩
      · rw [if_pos (by rfl)]
        refine wp_new27 rfl ?_
        intro wz9 hb_ hgz9
        obtain ⟨g, hgq⟩ : ∃ g, g = wz1.heap.size := ⟨_, rfl⟩
        rw [← hgq] at hb_ ⊢
        have hqz9 := hb_
        clear hb_
        have hgn : w.heap.size ≤ g := by rw [hgq]; exact hggz1.size
        have hgne : g ≠ ga ∧ g ≠ gr := by
          have h1 := hrz1.lt
          have h2 := hHeld.lt
          exact ⟨by omega, by omega⟩
        clear hgq
        have hggz9 := World.grownBy.trans hggz1 hgz9
        have hrz9 := Blk.grown hrz1 hgz9 (by simp)
        have hbsz9 := Blk.grown hbsz1 hgz9 (by simp)
        refine hK.out _ _ (hHeld.grown hgz9 (by simp)) (fun hHeld => ?_)
        clear hK K
        try simp only [Act.put, List.setIfInBounds_toArray, List.set_cons_zero, List.set_cons_succ]
        refine wpAnyH_ready (rs := [2]) (by kernel_rfl) (by simp) ?_
        refine AllReadyH.cons (o := { dst := some 7, op := Op.call { callee := Callee.value (Operand.func 23), args := #[Operand.tmp 6], argTypes := #[43] }, type := 46, pos := "field.go:102", after := #[{ on := 1, ground := Ground.data }], guard := none }) rfl (fun K hK => ?_) AllReadyH.nil
        rw [if_pos (by rfl)]
        go_simp
        with_reducible refine (allBut_any _ _ _).mono ?_
        rintro _ wz10 ⟨gb, rfl, hcz10, _, hgz10⟩
        have hggz10 := World.grownBy.trans hggz9 hgz10
        have hrz10 := Blk.grown hrz9 hgz10 (by simp)
        have hbsz10 := Blk.grown hbsz9 hgz10 (by simp)
        have hqz10 := Blk.grown hqz9 hgz10 (by simp)
        refine hK.out _ _ (hHeld.grown hgz10 (by simp)) (fun hHeld => ?_)
        clear hK K
        try simp only [Act.put, List.setIfInBounds_toArray, List.set_cons_zero, List.set_cons_succ]
        refine wpAnyH_ready (rs := [3]) (by kernel_rfl) (by simp) ?_
        refine AllReadyH.cons (o := { dst := some 8, op := Op.call { callee := Callee.value (Operand.func 22), args := #[Operand.tmp 5, Operand.const (Value.int IntKind.i64 252), Operand.tmp 7], argTypes := #[27, 3, 46] }, type := 27, pos := "field.go:102", after := #[{ on := 0, ground := Ground.data }, { on := 2, ground := Ground.data }, { on := 2, ground := Ground.chain }], guard := none }) rfl (fun K hK => ?_) AllReadyH.nil
        rw [if_pos (by rfl)]
        go_simp
        with_reducible refine (HP.out _ _ _ hbsz10 hcz10).mono ?_
        rintro _ wz11 ⟨rfl, hgz11⟩
        have hggz11 := World.grownBy.trans hggz10 hgz11
        have hrz11 := Blk.grown hrz10 hgz11 (by simp)
        have hbsz11 := Blk.grown hbsz10 hgz11 (by simp)
        have hqz11 := Blk.grown hqz10 hgz11 (by simp)
        have hcz11 := World.grownBy.cell hgz11 hcz10 (by simp)
        refine hK.out _ _ (hHeld.grown hgz11 (by simp)) (fun hHeld => ?_)
        clear hK K
        try simp only [Act.put, List.setIfInBounds_toArray, List.set_cons_zero, List.set_cons_succ]
        refine wpAnyH_ready (rs := [5]) (by kernel_rfl) (by simp) ?_
        refine AllReadyH.cons (o := { dst := none, op := Op.store 27 (Operand.tmp 4) (Operand.tmp 8), type := 0, pos := "field.go:102", after := #[{ on := 4, ground := Ground.data }, { on := 3, ground := Ground.data }, { on := 3, ground := Ground.chain }, { on := 0, ground := Ground.phase }, { on := 1, ground := Ground.phase }, { on := 2, ground := Ground.phase }, { on := 3, ground := Ground.phase }, { on := 4, ground := Ground.phase }], guard := none }) rfl (fun K hK => ?_) AllReadyH.nil
        rw [if_pos (by rfl)]
        refine wp_store_row 27 _ _ rfl g (cl (lf r)).toArray rfl rfl 27 _ hqz11 (cl_size _) (cl_same _ _) (all_oneCell_toArray (cl_one _)) ?_
        refine hK.out _ _ (hHeld.grown (grown_setRow _ _ _) (fun e => hgne.1 (Option.some.inj e).symm)) (fun hHeld => ?_)
        clear hK K
        dsimp only [Act.put]
        refine wpAnyH_done (by kernel_rfl) ?_ _
        obtain ⟨w9, hw9⟩ : ∃ w9, w9 = wz11.setRow g (cl (lf r)).toArray := ⟨_, rfl⟩
        have hs9 : wz11.grownBy w9 (some g) := by rw [hw9]; exact grown_setRow _ _ _
        have hb9 : Blk w9 g 27 (cl (lf r)) := by rw [hw9]; exact Blk.setRow hqz11
        rw [← hw9] at hHeld ⊢
        exact hrest_ _ g gs gb ⟨hb9, hHeld, Blk.grown hrz11 hs9 (fun e => hgne.2 (Option.some.inj e).symm), World.grownBy.andThen hggz11 hs9 (by rintro _ ⟨⟩; exact .inl hgn), hgn, hgne, rfl, rfl⟩
    · rw [if_pos (by rfl)]
      refine wp_new27 rfl ?_
      intro wz13 hb_ hgz13
      obtain ⟨g, hgq⟩ : ∃ g, g = w3.drew.heap.size := ⟨_, rfl⟩
      rw [← hgq] at hb_ ⊢
      have hqz13 := hb_
      clear hb_
      have hgn : w.heap.size ≤ g := by rw [hgq]; exact hg3'.size
      have hgne : g ≠ ga ∧ g ≠ gr := by
        have h1 := hr3.lt
        have h2 := hHeld.lt
        exact ⟨by omega, by omega⟩
      clear hgq
      have hggz13 := World.grownBy.trans hg3' hgz13
      have hrz13 := Blk.grown hr3 hgz13 (by simp)
      refine hK.out _ _ (hHeld.grown hgz13 (by simp)) (fun hHeld => ?_)
      clear hK K
      try simp only [Act.put, List.setIfInBounds_toArray, List.set_cons_zero, List.set_cons_succ]
      refine wpAnyH_ready (rs := [1]) (by kernel_rfl) (by simp) ?_
      refine AllReadyH.cons (o := { dst := some 6, op := Op.buildSlice 43 1 #[(0, Operand.const (Value.int IntKind.i64 0))], type := 43, pos := "field.go:102", after := #[], guard := none }) rfl (fun K hK => ?_) AllReadyH.nil
      rw [if_pos (by rfl)]
      refine wp_lit1 rfl ?_
      intro wz14 hb_ hgz14
      obtain ⟨gs, hgs⟩ : ∃ g, g = wz13.heap.size := ⟨_, rfl⟩
      rw [← hgs] at hb_ ⊢
      clear hgs
      have hbsz14 := hb_
      clear hb_
      have hggz14 := World.grownBy.trans hggz13 hgz14
      have hrz14 := Blk.grown hrz13 hgz14 (by simp)
      have hqz14 := Blk.grown hqz13 hgz14 (by simp)
      refine hK.out _ _ (hHeld.grown hgz14 (by simp)) (fun hHeld => ?_)
      clear hK K
      try simp only [Act.put, List.setIfInBounds_toArray, List.set_cons_zero, List.set_cons_succ]
      refine wpAnyH_ready (rs := [2]) (by kernel_rfl) (by simp) ?_
      refine AllReadyH.cons (o := { dst := some 7, op := Op.call { callee := Callee.value (Operand.func 23), args := #[Operand.tmp 6], argTypes := #[43] }, type := 46, pos := "field.go:102", after := #[{ on := 1, ground := Ground.data }], guard := none }) rfl (fun K hK => ?_) AllReadyH.nil
      rw [if_pos (by rfl)]
      go_simp
      with_reducible refine (allBut_any _ _ _).mono ?_
      rintro _ wz15 ⟨gb, rfl, hcz15, _, hgz15⟩
      have hggz15 := World.grownBy.trans hggz14 hgz15
      have hrz15 := Blk.grown hrz14 hgz15 (by simp)
      have hbsz15 := Blk.grown hbsz14 hgz15 (by simp)
      have hqz15 := Blk.grown hqz14 hgz15 (by simp)
      refine hK.out _ _ (hHeld.grown hgz15 (by simp)) (fun hHeld => ?_)
      clear hK K
      try simp only [Act.put, List.setIfInBounds_toArray, List.set_cons_zero, List.set_cons_succ]
      refine wpAnyH_ready (rs := [3]) (by kernel_rfl) (by simp) ?_
      refine AllReadyH.cons (o := { dst := some 8, op := Op.call { callee := Callee.value (Operand.func 22), args := #[Operand.tmp 5, Operand.const (Value.int IntKind.i64 252), Operand.tmp 7], argTypes := #[27, 3, 46] }, type := 27, pos := "field.go:102", after := #[{ on := 0, ground := Ground.data }, { on := 2, ground := Ground.data }, { on := 2, ground := Ground.chain }], guard := none }) rfl (fun K hK => ?_) AllReadyH.nil
      rw [if_pos (by rfl)]
      go_simp
      with_reducible refine (HP.out _ _ _ hbsz15 hcz15).mono ?_
      rintro _ wz16 ⟨rfl, hgz16⟩
      have hggz16 := World.grownBy.trans hggz15 hgz16
      have hrz16 := Blk.grown hrz15 hgz16 (by simp)
      have hbsz16 := Blk.grown hbsz15 hgz16 (by simp)
      have hqz16 := Blk.grown hqz15 hgz16 (by simp)
      have hcz16 := World.grownBy.cell hgz16 hcz15 (by simp)
      refine hK.out _ _ (hHeld.grown hgz16 (by simp)) (fun hHeld => ?_)
      clear hK K
      try simp only [Act.put, List.setIfInBounds_toArray, List.set_cons_zero, List.set_cons_succ]
      refine wpAnyH_ready (rs := [5]) (by kernel_rfl) (by simp) ?_
      refine AllReadyH.cons (o := { dst := none, op := Op.store 27 (Operand.tmp 4) (Operand.tmp 8), type := 0, pos := "field.go:102", after := #[{ on := 4, ground := Ground.data }, { on := 3, ground := Ground.data }, { on := 3, ground := Ground.chain }, { on := 0, ground := Ground.phase }, { on := 1, ground := Ground.phase }, { on := 2, ground := Ground.phase }, { on := 3, ground := Ground.phase }, { on := 4, ground := Ground.phase }], guard := none }) rfl (fun K hK => ?_) AllReadyH.nil
      rw [if_pos (by rfl)]
      refine wp_store_row 27 _ _ rfl g (cl (lf r)).toArray rfl rfl 27 _ hqz16 (cl_size _) (cl_same _ _) (all_oneCell_toArray (cl_one _)) ?_
      refine hK.out _ _ (hHeld.grown (grown_setRow _ _ _) (fun e => hgne.1 (Option.some.inj e).symm)) (fun hHeld => ?_)
      clear hK K
      dsimp only [Act.put]
      refine wpAnyH_done (by kernel_rfl) ?_ _
      obtain ⟨w9, hw9⟩ : ∃ w9, w9 = wz16.setRow g (cl (lf r)).toArray := ⟨_, rfl⟩
      have hs9 : wz16.grownBy w9 (some g) := by rw [hw9]; exact grown_setRow _ _ _
      have hb9 : Blk w9 g 27 (cl (lf r)) := by rw [hw9]; exact Blk.setRow hqz16
      rw [← hw9] at hHeld ⊢
      exact hrest_ _ g gs gb ⟨hb9, hHeld, Blk.grown hrz16 hs9 (fun e => hgne.2 (Option.some.inj e).symm), World.grownBy.andThen hggz16 hs9 (by rintro _ ⟨⟩; exact .inl hgn), hgn, hgne, rfl, rfl⟩
  · intro w9 g gs gb hF
    have HNE := Lib.hid hF.ne
    have HNEW := Lib.hid hF.new
    have HB9 := Lib.hid hF.root
    have HA9 := Lib.hid hF.arg
    have HR9 := Lib.hid hF.res
    have HG9 := Lib.hid hF.grown
    clear hF hr3 hg3' n1 HA HP
    by_cases h1 : r * r % fq = x
    · have hroot0 := HRC.out.1 h1
      have hm : ∀ W, Calls Tryd.prog 14 #[.agg (cl (lf r)).toArray, .agg (cl (lf r)).toArray] W fun e w' => e = .returned (.agg (cl (lf x)).toArray) ∧ W.grownBy w' none := fun W => by
        have := mul5_any W r r HRL.out HRL.out
        rwa [h1] at this
      have HM := Lib.hid hm
      have HROOT0 := Lib.hid hroot0
      clear hm hroot0 h1 HRC
      go_wp2_with (fail)
      have hress18 : Blk w9.drew gr 27 (cl fun _ => 0) := HR9.out.keep rfl
      refine wp_region_held_drew (S := fun w' => Blk w' g 27 (cl (lf r)) ∧ Blk w' ga 27 (cl (lf x))) (by kernel_rfl) ⟨HB9.out.keep rfl, HA9.out.keep rfl⟩ (fun hHeld => ?_)
      refine' wpAnyH_take (i := 0) (oi := { dst := some 9, op := Op.load 27 (Operand.tmp 4), type := 27, pos := "field.go:103", after := #[], guard := none }) (v := .agg (cl (lf r)).toArray) rfl (by kernel_rfl) (by kernel_rfl) (by kernel_rfl) (fun _ _ _ h => h) (yieldsIf_load_mid (by rfl) _ _ rfl g 0 rfl (cl (lf r)) _ (fun w' hs => range_blk hs.1) Tryd.underlying27 rfl (cl_size' _)) (by assumption) ?_
      try simp only [Act.put, List.setIfInBounds_toArray, List.set_cons_zero, List.set_cons_succ]
      refine' wpAnyH_take (i := 1) (oi := { dst := some 10, op := Op.load 27 (Operand.tmp 4), type := 27, pos := "field.go:103", after := #[], guard := none }) (v := .agg (cl (lf r)).toArray) rfl (by kernel_rfl) (by kernel_rfl) (by kernel_rfl) (fun _ _ _ h => h) (yieldsIf_load_mid (by rfl) _ _ rfl g 0 rfl (cl (lf r)) _ (fun w' hs => range_blk hs.1) Tryd.underlying27 rfl (cl_size' _)) (by assumption) ?_
      try simp only [Act.put, List.setIfInBounds_toArray, List.set_cons_zero, List.set_cons_succ]
      refine' wpAnyH_take (i := 3) (oi := { dst := some 12, op := Op.load 27 (Operand.tmp 1), type := 27, pos := "field.go:103", after := #[], guard := none }) (v := .agg (cl (lf x)).toArray) rfl (by kernel_rfl) (by kernel_rfl) (by kernel_rfl) (fun _ _ _ h => h) (yieldsIf_load_mid (by rfl) _ _ rfl ga 0 rfl (cl (lf x)) _ (fun w' hs => range_blk hs.2) Tryd.underlying27 rfl (cl_size' _)) (by assumption) ?_
      try simp only [Act.put, List.setIfInBounds_toArray, List.set_cons_zero, List.set_cons_succ]
      refine wpAnyH_ready (rs := [2]) (by kernel_rfl) (by simp) ?_
      refine AllReadyH.cons (o := { dst := some 11, op := Op.call { callee := Callee.value (Operand.func 14), args := #[Operand.tmp 9, Operand.tmp 10], argTypes := #[27, 27] }, type := 27, pos := "field.go:103", after := #[{ on := 0, ground := Ground.data }, { on := 1, ground := Ground.data }], guard := none }) rfl (fun K hK => ?_) AllReadyH.nil
      rw [if_pos (by rfl)]
      go_simp
      with_reducible refine (HM.out _).mono ?_
      rintro _ wq19 ⟨rfl, hgq19⟩
      have hggq19 : w.grownBy wq19 none := World.grownBy.trans (grown_drew HG9.out) hgq19
      have hrsq19 := Blk.grown hress18 hgq19 (by simp)
      refine hK.out _ _ ⟨hHeld.1.grown hgq19 (by simp), hHeld.2.grown hgq19 (by simp)⟩ (fun hHeld => ?_)
      clear hK K
      try simp only [Act.put, List.setIfInBounds_toArray, List.set_cons_zero, List.set_cons_succ]
      refine' wpAnyH_take (i := 4) (oi := { dst := some 13, op := Op.binOp BinOp.neq 27 (Operand.tmp 11) (Operand.tmp 12) 27, type := 4, pos := "field.go:103", after := #[{ on := 2, ground := Ground.data }, { on := 3, ground := Ground.data }], guard := none }) (v := .bool false) rfl (by kernel_rfl) (by kernel_rfl) (by kernel_rfl) (fun _ _ _ h => h) (yieldsIf_neq27 (by rfl) _ _ rfl HX.out HX.out rfl rfl (by simp)) (by assumption) ?_
      try simp only [Act.put, List.setIfInBounds_toArray, List.set_cons_zero, List.set_cons_succ]
      refine wpAnyH_done (by kernel_rfl) ?_ _
      try dsimp only [Act.put]
      have hblq19 := hHeld.1
      have harq19 := hHeld.2
      clear hHeld
      have HBLq19 := Lib.hid hblq19
      have HARq19 := Lib.hid harq19
      have HRSq19 := Lib.hid hrsq19
      have HGGq19 := Lib.hid hggq19
      clear hblq19 harq19 hrsq19 hggq19 hgq19 hress18
      go_wp2_with (fail)
      have hress20 : Blk wq19.drew gr 27 (cl fun _ => 0) := HRSq19.out.keep rfl
      refine wp_region_held_drew (S := fun w' => Blk w' g 27 (cl (lf r)) ∧ Blk w' ga 27 (cl (lf x))) (by kernel_rfl) ⟨HBLq19.out.keep rfl, HARq19.out.keep rfl⟩ (fun hHeld => ?_)
      refine' wpAnyH_take (i := 0) (oi := { dst := some 17, op := Op.load 27 (Operand.tmp 4), type := 27, pos := "field.go:106", after := #[], guard := none }) (v := .agg (cl (lf r)).toArray) rfl (by kernel_rfl) (by kernel_rfl) (by kernel_rfl) (fun _ _ _ h => h) (yieldsIf_load_mid (by rfl) _ _ rfl g 0 rfl (cl (lf r)) _ (fun w' hs => range_blk hs.1) Tryd.underlying27 rfl (cl_size' _)) (by assumption) ?_
      try simp only [Act.put, List.setIfInBounds_toArray, List.set_cons_zero, List.set_cons_succ]
      refine' wpAnyH_take (i := 1) (oi := { dst := some 18, op := Op.load 27 (Operand.tmp 4), type := 27, pos := "field.go:106", after := #[], guard := none }) (v := .agg (cl (lf r)).toArray) rfl (by kernel_rfl) (by kernel_rfl) (by kernel_rfl) (fun _ _ _ h => h) (yieldsIf_load_mid (by rfl) _ _ rfl g 0 rfl (cl (lf r)) _ (fun w' hs => range_blk hs.1) Tryd.underlying27 rfl (cl_size' _)) (by assumption) ?_
      try simp only [Act.put, List.setIfInBounds_toArray, List.set_cons_zero, List.set_cons_succ]
      refine' wpAnyH_take (i := 3) (oi := { dst := some 20, op := Op.load 27 (Operand.tmp 1), type := 27, pos := "field.go:106", after := #[], guard := none }) (v := .agg (cl (lf x)).toArray) rfl (by kernel_rfl) (by kernel_rfl) (by kernel_rfl) (fun _ _ _ h => h) (yieldsIf_load_mid (by rfl) _ _ rfl ga 0 rfl (cl (lf x)) _ (fun w' hs => range_blk hs.2) Tryd.underlying27 rfl (cl_size' _)) (by assumption) ?_
      try simp only [Act.put, List.setIfInBounds_toArray, List.set_cons_zero, List.set_cons_succ]
      refine wpAnyH_ready (rs := [2]) (by kernel_rfl) (by simp) ?_
      refine AllReadyH.cons (o := { dst := some 19, op := Op.call { callee := Callee.value (Operand.func 14), args := #[Operand.tmp 17, Operand.tmp 18], argTypes := #[27, 27] }, type := 27, pos := "field.go:106", after := #[{ on := 0, ground := Ground.data }, { on := 1, ground := Ground.data }], guard := none }) rfl (fun K hK => ?_) AllReadyH.nil
      rw [if_pos (by rfl)]
      go_simp
      with_reducible refine (HM.out _).mono ?_
      rintro _ wq21 ⟨rfl, hgq21⟩
      have hggq21 : w.grownBy wq21 none := World.grownBy.trans (grown_drew HGGq19.out) hgq21
      have hrsq21 := Blk.grown hress20 hgq21 (by simp)
      refine hK.out _ _ ⟨hHeld.1.grown hgq21 (by simp), hHeld.2.grown hgq21 (by simp)⟩ (fun hHeld => ?_)
      clear hK K
      try simp only [Act.put, List.setIfInBounds_toArray, List.set_cons_zero, List.set_cons_succ]
      refine' wpAnyH_take (i := 4) (oi := { dst := some 21, op := Op.binOp BinOp.neq 27 (Operand.tmp 19) (Operand.tmp 20) 27, type := 4, pos := "field.go:106", after := #[{ on := 2, ground := Ground.data }, { on := 3, ground := Ground.data }], guard := none }) (v := .bool false) rfl (by kernel_rfl) (by kernel_rfl) (by kernel_rfl) (fun _ _ _ h => h) (yieldsIf_neq27 (by rfl) _ _ rfl HX.out HX.out rfl rfl (by simp)) (by assumption) ?_
      try simp only [Act.put, List.setIfInBounds_toArray, List.set_cons_zero, List.set_cons_succ]
      refine wpAnyH_done (by kernel_rfl) ?_ _
      try dsimp only [Act.put]
      have hblq21 := hHeld.1
      have harq21 := hHeld.2
      clear hHeld
      have HBLq21 := Lib.hid hblq21
      have HARq21 := Lib.hid harq21
      have HRSq21 := Lib.hid hrsq21
      have HGGq21 := Lib.hid hggq21
      clear hblq21 harq21 hrsq21 hggq21 hgq21 hress20
      have c0 := Blk.get HBLq21.out 0 _ (cl_get _ 0 (by omega))
      have hlow := and1 (lf r 0)
      rw [lf_low] at hlow
      by_cases hpar : r % 2 = 1
      · rw [hpar] at hlow
        have hroot : rootN x = some (ng r) := by rw [HROOT0.out, evn_odd HRL.out hpar]
        have hlow2 : bits .and .i64 (lf r 0) 1 = 1 := hlow
        have hneg : ∀ W, Tab W → Calls Tryd.prog 17 #[.agg (cl (lf r)).toArray] W fun e w' => e = .returned (.agg (cl (lf (ng r))).toArray) ∧ W.grownBy w' none := fun W h => neg5_any h r HRL.out
        have HNEG := Lib.hid hneg
        have HROOT := Lib.hid hroot
        clear hlow hneg hpar hroot
        generalize lf r 0 = low at c0 hlow2
        go_wp2_with (first
          | (refine wpList_load_mid rfl 27 _ rfl g 0 rfl (cl (lf r)) _ (range_blk HBLq21.out) Tryd.underlying27 rfl (cl_size' _) ?_)
          | (go_at_call 17
             with_reducible refine (HNEG.out _ (HT.out.more HGGq21.out)).mono ?_
             rintro _ wn ⟨rfl, hgn⟩
             have HBn := Lib.hid (Blk.grown HBLq21.out hgn (by simp))
             have HRn := Lib.hid (Blk.grown HRSq21.out hgn (by simp))
             have HGn : Hid (w.grownBy wn none) := Lib.hid (World.grownBy.trans HGGq21.out hgn)
             clear hgn HNEG)
          | (refine wpList_store_row rfl 27 _ _ rfl g (cl (lf (ng r))).toArray rfl rfl 27 _ HBn.out (cl_size _) (cl_same _ _) (all_oneCell_toArray (cl_one _)) ?_
             obtain ⟨wm, hwm⟩ : ∃ wm, wm = wn.setRow g (cl (lf (ng r))).toArray := ⟨_, rfl⟩
             have hgm : wn.grownBy wm (some g) := by rw [hwm]; exact grown_setRow _ _ _
             have HBm : Hid (Blk wm g 27 (cl (lf (ng r)))) := Lib.hid (by rw [hwm]; exact Blk.setRow HBn.out)
             have HRm : Hid (Blk wm gr 27 (cl fun _ => 0)) := Lib.hid (HRn.out.grown hgm (fun e => HNE.out.2 (Option.some.inj e).symm))
             have HGm : Hid (w.grownBy wm none) := Lib.hid (World.grownBy.andThen HGn.out hgm (by rintro _ ⟨⟩; exact .inl HNEW.out))
             rw [← hwm]
             clear hwm hgm HBn HRn HGn)
          | (refine wpList_load_mid rfl 27 _ rfl g 0 rfl (cl (lf (ng r))) _ (range_blk HBm.out) Tryd.underlying27 rfl (cl_size' _) ?_)
          | (refine wpList_store_row rfl 27 _ _ rfl gr (cl (lf (ng r))).toArray rfl rfl 27 _ HRm.out (cl_size _) (cl_same _ _) (all_oneCell_toArray (cl_one _)) ?_)
          | fail)
        have hroot := HROOT.out
        rw [HD.out, HBB.out, hroot]
        exact bodyPost_ret (results_root5 rfl _ _ gr (lf (ng r)) rfl (setRow_heap _ gr _ _ 27 (0, 0) HRm.out)) rfl ⟨rfl, World.grownBy.andThen HGm.out (grown_setRow _ _ _) (by rintro _ ⟨⟩; exact .inl HWR.out)⟩
      · have hz : r % 2 = 0 := by omega
        rw [hz] at hlow
        have hroot : rootN x = some r := by rw [HROOT0.out, ← evn_ev HRL.out hpar]
        have hlow2 : bits .and .i64 (lf r 0) 1 = 0 := hlow
        have HROOT := Lib.hid hroot
        clear hlow hz hpar hroot
        generalize lf r 0 = low at c0 hlow2
        go_wp2_with (first
          | (refine wpList_load_mid rfl 27 _ rfl g 0 rfl (cl (lf r)) _ (range_blk HBLq21.out) Tryd.underlying27 rfl (cl_size' _) ?_)
          | (refine wpList_store_row rfl 27 _ _ rfl gr (cl (lf r)).toArray rfl rfl 27 _ HRSq21.out (cl_size _) (cl_same _ _) (all_oneCell_toArray (cl_one _)) ?_)
          | fail)
        have hroot := HROOT.out
        rw [HD.out, HBB.out, hroot]
        exact bodyPost_ret (results_root5 rfl _ _ gr (lf r) rfl (setRow_heap _ gr _ _ 27 (0, 0) HRSq21.out)) rfl ⟨rfl, World.grownBy.andThen HGGq21.out (grown_setRow _ _ _) (by rintro _ ⟨⟩; exact .inl HWR.out)⟩
    · have hrc2 := HRC.out.2 h1
      obtain ⟨s1, hs1⟩ : ∃ s, s = r * r % fq := ⟨_, rfl⟩
      have hs1l : s1 < fq := by rw [hs1]; exact Nat.mod_lt _ fq_pos
      have hm : ∀ W, Calls Tryd.prog 14 #[.agg (cl (lf r)).toArray, .agg (cl (lf r)).toArray] W fun e w' => e = .returned (.agg (cl (lf s1)).toArray) ∧ W.grownBy w' none := fun W => by rw [hs1]; exact mul5_any W r r HRL.out HRL.out
      rw [← hs1] at h1
      have himl : im < fq := by rw [fq_fp, im_is _ rfl]; exact Nat.mod_lt _ fp_pos
      have hq' := mul5_any (x := r) (y := im)
      obtain ⟨q, hq⟩ : ∃ q, q = r * im % fq := ⟨_, rfl⟩
      have hql : q < fq := by rw [hq]; exact Nat.mod_lt _ fq_pos
      rw [← hq] at hrc2
      have hmi : ∀ W, Calls Tryd.prog 14 #[.agg (cl (lf r)).toArray, .agg (cl (lf im)).toArray] W fun e w' => e = .returned (.agg (cl (lf q)).toArray) ∧ W.grownBy w' none := fun W => by rw [hq]; exact hq' W HRL.out himl
      have hc1 : (!decide (s1 = x)) = true := by simp [h1]
      have HM := Lib.hid hm
      have HMI := Lib.hid hmi
      have HRC2 := Lib.hid hrc2
      have HQL := Lib.hid hql
      have HS1 := Lib.hid hs1l
      have HC1 := Lib.hid hc1
      clear hm hmi hrc2 h1 hs1 hs1l hq hql hq' himl hc1 HRC
      go_wp2_with (fail)
      have hress22 : Blk w9.drew gr 27 (cl fun _ => 0) := HR9.out.keep rfl
      refine wp_region_held_drew (S := fun w' => Blk w' g 27 (cl (lf r)) ∧ Blk w' ga 27 (cl (lf x))) (by kernel_rfl) ⟨HB9.out.keep rfl, HA9.out.keep rfl⟩ (fun hHeld => ?_)
      refine' wpAnyH_take (i := 0) (oi := { dst := some 9, op := Op.load 27 (Operand.tmp 4), type := 27, pos := "field.go:103", after := #[], guard := none }) (v := .agg (cl (lf r)).toArray) rfl (by kernel_rfl) (by kernel_rfl) (by kernel_rfl) (fun _ _ _ h => h) (yieldsIf_load_mid (by rfl) _ _ rfl g 0 rfl (cl (lf r)) _ (fun w' hs => range_blk hs.1) Tryd.underlying27 rfl (cl_size' _)) (by assumption) ?_
      try simp only [Act.put, List.setIfInBounds_toArray, List.set_cons_zero, List.set_cons_succ]
      refine' wpAnyH_take (i := 1) (oi := { dst := some 10, op := Op.load 27 (Operand.tmp 4), type := 27, pos := "field.go:103", after := #[], guard := none }) (v := .agg (cl (lf r)).toArray) rfl (by kernel_rfl) (by kernel_rfl) (by kernel_rfl) (fun _ _ _ h => h) (yieldsIf_load_mid (by rfl) _ _ rfl g 0 rfl (cl (lf r)) _ (fun w' hs => range_blk hs.1) Tryd.underlying27 rfl (cl_size' _)) (by assumption) ?_
      try simp only [Act.put, List.setIfInBounds_toArray, List.set_cons_zero, List.set_cons_succ]
      refine' wpAnyH_take (i := 3) (oi := { dst := some 12, op := Op.load 27 (Operand.tmp 1), type := 27, pos := "field.go:103", after := #[], guard := none }) (v := .agg (cl (lf x)).toArray) rfl (by kernel_rfl) (by kernel_rfl) (by kernel_rfl) (fun _ _ _ h => h) (yieldsIf_load_mid (by rfl) _ _ rfl ga 0 rfl (cl (lf x)) _ (fun w' hs => range_blk hs.2) Tryd.underlying27 rfl (cl_size' _)) (by assumption) ?_
      try simp only [Act.put, List.setIfInBounds_toArray, List.set_cons_zero, List.set_cons_succ]
      refine wpAnyH_ready (rs := [2]) (by kernel_rfl) (by simp) ?_
      refine AllReadyH.cons (o := { dst := some 11, op := Op.call { callee := Callee.value (Operand.func 14), args := #[Operand.tmp 9, Operand.tmp 10], argTypes := #[27, 27] }, type := 27, pos := "field.go:103", after := #[{ on := 0, ground := Ground.data }, { on := 1, ground := Ground.data }], guard := none }) rfl (fun K hK => ?_) AllReadyH.nil
      rw [if_pos (by rfl)]
      go_simp
      with_reducible refine (HM.out _).mono ?_
      rintro _ wq23 ⟨rfl, hgq23⟩
      have hggq23 : w.grownBy wq23 none := World.grownBy.trans (grown_drew HG9.out) hgq23
      have hrsq23 := Blk.grown hress22 hgq23 (by simp)
      refine hK.out _ _ ⟨hHeld.1.grown hgq23 (by simp), hHeld.2.grown hgq23 (by simp)⟩ (fun hHeld => ?_)
      clear hK K
      try simp only [Act.put, List.setIfInBounds_toArray, List.set_cons_zero, List.set_cons_succ]
      refine' wpAnyH_take (i := 4) (oi := { dst := some 13, op := Op.binOp BinOp.neq 27 (Operand.tmp 11) (Operand.tmp 12) 27, type := 4, pos := "field.go:103", after := #[{ on := 2, ground := Ground.data }, { on := 3, ground := Ground.data }], guard := none }) (v := .bool true) rfl (by kernel_rfl) (by kernel_rfl) (by kernel_rfl) (fun _ _ _ h => h) (yieldsIf_neq27 (by rfl) _ _ rfl HS1.out HX.out rfl rfl HC1.out) (by assumption) ?_
      try simp only [Act.put, List.setIfInBounds_toArray, List.set_cons_zero, List.set_cons_succ]
      refine wpAnyH_done (by kernel_rfl) ?_ _
      try dsimp only [Act.put]
      have hblq23 := hHeld.1
      have harq23 := hHeld.2
      clear hHeld
      have HBLq23 := Lib.hid hblq23
      have HARq23 := Lib.hid harq23
      have HRSq23 := Lib.hid hrsq23
      have HGGq23 := Lib.hid hggq23
      clear hblq23 harq23 hrsq23 hggq23 hgq23 hress22
      have htn := (HT.out.more HGGq23.out).turn
      have HTN := Lib.hid htn
      clear htn
      unfold ls at HTN
      go_wp2_with (first
        | (refine wpList_load_mid rfl 27 _ rfl g 0 rfl (cl (lf r)) _ (range_blk HBLq23.out) Tryd.underlying27 rfl (cl_size' _) ?_)
        | (refine wpList_load_mid rfl 27 _ rfl 0 0 rfl (cl (lf im)) _ HTN.out Tryd.underlying27 rfl (cl_size' _) ?_)
        | (go_at_call 14
           with_reducible refine (HMI.out _).mono ?_
           rintro _ wi ⟨rfl, hgi⟩
           have HBi := Lib.hid (Blk.grown HBLq23.out hgi (by simp))
           have HAi := Lib.hid (Blk.grown HARq23.out hgi (by simp))
           have HRi := Lib.hid (Blk.grown HRSq23.out hgi (by simp))
           have HGi : Hid (w.grownBy wi none) := Lib.hid (World.grownBy.trans HGGq23.out hgi)
           clear hgi HMI HTN)
        | (refine wpList_store_row rfl 27 _ _ rfl g (cl (lf q)).toArray rfl rfl 27 _ HBi.out (cl_size _) (cl_same _ _) (all_oneCell_toArray (cl_one _)) ?_
           obtain ⟨wj, hwj⟩ : ∃ wj, wj = wi.setRow g (cl (lf q)).toArray := ⟨_, rfl⟩
           have hgj : wi.grownBy wj (some g) := by rw [hwj]; exact grown_setRow _ _ _
           have HBj : Hid (Blk wj g 27 (cl (lf q))) := Lib.hid (by rw [hwj]; exact Blk.setRow HBi.out)
           have HAj : Hid (Blk wj ga 27 (cl (lf x))) := Lib.hid (HAi.out.grown hgj (fun e => HNE.out.1 (Option.some.inj e).symm))
           have HRj : Hid (Blk wj gr 27 (cl fun _ => 0)) := Lib.hid (HRi.out.grown hgj (fun e => HNE.out.2 (Option.some.inj e).symm))
           have HGj : Hid (w.grownBy wj none) := Lib.hid (World.grownBy.andThen HGi.out hgj (by rintro _ ⟨⟩; exact .inl HNEW.out))
           rw [← hwj]
           clear hwj hgj HBi HAi HRi HGi)
        | fail)
      by_cases h2 : q * q % fq = x
      · have hroot0 := HRC2.out.1 h2
        have hmq : ∀ W, Calls Tryd.prog 14 #[.agg (cl (lf q)).toArray, .agg (cl (lf q)).toArray] W fun e w' => e = .returned (.agg (cl (lf x)).toArray) ∧ W.grownBy w' none := fun W => by
          have := mul5_any W q q HQL.out HQL.out
          rwa [h2] at this
        have HMQ := Lib.hid hmq
        have HROOT0 := Lib.hid hroot0
        clear hmq hroot0 h2 HRC2
        have hress24 : Blk wj.drew gr 27 (cl fun _ => 0) := HRj.out.keep rfl
        refine wp_region_held_drew (S := fun w' => Blk w' g 27 (cl (lf q)) ∧ Blk w' ga 27 (cl (lf x))) (by kernel_rfl) ⟨HBj.out.keep rfl, HAj.out.keep rfl⟩ (fun hHeld => ?_)
        refine' wpAnyH_take (i := 0) (oi := { dst := some 17, op := Op.load 27 (Operand.tmp 4), type := 27, pos := "field.go:106", after := #[], guard := none }) (v := .agg (cl (lf q)).toArray) rfl (by kernel_rfl) (by kernel_rfl) (by kernel_rfl) (fun _ _ _ h => h) (yieldsIf_load_mid (by rfl) _ _ rfl g 0 rfl (cl (lf q)) _ (fun w' hs => range_blk hs.1) Tryd.underlying27 rfl (cl_size' _)) (by assumption) ?_
        try simp only [Act.put, List.setIfInBounds_toArray, List.set_cons_zero, List.set_cons_succ]
        refine' wpAnyH_take (i := 1) (oi := { dst := some 18, op := Op.load 27 (Operand.tmp 4), type := 27, pos := "field.go:106", after := #[], guard := none }) (v := .agg (cl (lf q)).toArray) rfl (by kernel_rfl) (by kernel_rfl) (by kernel_rfl) (fun _ _ _ h => h) (yieldsIf_load_mid (by rfl) _ _ rfl g 0 rfl (cl (lf q)) _ (fun w' hs => range_blk hs.1) Tryd.underlying27 rfl (cl_size' _)) (by assumption) ?_
        try simp only [Act.put, List.setIfInBounds_toArray, List.set_cons_zero, List.set_cons_succ]
        refine' wpAnyH_take (i := 3) (oi := { dst := some 20, op := Op.load 27 (Operand.tmp 1), type := 27, pos := "field.go:106", after := #[], guard := none }) (v := .agg (cl (lf x)).toArray) rfl (by kernel_rfl) (by kernel_rfl) (by kernel_rfl) (fun _ _ _ h => h) (yieldsIf_load_mid (by rfl) _ _ rfl ga 0 rfl (cl (lf x)) _ (fun w' hs => range_blk hs.2) Tryd.underlying27 rfl (cl_size' _)) (by assumption) ?_
        try simp only [Act.put, List.setIfInBounds_toArray, List.set_cons_zero, List.set_cons_succ]
        refine wpAnyH_ready (rs := [2]) (by kernel_rfl) (by simp) ?_
        refine AllReadyH.cons (o := { dst := some 19, op := Op.call { callee := Callee.value (Operand.func 14), args := #[Operand.tmp 17, Operand.tmp 18], argTypes := #[27, 27] }, type := 27, pos := "field.go:106", after := #[{ on := 0, ground := Ground.data }, { on := 1, ground := Ground.data }], guard := none }) rfl (fun K hK => ?_) AllReadyH.nil
        rw [if_pos (by rfl)]
        go_simp
        with_reducible refine (HMQ.out _).mono ?_
        rintro _ wq25 ⟨rfl, hgq25⟩
        have hggq25 : w.grownBy wq25 none := World.grownBy.trans (grown_drew HGj.out) hgq25
        have hrsq25 := Blk.grown hress24 hgq25 (by simp)
        refine hK.out _ _ ⟨hHeld.1.grown hgq25 (by simp), hHeld.2.grown hgq25 (by simp)⟩ (fun hHeld => ?_)
        clear hK K
        try simp only [Act.put, List.setIfInBounds_toArray, List.set_cons_zero, List.set_cons_succ]
        refine' wpAnyH_take (i := 4) (oi := { dst := some 21, op := Op.binOp BinOp.neq 27 (Operand.tmp 19) (Operand.tmp 20) 27, type := 4, pos := "field.go:106", after := #[{ on := 2, ground := Ground.data }, { on := 3, ground := Ground.data }], guard := none }) (v := .bool false) rfl (by kernel_rfl) (by kernel_rfl) (by kernel_rfl) (fun _ _ _ h => h) (yieldsIf_neq27 (by rfl) _ _ rfl HX.out HX.out rfl rfl (by simp)) (by assumption) ?_
        try simp only [Act.put, List.setIfInBounds_toArray, List.set_cons_zero, List.set_cons_succ]
        refine wpAnyH_done (by kernel_rfl) ?_ _
        try dsimp only [Act.put]
        have hblq25 := hHeld.1
        have harq25 := hHeld.2
        clear hHeld
        have HBLq25 := Lib.hid hblq25
        have HARq25 := Lib.hid harq25
        have HRSq25 := Lib.hid hrsq25
        have HGGq25 := Lib.hid hggq25
        clear hblq25 harq25 hrsq25 hggq25 hgq25 hress24
        have c0 := Blk.get HBLq25.out 0 _ (cl_get _ 0 (by omega))
        have hlow := and1 (lf q 0)
        rw [lf_low] at hlow
        by_cases hpar : q % 2 = 1
        · rw [hpar] at hlow
          have hroot : rootN x = some (ng q) := by rw [HROOT0.out, evn_odd HQL.out hpar]
          have hlow2 : bits .and .i64 (lf q 0) 1 = 1 := hlow
          have hneg : ∀ W, Tab W → Calls Tryd.prog 17 #[.agg (cl (lf q)).toArray] W fun e w' => e = .returned (.agg (cl (lf (ng q))).toArray) ∧ W.grownBy w' none := fun W h => neg5_any h q HQL.out
          have HNEG := Lib.hid hneg
          have HROOT := Lib.hid hroot
          clear hlow hneg hpar hroot
          generalize lf q 0 = low at c0 hlow2
          go_wp2_with (first
            | (refine wpList_load_mid rfl 27 _ rfl g 0 rfl (cl (lf q)) _ (range_blk HBLq25.out) Tryd.underlying27 rfl (cl_size' _) ?_)
            | (go_at_call 17
               with_reducible refine (HNEG.out _ (HT.out.more HGGq25.out)).mono ?_
               rintro _ wn ⟨rfl, hgn⟩
               have HBn := Lib.hid (Blk.grown HBLq25.out hgn (by simp))
               have HRn := Lib.hid (Blk.grown HRSq25.out hgn (by simp))
               have HGn : Hid (w.grownBy wn none) := Lib.hid (World.grownBy.trans HGGq25.out hgn)
               clear hgn HNEG)
            | (refine wpList_store_row rfl 27 _ _ rfl g (cl (lf (ng q))).toArray rfl rfl 27 _ HBn.out (cl_size _) (cl_same _ _) (all_oneCell_toArray (cl_one _)) ?_
               obtain ⟨wm, hwm⟩ : ∃ wm, wm = wn.setRow g (cl (lf (ng q))).toArray := ⟨_, rfl⟩
               have hgm : wn.grownBy wm (some g) := by rw [hwm]; exact grown_setRow _ _ _
               have HBm : Hid (Blk wm g 27 (cl (lf (ng q)))) := Lib.hid (by rw [hwm]; exact Blk.setRow HBn.out)
               have HRm : Hid (Blk wm gr 27 (cl fun _ => 0)) := Lib.hid (HRn.out.grown hgm (fun e => HNE.out.2 (Option.some.inj e).symm))
               have HGm : Hid (w.grownBy wm none) := Lib.hid (World.grownBy.andThen HGn.out hgm (by rintro _ ⟨⟩; exact .inl HNEW.out))
               rw [← hwm]
               clear hwm hgm HBn HRn HGn)
            | (refine wpList_load_mid rfl 27 _ rfl g 0 rfl (cl (lf (ng q))) _ (range_blk HBm.out) Tryd.underlying27 rfl (cl_size' _) ?_)
            | (refine wpList_store_row rfl 27 _ _ rfl gr (cl (lf (ng q))).toArray rfl rfl 27 _ HRm.out (cl_size _) (cl_same _ _) (all_oneCell_toArray (cl_one _)) ?_)
            | fail)
          have hroot := HROOT.out
          rw [HD.out, HBB.out, hroot]
          exact bodyPost_ret (results_root5 rfl _ _ gr (lf (ng q)) rfl (setRow_heap _ gr _ _ 27 (0, 0) HRm.out)) rfl ⟨rfl, World.grownBy.andThen HGm.out (grown_setRow _ _ _) (by rintro _ ⟨⟩; exact .inl HWR.out)⟩
        · have hz : q % 2 = 0 := by omega
          rw [hz] at hlow
          have hroot : rootN x = some q := by rw [HROOT0.out, ← evn_ev HQL.out hpar]
          have hlow2 : bits .and .i64 (lf q 0) 1 = 0 := hlow
          have HROOT := Lib.hid hroot
          clear hlow hz hpar hroot
          generalize lf q 0 = low at c0 hlow2
          go_wp2_with (first
            | (refine wpList_load_mid rfl 27 _ rfl g 0 rfl (cl (lf q)) _ (range_blk HBLq25.out) Tryd.underlying27 rfl (cl_size' _) ?_)
            | (refine wpList_store_row rfl 27 _ _ rfl gr (cl (lf q)).toArray rfl rfl 27 _ HRSq25.out (cl_size _) (cl_same _ _) (all_oneCell_toArray (cl_one _)) ?_)
            | fail)
          have hroot := HROOT.out
          rw [HD.out, HBB.out, hroot]
          exact bodyPost_ret (results_root5 rfl _ _ gr (lf q) rfl (setRow_heap _ gr _ _ 27 (0, 0) HRSq25.out)) rfl ⟨rfl, World.grownBy.andThen HGGq25.out (grown_setRow _ _ _) (by rintro _ ⟨⟩; exact .inl HWR.out)⟩
      · have hroot := HRC2.out.2 h2
        obtain ⟨s2, hs2⟩ : ∃ s, s = q * q % fq := ⟨_, rfl⟩
        have hs2l : s2 < fq := by rw [hs2]; exact Nat.mod_lt _ fq_pos
        have hmq : ∀ W, Calls Tryd.prog 14 #[.agg (cl (lf q)).toArray, .agg (cl (lf q)).toArray] W fun e w' => e = .returned (.agg (cl (lf s2)).toArray) ∧ W.grownBy w' none := fun W => by rw [hs2]; exact mul5_any W q q HQL.out HQL.out
        rw [← hs2] at h2
        have hc2 : (!decide (s2 = x)) = true := by simp [h2]
        have HMQ := Lib.hid hmq
        have HROOT := Lib.hid hroot
        have HS2 := Lib.hid hs2l
        have HC2 := Lib.hid hc2
        clear hmq hroot h2 HRC2 hs2 hs2l hc2
        have hress26 : Blk wj.drew gr 27 (cl fun _ => 0) := HRj.out.keep rfl
        refine wp_region_held_drew (S := fun w' => Blk w' g 27 (cl (lf q)) ∧ Blk w' ga 27 (cl (lf x))) (by kernel_rfl) ⟨HBj.out.keep rfl, HAj.out.keep rfl⟩ (fun hHeld => ?_)
        refine' wpAnyH_take (i := 0) (oi := { dst := some 17, op := Op.load 27 (Operand.tmp 4), type := 27, pos := "field.go:106", after := #[], guard := none }) (v := .agg (cl (lf q)).toArray) rfl (by kernel_rfl) (by kernel_rfl) (by kernel_rfl) (fun _ _ _ h => h) (yieldsIf_load_mid (by rfl) _ _ rfl g 0 rfl (cl (lf q)) _ (fun w' hs => range_blk hs.1) Tryd.underlying27 rfl (cl_size' _)) (by assumption) ?_
        try simp only [Act.put, List.setIfInBounds_toArray, List.set_cons_zero, List.set_cons_succ]
        refine' wpAnyH_take (i := 1) (oi := { dst := some 18, op := Op.load 27 (Operand.tmp 4), type := 27, pos := "field.go:106", after := #[], guard := none }) (v := .agg (cl (lf q)).toArray) rfl (by kernel_rfl) (by kernel_rfl) (by kernel_rfl) (fun _ _ _ h => h) (yieldsIf_load_mid (by rfl) _ _ rfl g 0 rfl (cl (lf q)) _ (fun w' hs => range_blk hs.1) Tryd.underlying27 rfl (cl_size' _)) (by assumption) ?_
        try simp only [Act.put, List.setIfInBounds_toArray, List.set_cons_zero, List.set_cons_succ]
        refine' wpAnyH_take (i := 3) (oi := { dst := some 20, op := Op.load 27 (Operand.tmp 1), type := 27, pos := "field.go:106", after := #[], guard := none }) (v := .agg (cl (lf x)).toArray) rfl (by kernel_rfl) (by kernel_rfl) (by kernel_rfl) (fun _ _ _ h => h) (yieldsIf_load_mid (by rfl) _ _ rfl ga 0 rfl (cl (lf x)) _ (fun w' hs => range_blk hs.2) Tryd.underlying27 rfl (cl_size' _)) (by assumption) ?_
        try simp only [Act.put, List.setIfInBounds_toArray, List.set_cons_zero, List.set_cons_succ]
        refine wpAnyH_ready (rs := [2]) (by kernel_rfl) (by simp) ?_
        refine AllReadyH.cons (o := { dst := some 19, op := Op.call { callee := Callee.value (Operand.func 14), args := #[Operand.tmp 17, Operand.tmp 18], argTypes := #[27, 27] }, type := 27, pos := "field.go:106", after := #[{ on := 0, ground := Ground.data }, { on := 1, ground := Ground.data }], guard := none }) rfl (fun K hK => ?_) AllReadyH.nil
        rw [if_pos (by rfl)]
        go_simp
        with_reducible refine (HMQ.out _).mono ?_
        rintro _ wq27 ⟨rfl, hgq27⟩
        have hggq27 : w.grownBy wq27 none := World.grownBy.trans (grown_drew HGj.out) hgq27
        have hrsq27 := Blk.grown hress26 hgq27 (by simp)
        refine hK.out _ _ ⟨hHeld.1.grown hgq27 (by simp), hHeld.2.grown hgq27 (by simp)⟩ (fun hHeld => ?_)
        clear hK K
        try simp only [Act.put, List.setIfInBounds_toArray, List.set_cons_zero, List.set_cons_succ]
        refine' wpAnyH_take (i := 4) (oi := { dst := some 21, op := Op.binOp BinOp.neq 27 (Operand.tmp 19) (Operand.tmp 20) 27, type := 4, pos := "field.go:106", after := #[{ on := 2, ground := Ground.data }, { on := 3, ground := Ground.data }], guard := none }) (v := .bool true) rfl (by kernel_rfl) (by kernel_rfl) (by kernel_rfl) (fun _ _ _ h => h) (yieldsIf_neq27 (by rfl) _ _ rfl HS2.out HX.out rfl rfl HC2.out) (by assumption) ?_
        try simp only [Act.put, List.setIfInBounds_toArray, List.set_cons_zero, List.set_cons_succ]
        refine wpAnyH_done (by kernel_rfl) ?_ _
        try dsimp only [Act.put]
        have hblq27 := hHeld.1
        have harq27 := hHeld.2
        clear hHeld
        have HBLq27 := Lib.hid hblq27
        have HARq27 := Lib.hid harq27
        have HRSq27 := Lib.hid hrsq27
        have HGGq27 := Lib.hid hggq27
        clear hblq27 harq27 hrsq27 hggq27 hgq27 hress26
        go_wp2_with (first
          | (refine wpList_build27z rfl rfl ?_
             unfold ls)
          | (refine wpList_store_row rfl 27 _ _ rfl gr (cl (lf 0)).toArray rfl rfl 27 _ HRSq27.out (cl_size _) (cl_same _ _) (all_oneCell_toArray (cl_one _)) ?_)
          | fail)
        have hroot := HROOT.out
        rw [HD.out, HBB.out, hroot]
        exact bodyPost_ret (results_root5 rfl _ _ gr (lf 0) rfl (setRow_heap _ gr _ _ 27 (0, 0) HRSq27.out)) rfl ⟨rfl, World.grownBy.andThen HGGq27.out (grown_setRow _ _ _) (by rintro _ ⟨⟩; exact .inl HWR.out)⟩
end Go.Proofs.YtoookolekpblhaaDoor
