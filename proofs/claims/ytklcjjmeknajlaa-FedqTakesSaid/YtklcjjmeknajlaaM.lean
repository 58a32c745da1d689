/- fedq.Put of an item that asks, where there is room. Conditions: the items ask, the asker is one of five. -/
import Derived.Test.YtklcjjmeknajlaaK
namespace Go.Proofs.Ytklcjjmeknajlaa
open Go.RowKit
section
variable {w : World} {o : Oper} {a : Act} {K : Act → World → Prop} {Q : Exit → Act → World → Prop}
theorem wp_sliceI (x : Operand) (ho : o.op = .buildSlice 27 1 #[(0, x)]) {y : Kep} (hx : a.eval x = .agg (kv y).toArray)
    (h : ∀ g w', Hid (g = w.heap.size) → Hid (Kps w' (fun b => b = g) (some ⟨g, 0, none⟩) [y]) → Hid (w.grownBy w' none) → K (a.put o.dst (.slice (some ⟨g, 0, none⟩) 1 1)) w') : o.wp Try.prog a w K Q := by
  have hrun := run_buildSliceI w y
  have hb : Blk (w.alloc (.cells (kv y).toArray 49)) w.heap.size 49 (kv y) := Blk.of_alloc w (kv y).toArray 49
  have hk : Hid (Kps (w.alloc (.cells (kv y).toArray 49)) (fun b => b = w.heap.size) (some ⟨w.heap.size, 0, none⟩) [y]) := fun i hi => by
    obtain rfl : i = 0 := by simpa using hi
    exact ⟨_, 0, rfl, rfl, by simpa using range_of hb⟩
  generalize kv y = z at *
  unfold Oper.wp
  simp only [execOp, ho, List.map_toArray, List.map_cons, List.map_nil, hx, Sem.run_bind, hrun, Result.andThen_ok, Sem.run_pure]
  exact h _ _ rfl hk (World.grownBy_alloc w _ none)
end
set_option maxRecDepth 100000 in
set_option maxHeartbeats 4000000 in
theorem qput_any {w : World} {ok : Nat → Prop} {A : Option Addr} {L : List Kep} {n c : Nat} {k : Nat} (s i wa ba : Int) (hL : Kps w ok A L) (hn : L.length = n) (hle : n < 8) (hk : k < 5) :
    Calls Try.prog 7 #[.agg (qv (.slice A n c) s i wa ba).toArray, .agg (kv k).toArray] w fun e w' => ∃ v, e = .returned (.tuple #[v, .int .i64 0]) ∧ QueV w (n + 1) (L ++ [k]) s i wa ba v w' := by
  obtain ⟨z, hz⟩ : ∃ z, z = qv (.slice A n c) s i wa ba := ⟨_, rfl⟩
  obtain ⟨y, hy⟩ : ∃ y, y = kv k := ⟨_, rfl⟩
  have HZ := Lib.hid hz
  have HY := Lib.hid hy
  have HL := Lib.hid hL
  have HN := Lib.hid hn
  have HLE : Hid (n ≤ 100) := by show _ ≤ _; omega
  have HK := Lib.hid hk
  have H8 := Lib.hid hle
  rw [← hz, ← hy]
  clear hz hy hL hn hk
  go_enter Try.func7, Try.ntmps7
  go_wp2_with (first | (refine wpList_boxG rfl (.tmp 0) rfl (vs := z) rfl ?_) | fail)
  intro g w1 e1 b1 q1
  have B1 : Hid (Blk w1 g 29 (qv (.slice A n c) s i wa ba)) := by have h := b1.out; rw [HZ.out] at h; exact h
  have Q1 := Lib.hid q1.out
  have E1 : Hid (w.heap.size ≤ g) := by rw [e1.out]; exact Nat.le_refl _
  clear e1 b1 q1
  go_wp2_with (first | (refine wpList_boxG rfl (.tmp 1) rfl (vs := y) rfl ?_) | fail)
  intro gx w2 e2 b2 q2
  have X2 : Hid (Blk w2 gx 49 (kv k)) := by have h := b2.out; rw [HY.out] at h; exact h
  have B2 := Lib.hid (B1.out.grown q2.out (by simp))
  have Q2 := Lib.hid (Q1.out.trans q2.out)
  have N2 : Hid (g ≠ gx) := by rw [e2.out]; exact Nat.ne_of_lt B1.out.lt
  clear e2 b2 q2 B1 Q1
  go_wp2_with (first | (refine wpList_allocG zeQ rfl rfl ?_) | fail)
  intro gr w3 e3 b3 q3
  have hb3 := B2.out.grown q3.out (by simp)
  have c30 : w3.cell? ⟨g, 0, none⟩ = some (.slice A n c) := hb3.get 0 _ rfl
  have X3 := Lib.hid (X2.out.grown q3.out (by simp))
  have E3 : Hid (w.heap.size ≤ gr) := by rw [e3.out]; exact Q2.out.size
  have NE : Hid (g ≠ gr) := by rw [e3.out]; exact Nat.ne_of_lt B2.out.lt
  have NX : Hid (gx ≠ gr) := by rw [e3.out]; exact Nat.ne_of_lt X2.out.lt
  have Q3 := Lib.hid (Q2.out.trans q3.out)
  have BR := Lib.hid b3.out
  have B3 := Lib.hid hb3
  have hown := own_any (c := c) (HL.out.grown Q3.out) HN.out HLE.out
  have OW := Lib.hid hown
  clear e3 b3 q3 hb3 hown B2 Q2 X2
  go_wp2_with (first | (go_at_call 12; refine OW.out.mono ?_; rintro _ w4 ⟨A4, c4, rfl, r4, q4⟩; have R4 := Lib.hid r4; have Q4 := Lib.hid q4; have B4 := Lib.hid (B3.out.grown q4 (by simp)); clear r4 q4 c30) | (refine wpList_store_cell rfl 27 (.tmp 11) (.tmp 10) rfl size27 g 0 (.slice A4 n c4) rfl rfl rfl (qv (.slice A n c) s i wa ba) 29 B4.out (by rw [qv_length]; omega) ?_) | fail)
  intro w5 b5 r5
  have B5 : Hid (Blk w5 g 29 (qv (.slice A4 n c4) s i wa ba)) := b5.out
  have hlg := B3.out.lt
  have hlx := X3.out.lt
  have hlr := BR.out.lt
  have R5 : Hid (KRow w3.heap.size w5 (.slice A4 n c4) n L) := R4.out.at (Nat.le_refl _) fun b hb1 _ => r5.out.block b (by omega)
  have L5 : Hid (Below w3.heap.size w3 w5 ∨ True) := .inr trivial
  have X5 : Hid (Blk w5 gx 49 (kv k)) := (X3.out.grown Q4.out (by simp)).keep (r5.out.block gx N2.out.symm)
  have BR5 : Hid (Blk w5 gr 29 (qv nl 0 0 0 0)) := (BR.out.grown Q4.out (by simp)).keep (r5.out.block gr NE.out.symm)
  have Q5 : Hid (w.grownBy w5 none) := grown_in (Q3.out.trans Q4.out) r5.out.grown E1.out
  have S5 : Hid (w3.heap.size ≤ w5.heap.size) := by show _ ≤ _; rw [r5.out.size]; exact Q4.out.size
  have LG := Lib.hid hlg
  have LX := Lib.hid hlx
  have LR := Lib.hid hlr
  have d1 : ¬ (8 : Int) ≤ (n : Int) := by omega
  clear b5 r5 hlg hlx hlr B4 B3 X3 BR R4 Q4 L5 OW Q3
  have PU := Lib.hid (put_any w5 k HK.out)
  go_wp2_with (first | (refine wpList_loadG agI rfl (.tmp 3) rfl gx rfl X5.out (kv_length trivial) ?_) | (go_at_call 13; refine PU.out.mono ?_; rintro _ w6 ⟨A6, c6, rfl, _, _, q6⟩; have hb6 := B5.out.grown q6 (by simp); have c60 : w6.cell? ⟨g, 0, none⟩ = some (.slice A4 n c4) := hb6.get 0 _ rfl; have B6 := Lib.hid hb6; have Q6 := Lib.hid q6; clear hb6 q6 PU) | fail)
  have R6 : Hid (KRow w3.heap.size w6 (.slice A4 n c4) n L) := R5.out.at (Nat.le_refl _) fun b _ hb2 => Q6.out.block b hb2 (by simp)
  have X6 := Lib.hid (X5.out.grown Q6.out (by simp))
  have BR6 := Lib.hid (BR5.out.grown Q6.out (by simp))
  have Q7 := Lib.hid (Q5.out.trans Q6.out)
  have S6 : Hid (w3.heap.size ≤ w6.heap.size) := Nat.le_trans S5.out Q6.out.size
  clear R5 X5 BR5 Q5 S5 B5 Q6 c60
  go_wp2_with fail
  refine wp_region_held_drew (S := fun W => Blk W gx 49 (kv k)) (by kernel_rfl) X6.out (fun hHeld => ?_)
  obtain ⟨V, hV⟩ : ∃ V, V = w6.drew := ⟨_, rfl⟩
  have VB : Hid (Blk V g 29 (qv (.slice A4 n c4) s i wa ba)) := by rw [hV]; exact B6.out
  have VX : Hid (Blk V gr 29 (qv nl 0 0 0 0)) := by rw [hV]; exact BR6.out
  have VR : Hid (KRow w3.heap.size V (.slice A4 n c4) n L) := R6.out.at (Nat.le_refl _) fun b _ _ => by rw [hV]; rfl
  have VL : Hid (w.grownBy V none) := by rw [hV]; exact Q7.out.trans (grown_drew w6)
  have VZ : Hid (w3.heap.size ≤ V.heap.size) := by rw [hV]; exact S6.out
  rw [← hV] at hHeld ⊢
  clear hV
  refine' wpAnyH_take (i := 0) (oi := { dst := some 32, op := Op.fieldAddr 29 (Operand.tmp 2) 0, type := 0, pos := "fedq.go:21", after := #[], guard := none }) (v := .pointer (some ⟨g, 0, none⟩)) rfl (by kernel_rfl) (by kernel_rfl) (by kernel_rfl) (fun _ _ _ h => h) (Or.inl ⟨by rfl, fun w' hSw => by go_simp⟩) (by assumption) ?qz1
  try simp only [Act.put, List.setIfInBounds_toArray, List.set_cons_zero, List.set_cons_succ]
  refine' wpAnyH_take (i := 2) (oi := { dst := some 34, op := Op.load 49 (Operand.tmp 3), type := 49, pos := "fedq.go:21", after := #[], guard := none }) (v := .agg (kv k).toArray) rfl (by kernel_rfl) (by kernel_rfl) (by kernel_rfl) (fun _ _ _ h => h) (yieldsIf_loadR agI (by rfl) (.tmp 3) rfl gx 0 rfl (kv_length trivial) (fun _ h => range_of h)) (by assumption) ?qz2
  try simp only [Act.put, List.setIfInBounds_toArray, List.set_cons_zero, List.set_cons_succ]
  refine wpAnyH_ready (rs := [1, 3]) (by kernel_rfl) (by simp) ?_
  refine AllReadyH.cons (o := { dst := some 33, op := Op.load 27 (Operand.tmp 32), type := 27, pos := "fedq.go:21", after := #[{ on := 0, ground := Ground.data }], guard := none }) rfl (fun K hK => ?_) (AllReadyH.cons (o := { dst := some 35, op := Op.buildSlice 27 1 #[(0, Operand.tmp 34)], type := 27, pos := "fedq.go:21", after := #[{ on := 2, ground := Ground.data }], guard := none }) rfl (fun K hK => ?_) AllReadyH.nil)
  · rw [if_pos (by rfl)]
    have cz3 : World.cell? V ⟨g, 0, none⟩ = some (.slice A4 n c4) := VB.out.get 0 _ rfl
    go_simp
    refine hK.out _ _ hHeld (fun hHeld => ?_)
    clear hK K
    try simp only [Act.put, List.setIfInBounds_toArray, List.set_cons_zero, List.set_cons_succ]
    refine wpAnyH_ready (rs := [3]) (by kernel_rfl) (by simp) ?_
    refine AllReadyH.cons (o := { dst := some 35, op := Op.buildSlice 27 1 #[(0, Operand.tmp 34)], type := 27, pos := "fedq.go:21", after := #[{ on := 2, ground := Ground.data }], guard := none }) rfl (fun K hK => ?_) AllReadyH.nil
    rw [if_pos (by rfl)]
    refine wp_sliceI (.tmp 34) rfl rfl (fun gsz4 vz5 ez6 kz7 qz8 => ?_)
    have qz9 := qz8.out
    have bz10 := VB.out.grown qz9 (by simp)
    have xz12 := VX.out.grown qz9 (by simp)
    have rz11 : KRow w3.heap.size vz5 (.slice A4 n c4) n L := VR.out.at (Nat.le_refl _) fun b _ hb2 => World.grownBy.block qz9 b hb2 (by simp)
    have lz13 := VL.out.trans qz9
    have zz14 : w3.heap.size ≤ vz5.heap.size := Nat.le_trans VZ.out (World.grownBy.size qz9)
    refine hK.out _ _ (hHeld.grown qz9 (by simp)) (fun hHeld => ?_)
    clear hK K
    try simp only [Act.put, List.setIfInBounds_toArray, List.set_cons_zero, List.set_cons_succ]
    refine wpAnyH_ready (rs := [4]) (by kernel_rfl) (by simp) ?_
    refine AllReadyH.cons (o := { dst := some 36, op := Op.call { callee := Callee.value (Operand.func 12), args := #[Operand.tmp 35], argTypes := #[27] }, type := 27, pos := "fedq.go:21", after := #[{ on := 3, ground := Ground.data }], guard := none }) rfl (fun K hK => ?_) AllReadyH.nil
    rw [if_pos (by rfl)]
    go_simp
    with_reducible refine (own_any (n := 1) (c := 1) kz7.out rfl (by omega)).mono ?_
    rintro _ vz15 ⟨Ao, co, rfl, ro, qz16⟩
    have bz17 := bz10.grown qz16 (by simp)
    have xz19 := xz12.grown qz16 (by simp)
    have rz18 : KRow w3.heap.size vz15 (.slice A4 n c4) n L := rz11.at (Nat.le_refl _) fun b _ hb2 => World.grownBy.block qz16 b hb2 (by simp)
    have lz20 := lz13.trans qz16
    have zz21 : w3.heap.size ≤ vz15.heap.size := Nat.le_trans zz14 (World.grownBy.size qz16)
    refine hK.out _ _ (hHeld.grown qz16 (by simp)) (fun hHeld => ?_)
    clear hK K
    try simp only [Act.put, List.setIfInBounds_toArray, List.set_cons_zero, List.set_cons_succ]
    refine wpAnyH_ready (rs := [5]) (by kernel_rfl) (by simp) ?_
    refine AllReadyH.cons (o := { dst := some 37, op := Op.call { callee := Callee.builtin Builtin.append, args := #[Operand.tmp 33, Operand.tmp 36], argTypes := #[27, 27] }, type := 27, pos := "fedq.go:21", after := #[{ on := 1, ground := Ground.data }, { on := 4, ground := Ground.data }, { on := 4, ground := Ground.chain }], guard := none }) rfl (fun K hK => ?_) AllReadyH.nil
    rw [if_pos (by rfl)]
    obtain ⟨Ao2, co2, eo, _, _, ko⟩ := ro.kps
    cases eo
    refine op_appK (.tmp 33) (.tmp 36) rfl (v := .slice A4 n c4) (c2 := co) (k := n + 1) rfl rfl rz18 (fun _ _ => trivial) ko rfl rfl (by have := H8.out; omega) zz21 (fun A9 c9 v9 r9 l9 => ?_)
    have b9 := bz17.below l9.out LG.out
    have x9 := xz19.below l9.out LR.out
    have h9 := (grown_below lz20).trans (l9.out.mono (Nat.le_of_lt (Nat.lt_of_le_of_lt E3.out LR.out)))
    refine hK.out _ _ (hHeld.below l9.out LX.out) (fun hHeld => ?_)
    clear hK K
    try simp only [Act.put, List.setIfInBounds_toArray, List.set_cons_zero, List.set_cons_succ]
    refine' wpAnyH_take (i := 6) (oi := { dst := some 38, op := Op.fieldAddr 29 (Operand.tmp 2) 0, type := 0, pos := "fedq.go:21", after := #[{ on := 0, ground := Ground.phase }, { on := 1, ground := Ground.phase }, { on := 2, ground := Ground.phase }, { on := 3, ground := Ground.phase }, { on := 4, ground := Ground.phase }, { on := 5, ground := Ground.phase }], guard := none }) (v := .pointer (some ⟨g, 0, none⟩)) rfl (by kernel_rfl) (by kernel_rfl) (by kernel_rfl) (fun _ _ _ h => h) (Or.inl ⟨by rfl, fun w' hSw => by go_simp⟩) (by assumption) ?qz22
    try simp only [Act.put, List.setIfInBounds_toArray, List.set_cons_zero, List.set_cons_succ]
    refine wpAnyH_ready (rs := [7]) (by kernel_rfl) (by simp) ?_
    refine AllReadyH.cons (o := { dst := none, op := Op.store 27 (Operand.tmp 38) (Operand.tmp 37), type := 0, pos := "fedq.go:21", after := #[{ on := 6, ground := Ground.data }, { on := 5, ground := Ground.data }, { on := 5, ground := Ground.chain }, { on := 0, ground := Ground.phase }, { on := 1, ground := Ground.phase }, { on := 2, ground := Ground.phase }, { on := 3, ground := Ground.phase }, { on := 4, ground := Ground.phase }, { on := 5, ground := Ground.phase }], guard := none }) rfl (fun K hK => ?_) AllReadyH.nil
    rw [if_pos (by rfl)]
    refine wp_store_cell 27 _ _ rfl size27 g 0 (.slice A9 (n + 1) c9) rfl rfl rfl _ 29 b9 (by rw [qv_length]; omega) (fun v10 b10 s10 => ?_)
    refine hK.out _ _ (hHeld.keep (s10.out.block gx N2.out.symm)) (fun hHeld => ?_)
    clear hK K
    dsimp only [Act.put]
    refine wpAnyH_done (by kernel_rfl) ?_ _
    have B10 : Hid (Blk v10 g 29 (qv (.slice A9 (n + 1) c9) s i wa ba)) := b10.out
    have BR10 : Hid (Blk v10 gr 29 (qv nl 0 0 0 0)) := x9.keep (s10.out.block gr NE.out.symm)
    have R10 : Hid (KRow w3.heap.size v10 (.slice A9 (n + 1) c9) (n + 1) (L ++ [k])) := r9.out.at (Nat.le_refl _) fun b hb1 _ => s10.out.block b (by have := LG.out; omega)
    have H10 := Lib.hid (below_in h9 s10.out.grown E1.out h9.size)
    go_wp2_with (first | (refine wpList_loadG agQ rfl (.tmp 2) rfl g rfl B10.out (qv_length _ _ _ _ _) ?_) | (refine wpList_storeG agQ rfl (.tmp 4) (.tmp 39) rfl gr rfl rfl BR10.out (qv_length _ _ _ _ _) (qv_length _ _ _ _ _) (qv_one _ _ _ _ _ _ _) ?_) | fail)
    intro w11 b11 q11 _
    go_wp2
    refine bodyPost_ret (res_cs rfl agQ rfl rfl b11.out (qv_length _ _ _ _ _)) rfl ⟨_, rfl, A9, c9, rfl, ?_, ?_⟩
    · have h1 := E3.out
      have h2 := LR.out
      exact R10.out.at (by omega) fun b hb1 hb2 => q11.out.block b hb2 (by simp; omega)
    · exact below_grown (below_in H10.out q11.out E3.out H10.out.size)
  · rw [if_pos (by rfl)]
    refine wp_sliceI (.tmp 34) rfl rfl (fun gsz23 vz24 ez25 kz26 qz27 => ?_)
    have qz28 := qz27.out
    have bz29 := VB.out.grown qz28 (by simp)
    have xz31 := VX.out.grown qz28 (by simp)
    have rz30 : KRow w3.heap.size vz24 (.slice A4 n c4) n L := VR.out.at (Nat.le_refl _) fun b _ hb2 => World.grownBy.block qz28 b hb2 (by simp)
    have lz32 := VL.out.trans qz28
    have zz33 : w3.heap.size ≤ vz24.heap.size := Nat.le_trans VZ.out (World.grownBy.size qz28)
    refine hK.out _ _ (hHeld.grown qz28 (by simp)) (fun hHeld => ?_)
    clear hK K
    try simp only [Act.put, List.setIfInBounds_toArray, List.set_cons_zero, List.set_cons_succ]
    refine wpAnyH_ready (rs := [1, 4]) (by kernel_rfl) (by simp) ?_
    refine AllReadyH.cons (o := { dst := some 33, op := Op.load 27 (Operand.tmp 32), type := 27, pos := "fedq.go:21", after := #[{ on := 0, ground := Ground.data }], guard := none }) rfl (fun K hK => ?_) (AllReadyH.cons (o := { dst := some 36, op := Op.call { callee := Callee.value (Operand.func 12), args := #[Operand.tmp 35], argTypes := #[27] }, type := 27, pos := "fedq.go:21", after := #[{ on := 3, ground := Ground.data }], guard := none }) rfl (fun K hK => ?_) AllReadyH.nil)
    · rw [if_pos (by rfl)]
      have cz34 : World.cell? vz24 ⟨g, 0, none⟩ = some (.slice A4 n c4) := bz29.get 0 _ rfl
      go_simp
      refine hK.out _ _ hHeld (fun hHeld => ?_)
      clear hK K
      try simp only [Act.put, List.setIfInBounds_toArray, List.set_cons_zero, List.set_cons_succ]
      refine wpAnyH_ready (rs := [4]) (by kernel_rfl) (by simp) ?_
      refine AllReadyH.cons (o := { dst := some 36, op := Op.call { callee := Callee.value (Operand.func 12), args := #[Operand.tmp 35], argTypes := #[27] }, type := 27, pos := "fedq.go:21", after := #[{ on := 3, ground := Ground.data }], guard := none }) rfl (fun K hK => ?_) AllReadyH.nil
      rw [if_pos (by rfl)]
      go_simp
      with_reducible refine (own_any (n := 1) (c := 1) kz26.out rfl (by omega)).mono ?_
      rintro _ vz35 ⟨Ao, co, rfl, ro, qz36⟩
      have bz37 := bz29.grown qz36 (by simp)
      have xz39 := xz31.grown qz36 (by simp)
      have rz38 : KRow w3.heap.size vz35 (.slice A4 n c4) n L := rz30.at (Nat.le_refl _) fun b _ hb2 => World.grownBy.block qz36 b hb2 (by simp)
      have lz40 := lz32.trans qz36
      have zz41 : w3.heap.size ≤ vz35.heap.size := Nat.le_trans zz33 (World.grownBy.size qz36)
      refine hK.out _ _ (hHeld.grown qz36 (by simp)) (fun hHeld => ?_)
      clear hK K
      try simp only [Act.put, List.setIfInBounds_toArray, List.set_cons_zero, List.set_cons_succ]
      refine wpAnyH_ready (rs := [5]) (by kernel_rfl) (by simp) ?_
      refine AllReadyH.cons (o := { dst := some 37, op := Op.call { callee := Callee.builtin Builtin.append, args := #[Operand.tmp 33, Operand.tmp 36], argTypes := #[27, 27] }, type := 27, pos := "fedq.go:21", after := #[{ on := 1, ground := Ground.data }, { on := 4, ground := Ground.data }, { on := 4, ground := Ground.chain }], guard := none }) rfl (fun K hK => ?_) AllReadyH.nil
      rw [if_pos (by rfl)]
      obtain ⟨Ao2, co2, eo, _, _, ko⟩ := ro.kps
      cases eo
      refine op_appK (.tmp 33) (.tmp 36) rfl (v := .slice A4 n c4) (c2 := co) (k := n + 1) rfl rfl rz38 (fun _ _ => trivial) ko rfl rfl (by have := H8.out; omega) zz41 (fun A9 c9 v9 r9 l9 => ?_)
      have b9 := bz37.below l9.out LG.out
      have x9 := xz39.below l9.out LR.out
      have h9 := (grown_below lz40).trans (l9.out.mono (Nat.le_of_lt (Nat.lt_of_le_of_lt E3.out LR.out)))
      refine hK.out _ _ (hHeld.below l9.out LX.out) (fun hHeld => ?_)
      clear hK K
      try simp only [Act.put, List.setIfInBounds_toArray, List.set_cons_zero, List.set_cons_succ]
      refine' wpAnyH_take (i := 6) (oi := { dst := some 38, op := Op.fieldAddr 29 (Operand.tmp 2) 0, type := 0, pos := "fedq.go:21", after := #[{ on := 0, ground := Ground.phase }, { on := 1, ground := Ground.phase }, { on := 2, ground := Ground.phase }, { on := 3, ground := Ground.phase }, { on := 4, ground := Ground.phase }, { on := 5, ground := Ground.phase }], guard := none }) (v := .pointer (some ⟨g, 0, none⟩)) rfl (by kernel_rfl) (by kernel_rfl) (by kernel_rfl) (fun _ _ _ h => h) (Or.inl ⟨by rfl, fun w' hSw => by go_simp⟩) (by assumption) ?qz42
      try simp only [Act.put, List.setIfInBounds_toArray, List.set_cons_zero, List.set_cons_succ]
      refine wpAnyH_ready (rs := [7]) (by kernel_rfl) (by simp) ?_
      refine AllReadyH.cons (o := { dst := none, op := Op.store 27 (Operand.tmp 38) (Operand.tmp 37), type := 0, pos := "fedq.go:21", after := #[{ on := 6, ground := Ground.data }, { on := 5, ground := Ground.data }, { on := 5, ground := Ground.chain }, { on := 0, ground := Ground.phase }, { on := 1, ground := Ground.phase }, { on := 2, ground := Ground.phase }, { on := 3, ground := Ground.phase }, { on := 4, ground := Ground.phase }, { on := 5, ground := Ground.phase }], guard := none }) rfl (fun K hK => ?_) AllReadyH.nil
      rw [if_pos (by rfl)]
      refine wp_store_cell 27 _ _ rfl size27 g 0 (.slice A9 (n + 1) c9) rfl rfl rfl _ 29 b9 (by rw [qv_length]; omega) (fun v10 b10 s10 => ?_)
      refine hK.out _ _ (hHeld.keep (s10.out.block gx N2.out.symm)) (fun hHeld => ?_)
      clear hK K
      dsimp only [Act.put]
      refine wpAnyH_done (by kernel_rfl) ?_ _
      have B10 : Hid (Blk v10 g 29 (qv (.slice A9 (n + 1) c9) s i wa ba)) := b10.out
      have BR10 : Hid (Blk v10 gr 29 (qv nl 0 0 0 0)) := x9.keep (s10.out.block gr NE.out.symm)
      have R10 : Hid (KRow w3.heap.size v10 (.slice A9 (n + 1) c9) (n + 1) (L ++ [k])) := r9.out.at (Nat.le_refl _) fun b hb1 _ => s10.out.block b (by have := LG.out; omega)
      have H10 := Lib.hid (below_in h9 s10.out.grown E1.out h9.size)
      go_wp2_with (first | (refine wpList_loadG agQ rfl (.tmp 2) rfl g rfl B10.out (qv_length _ _ _ _ _) ?_) | (refine wpList_storeG agQ rfl (.tmp 4) (.tmp 39) rfl gr rfl rfl BR10.out (qv_length _ _ _ _ _) (qv_length _ _ _ _ _) (qv_one _ _ _ _ _ _ _) ?_) | fail)
      intro w11 b11 q11 _
      go_wp2
      refine bodyPost_ret (res_cs rfl agQ rfl rfl b11.out (qv_length _ _ _ _ _)) rfl ⟨_, rfl, A9, c9, rfl, ?_, ?_⟩
      · have h1 := E3.out
        have h2 := LR.out
        exact R10.out.at (by omega) fun b hb1 hb2 => q11.out.block b hb2 (by simp; omega)
      · exact below_grown (below_in H10.out q11.out E3.out H10.out.size)
    · rw [if_pos (by rfl)]
      go_simp
      with_reducible refine (own_any (n := 1) (c := 1) kz26.out rfl (by omega)).mono ?_
      rintro _ vz43 ⟨Ao, co, rfl, ro, qz44⟩
      have bz45 := bz29.grown qz44 (by simp)
      have xz47 := xz31.grown qz44 (by simp)
      have rz46 : KRow w3.heap.size vz43 (.slice A4 n c4) n L := rz30.at (Nat.le_refl _) fun b _ hb2 => World.grownBy.block qz44 b hb2 (by simp)
      have lz48 := lz32.trans qz44
      have zz49 : w3.heap.size ≤ vz43.heap.size := Nat.le_trans zz33 (World.grownBy.size qz44)
      refine hK.out _ _ (hHeld.grown qz44 (by simp)) (fun hHeld => ?_)
      clear hK K
      try simp only [Act.put, List.setIfInBounds_toArray, List.set_cons_zero, List.set_cons_succ]
      refine wpAnyH_ready (rs := [1]) (by kernel_rfl) (by simp) ?_
      refine AllReadyH.cons (o := { dst := some 33, op := Op.load 27 (Operand.tmp 32), type := 27, pos := "fedq.go:21", after := #[{ on := 0, ground := Ground.data }], guard := none }) rfl (fun K hK => ?_) AllReadyH.nil
      rw [if_pos (by rfl)]
      have cz50 : World.cell? vz43 ⟨g, 0, none⟩ = some (.slice A4 n c4) := bz45.get 0 _ rfl
      go_simp
      refine hK.out _ _ hHeld (fun hHeld => ?_)
      clear hK K
      try simp only [Act.put, List.setIfInBounds_toArray, List.set_cons_zero, List.set_cons_succ]
      refine wpAnyH_ready (rs := [5]) (by kernel_rfl) (by simp) ?_
      refine AllReadyH.cons (o := { dst := some 37, op := Op.call { callee := Callee.builtin Builtin.append, args := #[Operand.tmp 33, Operand.tmp 36], argTypes := #[27, 27] }, type := 27, pos := "fedq.go:21", after := #[{ on := 1, ground := Ground.data }, { on := 4, ground := Ground.data }, { on := 4, ground := Ground.chain }], guard := none }) rfl (fun K hK => ?_) AllReadyH.nil
      rw [if_pos (by rfl)]
      obtain ⟨Ao2, co2, eo, _, _, ko⟩ := ro.kps
      cases eo
      refine op_appK (.tmp 33) (.tmp 36) rfl (v := .slice A4 n c4) (c2 := co) (k := n + 1) rfl rfl rz46 (fun _ _ => trivial) ko rfl rfl (by have := H8.out; omega) zz49 (fun A9 c9 v9 r9 l9 => ?_)
      have b9 := bz45.below l9.out LG.out
      have x9 := xz47.below l9.out LR.out
      have h9 := (grown_below lz48).trans (l9.out.mono (Nat.le_of_lt (Nat.lt_of_le_of_lt E3.out LR.out)))
      refine hK.out _ _ (hHeld.below l9.out LX.out) (fun hHeld => ?_)
      clear hK K
      try simp only [Act.put, List.setIfInBounds_toArray, List.set_cons_zero, List.set_cons_succ]
      refine' wpAnyH_take (i := 6) (oi := { dst := some 38, op := Op.fieldAddr 29 (Operand.tmp 2) 0, type := 0, pos := "fedq.go:21", after := #[{ on := 0, ground := Ground.phase }, { on := 1, ground := Ground.phase }, { on := 2, ground := Ground.phase }, { on := 3, ground := Ground.phase }, { on := 4, ground := Ground.phase }, { on := 5, ground := Ground.phase }], guard := none }) (v := .pointer (some ⟨g, 0, none⟩)) rfl (by kernel_rfl) (by kernel_rfl) (by kernel_rfl) (fun _ _ _ h => h) (Or.inl ⟨by rfl, fun w' hSw => by go_simp⟩) (by assumption) ?qz51
      try simp only [Act.put, List.setIfInBounds_toArray, List.set_cons_zero, List.set_cons_succ]
      refine wpAnyH_ready (rs := [7]) (by kernel_rfl) (by simp) ?_
      refine AllReadyH.cons (o := { dst := none, op := Op.store 27 (Operand.tmp 38) (Operand.tmp 37), type := 0, pos := "fedq.go:21", after := #[{ on := 6, ground := Ground.data }, { on := 5, ground := Ground.data }, { on := 5, ground := Ground.chain }, { on := 0, ground := Ground.phase }, { on := 1, ground := Ground.phase }, { on := 2, ground := Ground.phase }, { on := 3, ground := Ground.phase }, { on := 4, ground := Ground.phase }, { on := 5, ground := Ground.phase }], guard := none }) rfl (fun K hK => ?_) AllReadyH.nil
      rw [if_pos (by rfl)]
      refine wp_store_cell 27 _ _ rfl size27 g 0 (.slice A9 (n + 1) c9) rfl rfl rfl _ 29 b9 (by rw [qv_length]; omega) (fun v10 b10 s10 => ?_)
      refine hK.out _ _ (hHeld.keep (s10.out.block gx N2.out.symm)) (fun hHeld => ?_)
      clear hK K
      dsimp only [Act.put]
      refine wpAnyH_done (by kernel_rfl) ?_ _
      have B10 : Hid (Blk v10 g 29 (qv (.slice A9 (n + 1) c9) s i wa ba)) := b10.out
      have BR10 : Hid (Blk v10 gr 29 (qv nl 0 0 0 0)) := x9.keep (s10.out.block gr NE.out.symm)
      have R10 : Hid (KRow w3.heap.size v10 (.slice A9 (n + 1) c9) (n + 1) (L ++ [k])) := r9.out.at (Nat.le_refl _) fun b hb1 _ => s10.out.block b (by have := LG.out; omega)
      have H10 := Lib.hid (below_in h9 s10.out.grown E1.out h9.size)
      go_wp2_with (first | (refine wpList_loadG agQ rfl (.tmp 2) rfl g rfl B10.out (qv_length _ _ _ _ _) ?_) | (refine wpList_storeG agQ rfl (.tmp 4) (.tmp 39) rfl gr rfl rfl BR10.out (qv_length _ _ _ _ _) (qv_length _ _ _ _ _) (qv_one _ _ _ _ _ _ _) ?_) | fail)
      intro w11 b11 q11 _
      go_wp2
      refine bodyPost_ret (res_cs rfl agQ rfl rfl b11.out (qv_length _ _ _ _ _)) rfl ⟨_, rfl, A9, c9, rfl, ?_, ?_⟩
      · have h1 := E3.out
        have h2 := LR.out
        exact R10.out.at (by omega) fun b hb1 hb2 => q11.out.block b hb2 (by simp; omega)
      · exact below_grown (below_in H10.out q11.out E3.out H10.out.size)
end Go.Proofs.Ytklcjjmeknajlaa
