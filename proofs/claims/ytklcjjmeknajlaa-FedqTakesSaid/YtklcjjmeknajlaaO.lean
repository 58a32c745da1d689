/- fedq.Acked of the transaction under way. Conditions: the items ask; five wait, four are under way. -/
import Derived.Test.YtklcjjmeknajlaaN
namespace Go.Proofs.Ytklcjjmeknajlaa
open Go.RowKit
set_option maxRecDepth 100000 in
set_option maxHeartbeats 4000000 in
theorem acked_any {w : World} {ok : Nat → Prop} {A : Option Addr} {L : List Kep} {c : Nat} (hL : Kps w ok A L) (hn : L.length = 5) (hc : 5 ≤ c) :
    Calls Try.prog 11 #[.agg (qv (.slice A 5 c) 4 1 2 2).toArray, .int .u16 1] w fun e w' => ∃ v, e = .returned (.tuple #[v, .bool true]) ∧ QueV w 1 (L.drop 4) 0 1 0 0 v w' := by
  obtain ⟨bI, oI, eI, _, _⟩ := hL.some_ (by rw [hn]; omega) (fun _ _ => trivial)
  subst eI
  obtain ⟨z, hz⟩ : ∃ z, z = qv (.slice (some ⟨bI, oI, none⟩) 5 c) 4 1 2 2 := ⟨_, rfl⟩
  have HZ := Lib.hid hz
  have HL := Lib.hid hL
  have HN := Lib.hid hn
  have HC := Lib.hid hc
  rw [← hz]
  clear hz hL hn hc
  go_enter Try.func11, Try.ntmps11
  go_wp2_with (first | (refine wpList_boxG rfl (.tmp 0) rfl (vs := z) rfl ?_) | fail)
  intro g w1 e1 b1 q1
  have B1 : Hid (Blk w1 g 29 (qv (.slice (some ⟨bI, oI, none⟩) 5 c) 4 1 2 2)) := by have h := b1.out; rw [HZ.out] at h; exact h
  have Q1 := Lib.hid q1.out
  have E1 : Hid (w.heap.size ≤ g) := by rw [e1.out]; exact Nat.le_refl _
  clear e1 b1 q1
  go_wp2_with (first | (refine wpList_allocG zeQ rfl rfl ?_) | fail)
  intro gr w2 e2 b2 q2
  have hb2 := B1.out.grown q2.out (by simp)
  have E2 : Hid (w.heap.size ≤ gr) := by rw [e2.out]; exact Q1.out.size
  have NE : Hid (g ≠ gr) := by rw [e2.out]; exact Nat.ne_of_lt B1.out.lt
  have BR2 := Lib.hid b2.out
  have Q2 := Lib.hid (Q1.out.trans q2.out)
  have k1 : w2.cell? ⟨g, 1, none⟩ = some (.int .i64 4) := hb2.get 1 _ rfl
  have k2 : w2.cell? ⟨g, 2, none⟩ = some (.int .u16 1) := hb2.get 2 _ rfl
  have B2 := Lib.hid hb2
  clear e2 b2 q2 hb2 B1 Q1
  go_wp2_with fail
  have HA2 : Hid (some (⟨bI, oI + 433 * 4, none⟩ : Addr) = some (if c = 4 then ⟨bI, oI, none⟩ else ⟨bI, oI + 433 * 4, none⟩)) := by
    show _ = _
    rw [if_neg (by have := HC.out; omega)]
  refine wp_region_held_drew (S := fun _ => True) (by kernel_rfl) trivial (fun hHeld => ?_)
  obtain ⟨V, hV⟩ : ∃ V, V = w2.drew := ⟨_, rfl⟩
  have VB : Hid (Blk V g 29 (qv (.slice (some ⟨bI, oI, none⟩) 5 c) 4 1 2 2)) := by rw [hV]; exact B2.out
  have VX : Hid (Blk V gr 29 (qv nl 0 0 0 0)) := by rw [hV]; exact BR2.out
  have VL : Hid (w.grownBy V none) := by rw [hV]; exact Q2.out.trans (grown_drew w2)
  rw [← hV]
  clear hV k1 k2
  refine' wpAnyH_take (i := 0) (oi := { dst := some 20, op := Op.fieldAddr 29 (Operand.tmp 2) 0, type := 0, pos := "fedq.go:58", after := #[], guard := none }) (v := .pointer (some ⟨g, 0, none⟩)) rfl (by kernel_rfl) (by kernel_rfl) (by kernel_rfl) (fun _ _ _ h => h) (Or.inl ⟨by rfl, fun w' hSw => by go_simp⟩) (by assumption) ?qz1
  try simp only [Act.put, List.setIfInBounds_toArray, List.set_cons_zero, List.set_cons_succ]
  refine wpAnyH_ready (rs := [1, 2]) (by kernel_rfl) (by simp) ?_
  refine AllReadyH.cons (o := { dst := some 21, op := Op.load 27 (Operand.tmp 20), type := 27, pos := "fedq.go:58", after := #[{ on := 0, ground := Ground.data }], guard := none }) rfl (fun K hK => ?_) (AllReadyH.cons (o := { dst := some 22, op := Op.load 29 (Operand.tmp 2), type := 29, pos := "fedq.go:58", after := #[], guard := none }) rfl (fun K hK => ?_) AllReadyH.nil)
  · rw [if_pos (by rfl)]
    have cz2 : World.cell? V ⟨g, 0, none⟩ = some (.slice (some ⟨bI, oI, none⟩) 5 c) := VB.out.get 0 _ rfl
    go_simp
    refine hK.out _ _ trivial (fun hHeld => ?_)
    clear hK K
    try simp only [Act.put, List.setIfInBounds_toArray, List.set_cons_zero, List.set_cons_succ]
    refine wpAnyH_ready (rs := [2]) (by kernel_rfl) (by simp) ?_
    refine AllReadyH.cons (o := { dst := some 22, op := Op.load 29 (Operand.tmp 2), type := 29, pos := "fedq.go:58", after := #[], guard := none }) rfl (fun K hK => ?_) AllReadyH.nil
    rw [if_pos (by rfl)]
    refine wp_loadG agQ (.tmp 2) rfl g rfl VB.out (qv_length _ _ _ _ _) ?_
    refine hK.out _ _ trivial (fun hHeld => ?_)
    clear hK K
    try simp only [Act.put, List.setIfInBounds_toArray, List.set_cons_zero, List.set_cons_succ]
    refine wpAnyH_ready (rs := [3]) (by kernel_rfl) (by simp) ?_
    refine AllReadyH.cons (o := { dst := some 23, op := Op.call { callee := Callee.value (Operand.func 14), args := #[Operand.tmp 22], argTypes := #[29] }, type := 3, pos := "fedq.go:58", after := #[{ on := 2, ground := Ground.data }], guard := none }) rfl (fun K hK => ?_) AllReadyH.nil
    rw [if_pos (by rfl)]
    go_simp
    have hs : Calls Try.prog 14 #[.agg (qv (.slice (some ⟨bI, oI, none⟩) 5 c) 4 1 2 2).toArray] V (NewV V (.int .i64 4)) := sent_any (s := 4) _ 1 2 2 (by omega)
    with_reducible refine hs.mono ?_
    rintro _ vz3 ⟨rfl, qz4⟩
    have bz5 := VB.out.grown qz4 (by simp)
    have xz6 := VX.out.grown qz4 (by simp)
    have lz7 := VL.out.trans qz4
    refine hK.out _ _ trivial (fun hHeld => ?_)
    clear hK K
    try simp only [Act.put, List.setIfInBounds_toArray, List.set_cons_zero, List.set_cons_succ]
    refine' wpAnyH_take (i := 4) (oi := { dst := some 24, op := Op.slice 27 (Operand.tmp 21) (some (Operand.tmp 23)) none none, type := 27, pos := "fedq.go:58", after := #[{ on := 1, ground := Ground.data }, { on := 3, ground := Ground.data }], guard := none }) (v := .slice (some ⟨bI, oI + 433 * 4, none⟩) 1 (c - 4)) rfl (by kernel_rfl) (by kernel_rfl) (by kernel_rfl) (fun _ _ _ h => h) (yieldsIf_sliceFrom (by rfl) (.tmp 21) (.tmp 23) rfl bI oI 5 c 4 rfl rfl (by omega) HA2.out rfl) (by assumption) ?qz8
    try simp only [Act.put, List.setIfInBounds_toArray, List.set_cons_zero, List.set_cons_succ]
    refine wpAnyH_ready (rs := [5]) (by kernel_rfl) (by simp) ?_
    refine AllReadyH.cons (o := { dst := some 25, op := Op.call { callee := Callee.value (Operand.func 12), args := #[Operand.tmp 24], argTypes := #[27] }, type := 27, pos := "fedq.go:58", after := #[{ on := 4, ground := Ground.data }, { on := 3, ground := Ground.chain }], guard := none }) rfl (fun K hK => ?_) AllReadyH.nil
    rw [if_pos (by rfl)]
    go_simp
    have hlw := lz7
    with_reducible refine (own_any (n := 1) (c := c - 4) ((HL.out.grown hlw).drop 4) (by have := HN.out; simp only [List.length_drop]; omega) (by omega)).mono ?_
    rintro _ vz9 ⟨Ao, co, rfl, ro, qz10⟩
    obtain ⟨Bs, hBs⟩ : ∃ Bs, Bs = vz3.heap.size := ⟨_, rfl⟩
    have hsz := World.grownBy.size hlw
    have sb := bz5.lt
    have sx := xz6.lt
    rw [← hBs] at ro hsz sb sx
    clear hBs
    have bz11 := bz5.grown qz10 (by simp)
    have xz12 := xz6.grown qz10 (by simp)
    have lz13 := lz7.trans qz10
    refine hK.out _ _ trivial (fun hHeld => ?_)
    clear hK K
    try simp only [Act.put, List.setIfInBounds_toArray, List.set_cons_zero, List.set_cons_succ]
    refine' wpAnyH_take (i := 6) (oi := { dst := some 26, op := Op.fieldAddr 29 (Operand.tmp 2) 0, type := 0, pos := "fedq.go:58", after := #[{ on := 0, ground := Ground.phase }, { on := 1, ground := Ground.phase }, { on := 2, ground := Ground.phase }, { on := 3, ground := Ground.phase }, { on := 4, ground := Ground.phase }, { on := 5, ground := Ground.phase }], guard := none }) (v := .pointer (some ⟨g, 0, none⟩)) rfl (by kernel_rfl) (by kernel_rfl) (by kernel_rfl) (fun _ _ _ h => h) (Or.inl ⟨by rfl, fun w' hSw => by go_simp⟩) (by assumption) ?qz14
    try simp only [Act.put, List.setIfInBounds_toArray, List.set_cons_zero, List.set_cons_succ]
    refine wpAnyH_ready (rs := [7]) (by kernel_rfl) (by simp) ?_
    refine AllReadyH.cons (o := { dst := none, op := Op.store 27 (Operand.tmp 26) (Operand.tmp 25), type := 0, pos := "fedq.go:58", after := #[{ on := 6, ground := Ground.data }, { on := 5, ground := Ground.data }, { on := 5, ground := Ground.chain }, { on := 0, ground := Ground.phase }, { on := 1, ground := Ground.phase }, { on := 2, ground := Ground.phase }, { on := 3, ground := Ground.phase }, { on := 4, ground := Ground.phase }, { on := 5, ground := Ground.phase }], guard := none }) rfl (fun K hK => ?_) AllReadyH.nil
    rw [if_pos (by rfl)]
    refine wp_store_cell 27 _ _ rfl size27 g 0 (.slice Ao 1 co) rfl rfl rfl _ 29 bz11 (by rw [qv_length]; omega) (fun v10 b10 s10 => ?_)
    refine hK.out _ _ trivial (fun hHeld => ?_)
    clear hK K
    dsimp only [Act.put]
    refine wpAnyH_done (by kernel_rfl) ?_ _
    have hB : Blk v10 g 29 (qv (.slice Ao 1 co) 4 1 2 2) := b10.out
    have X10 : Hid (Blk v10 gr 29 (qv nl 0 0 0 0)) := xz12.keep (s10.out.block gr NE.out.symm)
    have L10 : Hid (w.grownBy v10 none) := grown_in lz13 s10.out.grown E1.out
    have R10 : Hid (KRow Bs v10 (.slice Ao 1 co) 1 (L.drop 4)) := ro.at (Nat.le_refl _) fun b hb1 _ => s10.out.block b (by omega)
    have SB := Lib.hid sb
    have SX := Lib.hid sx
    have SZ := Lib.hid hsz
    have B10 := Lib.hid hB
    go_wp2_with (first | (refine wpList_store_cell rfl 3 (.tmp 27) (.const (.int .i64 0)) rfl size3 g 1 (.int .i64 0) rfl rfl rfl (qv (.slice Ao 1 co) 4 1 2 2) 29 B10.out (by rw [qv_length]; omega) ?_) | fail)
    intro u0 bu0 ru0
    have Bu0 : Hid (Blk u0 g 29 (qv (.slice Ao 1 co) 0 1 2 2)) := bu0.out
    have Ru0 : Hid (KRow Bs u0 (.slice Ao 1 co) 1 (L.drop 4)) := R10.out.at (Nat.le_refl _) fun b hb1 _ => ru0.out.block b (by have := SB.out; omega)
    have Xu0 : Hid (Blk u0 gr 29 (qv nl 0 0 0 0)) := X10.out.keep (ru0.out.block gr NE.out.symm)
    have Lu0 : Hid (w.grownBy u0 none) := grown_in L10.out ru0.out.grown E1.out
    clear bu0 ru0
    go_wp2_with (first | (refine wpList_store_cell rfl 5 (.tmp 28) (.const (.int .u8 0)) rfl size5 g 3 (.int .u8 0) rfl rfl rfl (qv (.slice Ao 1 co) 0 1 2 2) 29 Bu0.out (by rw [qv_length]; omega) ?_) | fail)
    intro u1 bu1 ru1
    have Bu1 : Hid (Blk u1 g 29 (qv (.slice Ao 1 co) 0 1 0 2)) := bu1.out
    have Ru1 : Hid (KRow Bs u1 (.slice Ao 1 co) 1 (L.drop 4)) := Ru0.out.at (Nat.le_refl _) fun b hb1 _ => ru1.out.block b (by have := SB.out; omega)
    have Xu1 : Hid (Blk u1 gr 29 (qv nl 0 0 0 0)) := Xu0.out.keep (ru1.out.block gr NE.out.symm)
    have Lu1 : Hid (w.grownBy u1 none) := grown_in Lu0.out ru1.out.grown E1.out
    clear bu1 ru1
    go_wp2_with (first | (refine wpList_store_cell rfl 5 (.tmp 29) (.const (.int .u8 0)) rfl size5 g 4 (.int .u8 0) rfl rfl rfl (qv (.slice Ao 1 co) 0 1 0 2) 29 Bu1.out (by rw [qv_length]; omega) ?_) | fail)
    intro u2 bu2 ru2
    have Bu2 : Hid (Blk u2 g 29 (qv (.slice Ao 1 co) 0 1 0 0)) := bu2.out
    have Ru2 : Hid (KRow Bs u2 (.slice Ao 1 co) 1 (L.drop 4)) := Ru1.out.at (Nat.le_refl _) fun b hb1 _ => ru2.out.block b (by have := SB.out; omega)
    have Xu2 : Hid (Blk u2 gr 29 (qv nl 0 0 0 0)) := Xu1.out.keep (ru2.out.block gr NE.out.symm)
    have Lu2 : Hid (w.grownBy u2 none) := grown_in Lu1.out ru2.out.grown E1.out
    clear bu2 ru2
    go_wp2_with (first | (refine wpList_loadG agQ rfl (.tmp 2) rfl g rfl Bu2.out (qv_length _ _ _ _ _) ?_) | (refine wpList_storeG agQ rfl (.tmp 4) (.tmp 30) rfl gr rfl rfl Xu2.out (qv_length _ _ _ _ _) (qv_length _ _ _ _ _) (qv_one _ _ _ _ _ _ _) ?_) | fail)
    intro w11 b11 q11 _
    go_wp2
    refine bodyPost_ret (res_cs rfl agQ rfl rfl b11.out (qv_length _ _ _ _ _)) rfl ⟨_, rfl, Ao, co, rfl, ?_, grown_in Lu2.out q11.out E2.out⟩
    exact Ru2.out.at SZ.out fun b hb1 hb2 => q11.out.block b hb2 (by have := SX.out; simp; omega)
  · rw [if_pos (by rfl)]
    refine wp_loadG agQ (.tmp 2) rfl g rfl VB.out (qv_length _ _ _ _ _) ?_
    refine hK.out _ _ trivial (fun hHeld => ?_)
    clear hK K
    try simp only [Act.put, List.setIfInBounds_toArray, List.set_cons_zero, List.set_cons_succ]
    refine wpAnyH_ready (rs := [1, 3]) (by kernel_rfl) (by simp) ?_
    refine AllReadyH.cons (o := { dst := some 21, op := Op.load 27 (Operand.tmp 20), type := 27, pos := "fedq.go:58", after := #[{ on := 0, ground := Ground.data }], guard := none }) rfl (fun K hK => ?_) (AllReadyH.cons (o := { dst := some 23, op := Op.call { callee := Callee.value (Operand.func 14), args := #[Operand.tmp 22], argTypes := #[29] }, type := 3, pos := "fedq.go:58", after := #[{ on := 2, ground := Ground.data }], guard := none }) rfl (fun K hK => ?_) AllReadyH.nil)
    · rw [if_pos (by rfl)]
      have cz15 : World.cell? V ⟨g, 0, none⟩ = some (.slice (some ⟨bI, oI, none⟩) 5 c) := VB.out.get 0 _ rfl
      go_simp
      refine hK.out _ _ trivial (fun hHeld => ?_)
      clear hK K
      try simp only [Act.put, List.setIfInBounds_toArray, List.set_cons_zero, List.set_cons_succ]
      refine wpAnyH_ready (rs := [3]) (by kernel_rfl) (by simp) ?_
      refine AllReadyH.cons (o := { dst := some 23, op := Op.call { callee := Callee.value (Operand.func 14), args := #[Operand.tmp 22], argTypes := #[29] }, type := 3, pos := "fedq.go:58", after := #[{ on := 2, ground := Ground.data }], guard := none }) rfl (fun K hK => ?_) AllReadyH.nil
      rw [if_pos (by rfl)]
      go_simp
      have hs : Calls Try.prog 14 #[.agg (qv (.slice (some ⟨bI, oI, none⟩) 5 c) 4 1 2 2).toArray] V (NewV V (.int .i64 4)) := sent_any (s := 4) _ 1 2 2 (by omega)
      with_reducible refine hs.mono ?_
      rintro _ vz16 ⟨rfl, qz17⟩
      have bz18 := VB.out.grown qz17 (by simp)
      have xz19 := VX.out.grown qz17 (by simp)
      have lz20 := VL.out.trans qz17
      refine hK.out _ _ trivial (fun hHeld => ?_)
      clear hK K
      try simp only [Act.put, List.setIfInBounds_toArray, List.set_cons_zero, List.set_cons_succ]
      refine' wpAnyH_take (i := 4) (oi := { dst := some 24, op := Op.slice 27 (Operand.tmp 21) (some (Operand.tmp 23)) none none, type := 27, pos := "fedq.go:58", after := #[{ on := 1, ground := Ground.data }, { on := 3, ground := Ground.data }], guard := none }) (v := .slice (some ⟨bI, oI + 433 * 4, none⟩) 1 (c - 4)) rfl (by kernel_rfl) (by kernel_rfl) (by kernel_rfl) (fun _ _ _ h => h) (yieldsIf_sliceFrom (by rfl) (.tmp 21) (.tmp 23) rfl bI oI 5 c 4 rfl rfl (by omega) HA2.out rfl) (by assumption) ?qz21
      try simp only [Act.put, List.setIfInBounds_toArray, List.set_cons_zero, List.set_cons_succ]
      refine wpAnyH_ready (rs := [5]) (by kernel_rfl) (by simp) ?_
      refine AllReadyH.cons (o := { dst := some 25, op := Op.call { callee := Callee.value (Operand.func 12), args := #[Operand.tmp 24], argTypes := #[27] }, type := 27, pos := "fedq.go:58", after := #[{ on := 4, ground := Ground.data }, { on := 3, ground := Ground.chain }], guard := none }) rfl (fun K hK => ?_) AllReadyH.nil
      rw [if_pos (by rfl)]
      go_simp
      have hlw := lz20
      with_reducible refine (own_any (n := 1) (c := c - 4) ((HL.out.grown hlw).drop 4) (by have := HN.out; simp only [List.length_drop]; omega) (by omega)).mono ?_
      rintro _ vz22 ⟨Ao, co, rfl, ro, qz23⟩
      obtain ⟨Bs, hBs⟩ : ∃ Bs, Bs = vz16.heap.size := ⟨_, rfl⟩
      have hsz := World.grownBy.size hlw
      have sb := bz18.lt
      have sx := xz19.lt
      rw [← hBs] at ro hsz sb sx
      clear hBs
      have bz24 := bz18.grown qz23 (by simp)
      have xz25 := xz19.grown qz23 (by simp)
      have lz26 := lz20.trans qz23
      refine hK.out _ _ trivial (fun hHeld => ?_)
      clear hK K
      try simp only [Act.put, List.setIfInBounds_toArray, List.set_cons_zero, List.set_cons_succ]
      refine' wpAnyH_take (i := 6) (oi := { dst := some 26, op := Op.fieldAddr 29 (Operand.tmp 2) 0, type := 0, pos := "fedq.go:58", after := #[{ on := 0, ground := Ground.phase }, { on := 1, ground := Ground.phase }, { on := 2, ground := Ground.phase }, { on := 3, ground := Ground.phase }, { on := 4, ground := Ground.phase }, { on := 5, ground := Ground.phase }], guard := none }) (v := .pointer (some ⟨g, 0, none⟩)) rfl (by kernel_rfl) (by kernel_rfl) (by kernel_rfl) (fun _ _ _ h => h) (Or.inl ⟨by rfl, fun w' hSw => by go_simp⟩) (by assumption) ?qz27
      try simp only [Act.put, List.setIfInBounds_toArray, List.set_cons_zero, List.set_cons_succ]
      refine wpAnyH_ready (rs := [7]) (by kernel_rfl) (by simp) ?_
      refine AllReadyH.cons (o := { dst := none, op := Op.store 27 (Operand.tmp 26) (Operand.tmp 25), type := 0, pos := "fedq.go:58", after := #[{ on := 6, ground := Ground.data }, { on := 5, ground := Ground.data }, { on := 5, ground := Ground.chain }, { on := 0, ground := Ground.phase }, { on := 1, ground := Ground.phase }, { on := 2, ground := Ground.phase }, { on := 3, ground := Ground.phase }, { on := 4, ground := Ground.phase }, { on := 5, ground := Ground.phase }], guard := none }) rfl (fun K hK => ?_) AllReadyH.nil
      rw [if_pos (by rfl)]
      refine wp_store_cell 27 _ _ rfl size27 g 0 (.slice Ao 1 co) rfl rfl rfl _ 29 bz24 (by rw [qv_length]; omega) (fun v10 b10 s10 => ?_)
      refine hK.out _ _ trivial (fun hHeld => ?_)
      clear hK K
      dsimp only [Act.put]
      refine wpAnyH_done (by kernel_rfl) ?_ _
      have hB : Blk v10 g 29 (qv (.slice Ao 1 co) 4 1 2 2) := b10.out
      have X10 : Hid (Blk v10 gr 29 (qv nl 0 0 0 0)) := xz25.keep (s10.out.block gr NE.out.symm)
      have L10 : Hid (w.grownBy v10 none) := grown_in lz26 s10.out.grown E1.out
      have R10 : Hid (KRow Bs v10 (.slice Ao 1 co) 1 (L.drop 4)) := ro.at (Nat.le_refl _) fun b hb1 _ => s10.out.block b (by omega)
      have SB := Lib.hid sb
      have SX := Lib.hid sx
      have SZ := Lib.hid hsz
      have B10 := Lib.hid hB
      go_wp2_with (first | (refine wpList_store_cell rfl 3 (.tmp 27) (.const (.int .i64 0)) rfl size3 g 1 (.int .i64 0) rfl rfl rfl (qv (.slice Ao 1 co) 4 1 2 2) 29 B10.out (by rw [qv_length]; omega) ?_) | fail)
      intro u0 bu0 ru0
      have Bu0 : Hid (Blk u0 g 29 (qv (.slice Ao 1 co) 0 1 2 2)) := bu0.out
      have Ru0 : Hid (KRow Bs u0 (.slice Ao 1 co) 1 (L.drop 4)) := R10.out.at (Nat.le_refl _) fun b hb1 _ => ru0.out.block b (by have := SB.out; omega)
      have Xu0 : Hid (Blk u0 gr 29 (qv nl 0 0 0 0)) := X10.out.keep (ru0.out.block gr NE.out.symm)
      have Lu0 : Hid (w.grownBy u0 none) := grown_in L10.out ru0.out.grown E1.out
      clear bu0 ru0
      go_wp2_with (first | (refine wpList_store_cell rfl 5 (.tmp 28) (.const (.int .u8 0)) rfl size5 g 3 (.int .u8 0) rfl rfl rfl (qv (.slice Ao 1 co) 0 1 2 2) 29 Bu0.out (by rw [qv_length]; omega) ?_) | fail)
      intro u1 bu1 ru1
      have Bu1 : Hid (Blk u1 g 29 (qv (.slice Ao 1 co) 0 1 0 2)) := bu1.out
      have Ru1 : Hid (KRow Bs u1 (.slice Ao 1 co) 1 (L.drop 4)) := Ru0.out.at (Nat.le_refl _) fun b hb1 _ => ru1.out.block b (by have := SB.out; omega)
      have Xu1 : Hid (Blk u1 gr 29 (qv nl 0 0 0 0)) := Xu0.out.keep (ru1.out.block gr NE.out.symm)
      have Lu1 : Hid (w.grownBy u1 none) := grown_in Lu0.out ru1.out.grown E1.out
      clear bu1 ru1
      go_wp2_with (first | (refine wpList_store_cell rfl 5 (.tmp 29) (.const (.int .u8 0)) rfl size5 g 4 (.int .u8 0) rfl rfl rfl (qv (.slice Ao 1 co) 0 1 0 2) 29 Bu1.out (by rw [qv_length]; omega) ?_) | fail)
      intro u2 bu2 ru2
      have Bu2 : Hid (Blk u2 g 29 (qv (.slice Ao 1 co) 0 1 0 0)) := bu2.out
      have Ru2 : Hid (KRow Bs u2 (.slice Ao 1 co) 1 (L.drop 4)) := Ru1.out.at (Nat.le_refl _) fun b hb1 _ => ru2.out.block b (by have := SB.out; omega)
      have Xu2 : Hid (Blk u2 gr 29 (qv nl 0 0 0 0)) := Xu1.out.keep (ru2.out.block gr NE.out.symm)
      have Lu2 : Hid (w.grownBy u2 none) := grown_in Lu1.out ru2.out.grown E1.out
      clear bu2 ru2
      go_wp2_with (first | (refine wpList_loadG agQ rfl (.tmp 2) rfl g rfl Bu2.out (qv_length _ _ _ _ _) ?_) | (refine wpList_storeG agQ rfl (.tmp 4) (.tmp 30) rfl gr rfl rfl Xu2.out (qv_length _ _ _ _ _) (qv_length _ _ _ _ _) (qv_one _ _ _ _ _ _ _) ?_) | fail)
      intro w11 b11 q11 _
      go_wp2
      refine bodyPost_ret (res_cs rfl agQ rfl rfl b11.out (qv_length _ _ _ _ _)) rfl ⟨_, rfl, Ao, co, rfl, ?_, grown_in Lu2.out q11.out E2.out⟩
      exact Ru2.out.at SZ.out fun b hb1 hb2 => q11.out.block b hb2 (by have := SX.out; simp; omega)
    · rw [if_pos (by rfl)]
      go_simp
      have hs : Calls Try.prog 14 #[.agg (qv (.slice (some ⟨bI, oI, none⟩) 5 c) 4 1 2 2).toArray] V (NewV V (.int .i64 4)) := sent_any (s := 4) _ 1 2 2 (by omega)
      with_reducible refine hs.mono ?_
      rintro _ vz28 ⟨rfl, qz29⟩
      have bz30 := VB.out.grown qz29 (by simp)
      have xz31 := VX.out.grown qz29 (by simp)
      have lz32 := VL.out.trans qz29
      refine hK.out _ _ trivial (fun hHeld => ?_)
      clear hK K
      try simp only [Act.put, List.setIfInBounds_toArray, List.set_cons_zero, List.set_cons_succ]
      refine wpAnyH_ready (rs := [1]) (by kernel_rfl) (by simp) ?_
      refine AllReadyH.cons (o := { dst := some 21, op := Op.load 27 (Operand.tmp 20), type := 27, pos := "fedq.go:58", after := #[{ on := 0, ground := Ground.data }], guard := none }) rfl (fun K hK => ?_) AllReadyH.nil
      rw [if_pos (by rfl)]
      have cz33 : World.cell? vz28 ⟨g, 0, none⟩ = some (.slice (some ⟨bI, oI, none⟩) 5 c) := bz30.get 0 _ rfl
      go_simp
      refine hK.out _ _ trivial (fun hHeld => ?_)
      clear hK K
      try simp only [Act.put, List.setIfInBounds_toArray, List.set_cons_zero, List.set_cons_succ]
      refine' wpAnyH_take (i := 4) (oi := { dst := some 24, op := Op.slice 27 (Operand.tmp 21) (some (Operand.tmp 23)) none none, type := 27, pos := "fedq.go:58", after := #[{ on := 1, ground := Ground.data }, { on := 3, ground := Ground.data }], guard := none }) (v := .slice (some ⟨bI, oI + 433 * 4, none⟩) 1 (c - 4)) rfl (by kernel_rfl) (by kernel_rfl) (by kernel_rfl) (fun _ _ _ h => h) (yieldsIf_sliceFrom (by rfl) (.tmp 21) (.tmp 23) rfl bI oI 5 c 4 rfl rfl (by omega) HA2.out rfl) (by assumption) ?qz34
      try simp only [Act.put, List.setIfInBounds_toArray, List.set_cons_zero, List.set_cons_succ]
      refine wpAnyH_ready (rs := [5]) (by kernel_rfl) (by simp) ?_
      refine AllReadyH.cons (o := { dst := some 25, op := Op.call { callee := Callee.value (Operand.func 12), args := #[Operand.tmp 24], argTypes := #[27] }, type := 27, pos := "fedq.go:58", after := #[{ on := 4, ground := Ground.data }, { on := 3, ground := Ground.chain }], guard := none }) rfl (fun K hK => ?_) AllReadyH.nil
      rw [if_pos (by rfl)]
      go_simp
      have hlw := lz32
      with_reducible refine (own_any (n := 1) (c := c - 4) ((HL.out.grown hlw).drop 4) (by have := HN.out; simp only [List.length_drop]; omega) (by omega)).mono ?_
      rintro _ vz35 ⟨Ao, co, rfl, ro, qz36⟩
      obtain ⟨Bs, hBs⟩ : ∃ Bs, Bs = vz28.heap.size := ⟨_, rfl⟩
      have hsz := World.grownBy.size hlw
      have sb := bz30.lt
      have sx := xz31.lt
      rw [← hBs] at ro hsz sb sx
      clear hBs
      have bz37 := bz30.grown qz36 (by simp)
      have xz38 := xz31.grown qz36 (by simp)
      have lz39 := lz32.trans qz36
      refine hK.out _ _ trivial (fun hHeld => ?_)
      clear hK K
      try simp only [Act.put, List.setIfInBounds_toArray, List.set_cons_zero, List.set_cons_succ]
      refine' wpAnyH_take (i := 6) (oi := { dst := some 26, op := Op.fieldAddr 29 (Operand.tmp 2) 0, type := 0, pos := "fedq.go:58", after := #[{ on := 0, ground := Ground.phase }, { on := 1, ground := Ground.phase }, { on := 2, ground := Ground.phase }, { on := 3, ground := Ground.phase }, { on := 4, ground := Ground.phase }, { on := 5, ground := Ground.phase }], guard := none }) (v := .pointer (some ⟨g, 0, none⟩)) rfl (by kernel_rfl) (by kernel_rfl) (by kernel_rfl) (fun _ _ _ h => h) (Or.inl ⟨by rfl, fun w' hSw => by go_simp⟩) (by assumption) ?qz40
      try simp only [Act.put, List.setIfInBounds_toArray, List.set_cons_zero, List.set_cons_succ]
      refine wpAnyH_ready (rs := [7]) (by kernel_rfl) (by simp) ?_
      refine AllReadyH.cons (o := { dst := none, op := Op.store 27 (Operand.tmp 26) (Operand.tmp 25), type := 0, pos := "fedq.go:58", after := #[{ on := 6, ground := Ground.data }, { on := 5, ground := Ground.data }, { on := 5, ground := Ground.chain }, { on := 0, ground := Ground.phase }, { on := 1, ground := Ground.phase }, { on := 2, ground := Ground.phase }, { on := 3, ground := Ground.phase }, { on := 4, ground := Ground.phase }, { on := 5, ground := Ground.phase }], guard := none }) rfl (fun K hK => ?_) AllReadyH.nil
      rw [if_pos (by rfl)]
      refine wp_store_cell 27 _ _ rfl size27 g 0 (.slice Ao 1 co) rfl rfl rfl _ 29 bz37 (by rw [qv_length]; omega) (fun v10 b10 s10 => ?_)
      refine hK.out _ _ trivial (fun hHeld => ?_)
      clear hK K
      dsimp only [Act.put]
      refine wpAnyH_done (by kernel_rfl) ?_ _
      have hB : Blk v10 g 29 (qv (.slice Ao 1 co) 4 1 2 2) := b10.out
      have X10 : Hid (Blk v10 gr 29 (qv nl 0 0 0 0)) := xz38.keep (s10.out.block gr NE.out.symm)
      have L10 : Hid (w.grownBy v10 none) := grown_in lz39 s10.out.grown E1.out
      have R10 : Hid (KRow Bs v10 (.slice Ao 1 co) 1 (L.drop 4)) := ro.at (Nat.le_refl _) fun b hb1 _ => s10.out.block b (by omega)
      have SB := Lib.hid sb
      have SX := Lib.hid sx
      have SZ := Lib.hid hsz
      have B10 := Lib.hid hB
      go_wp2_with (first | (refine wpList_store_cell rfl 3 (.tmp 27) (.const (.int .i64 0)) rfl size3 g 1 (.int .i64 0) rfl rfl rfl (qv (.slice Ao 1 co) 4 1 2 2) 29 B10.out (by rw [qv_length]; omega) ?_) | fail)
      intro u0 bu0 ru0
      have Bu0 : Hid (Blk u0 g 29 (qv (.slice Ao 1 co) 0 1 2 2)) := bu0.out
      have Ru0 : Hid (KRow Bs u0 (.slice Ao 1 co) 1 (L.drop 4)) := R10.out.at (Nat.le_refl _) fun b hb1 _ => ru0.out.block b (by have := SB.out; omega)
      have Xu0 : Hid (Blk u0 gr 29 (qv nl 0 0 0 0)) := X10.out.keep (ru0.out.block gr NE.out.symm)
      have Lu0 : Hid (w.grownBy u0 none) := grown_in L10.out ru0.out.grown E1.out
      clear bu0 ru0
      go_wp2_with (first | (refine wpList_store_cell rfl 5 (.tmp 28) (.const (.int .u8 0)) rfl size5 g 3 (.int .u8 0) rfl rfl rfl (qv (.slice Ao 1 co) 0 1 2 2) 29 Bu0.out (by rw [qv_length]; omega) ?_) | fail)
      intro u1 bu1 ru1
      have Bu1 : Hid (Blk u1 g 29 (qv (.slice Ao 1 co) 0 1 0 2)) := bu1.out
      have Ru1 : Hid (KRow Bs u1 (.slice Ao 1 co) 1 (L.drop 4)) := Ru0.out.at (Nat.le_refl _) fun b hb1 _ => ru1.out.block b (by have := SB.out; omega)
      have Xu1 : Hid (Blk u1 gr 29 (qv nl 0 0 0 0)) := Xu0.out.keep (ru1.out.block gr NE.out.symm)
      have Lu1 : Hid (w.grownBy u1 none) := grown_in Lu0.out ru1.out.grown E1.out
      clear bu1 ru1
      go_wp2_with (first | (refine wpList_store_cell rfl 5 (.tmp 29) (.const (.int .u8 0)) rfl size5 g 4 (.int .u8 0) rfl rfl rfl (qv (.slice Ao 1 co) 0 1 0 2) 29 Bu1.out (by rw [qv_length]; omega) ?_) | fail)
      intro u2 bu2 ru2
      have Bu2 : Hid (Blk u2 g 29 (qv (.slice Ao 1 co) 0 1 0 0)) := bu2.out
      have Ru2 : Hid (KRow Bs u2 (.slice Ao 1 co) 1 (L.drop 4)) := Ru1.out.at (Nat.le_refl _) fun b hb1 _ => ru2.out.block b (by have := SB.out; omega)
      have Xu2 : Hid (Blk u2 gr 29 (qv nl 0 0 0 0)) := Xu1.out.keep (ru2.out.block gr NE.out.symm)
      have Lu2 : Hid (w.grownBy u2 none) := grown_in Lu1.out ru2.out.grown E1.out
      clear bu2 ru2
      go_wp2_with (first | (refine wpList_loadG agQ rfl (.tmp 2) rfl g rfl Bu2.out (qv_length _ _ _ _ _) ?_) | (refine wpList_storeG agQ rfl (.tmp 4) (.tmp 30) rfl gr rfl rfl Xu2.out (qv_length _ _ _ _ _) (qv_length _ _ _ _ _) (qv_one _ _ _ _ _ _ _) ?_) | fail)
      intro w11 b11 q11 _
      go_wp2
      refine bodyPost_ret (res_cs rfl agQ rfl rfl b11.out (qv_length _ _ _ _ _)) rfl ⟨_, rfl, Ao, co, rfl, ?_, grown_in Lu2.out q11.out E2.out⟩
      exact Ru2.out.at SZ.out fun b hb1 hb2 => q11.out.block b hb2 (by have := SX.out; simp; omega)
end Go.Proofs.Ytklcjjmeknajlaa
