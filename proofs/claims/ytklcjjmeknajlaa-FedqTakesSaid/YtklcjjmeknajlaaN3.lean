/- fedq.Poll: once more. Conditions: the items ask. -/
import Derived.Test.YtklcjjmeknajlaaN
namespace Go.Proofs.Ytklcjjmeknajlaa
open Go.RowKit
set_option maxRecDepth 100000 in
set_option maxHeartbeats 4000000 in
theorem poll_again {w : World} {ok : Nat → Prop} {A : Option Addr} {L : List Kep} {c : Nat} (hL : Kps w ok A L) (hn : L.length = 5) :
    Calls Try.prog 9 #[.agg (qv (.slice A 5 c) 4 1 0 1).toArray] w (PollE w 5 L 4 1 2 2 1 4 true) := by
  obtain ⟨z, hz⟩ : ∃ z, z = qv (.slice A 5 c) 4 1 0 1 := ⟨_, rfl⟩
  have HZ := Lib.hid hz
  have HL := Lib.hid hL
  have HN := Lib.hid hn
  rw [← hz]
  clear hz hL hn
  go_enter Try.func9, Try.ntmps9
  go_wp2_with (first | (refine wpList_boxG rfl (.tmp 0) rfl (vs := z) rfl ?_) | fail)
  intro g w1 e1 b1 q1
  have B1 : Hid (Blk w1 g 29 (qv (.slice A 5 c) 4 1 0 1)) := by have h := b1.out; rw [HZ.out] at h; exact h
  have Q1 := Lib.hid q1.out
  have E1 : Hid (w.heap.size ≤ g) := by rw [e1.out]; exact Nat.le_refl _
  clear e1 b1 q1
  go_wp2_with (first | (refine wpList_allocG zeQ rfl rfl ?_) | fail)
  intro gr w2 e2 b2 q2
  have B2 := Lib.hid (B1.out.grown q2.out (by simp))
  have E2 : Hid (w.heap.size ≤ gr) := by rw [e2.out]; exact Q1.out.size
  have NE : Hid (g ≠ gr) := by rw [e2.out]; exact Nat.ne_of_lt B1.out.lt
  have BR2 := Lib.hid b2.out
  have Q2 := Lib.hid (Q1.out.trans q2.out)
  clear e2 b2 q2 B1 Q1
  go_wp2_with (first | (refine wpList_allocG zeT rfl rfl ?_) | fail)
  intro gt w3 e3 b3 q3
  have hb3 := B2.out.grown q3.out (by simp)
  have c30 : w3.cell? ⟨g, 0, none⟩ = some (.slice A 5 c) := hb3.get 0 _ rfl
  have B3 := Lib.hid hb3
  have E3 : Hid (w.heap.size ≤ gt) := by rw [e3.out]; exact Q2.out.size
  have NT : Hid (g ≠ gt) := by rw [e3.out]; exact Nat.ne_of_lt B2.out.lt
  have NR : Hid (gr ≠ gt) := by rw [e3.out]; exact Nat.ne_of_lt BR2.out.lt
  have BR3 := Lib.hid (BR2.out.grown q3.out (by simp))
  have BT3 := Lib.hid b3.out
  have Q3 := Lib.hid (Q2.out.trans q3.out)
  have OW := Lib.hid (own_any (n := 5) (c := c) (HL.out.grown Q3.out) HN.out (by omega))
  clear e3 b3 q3 hb3 B2 BR2 Q2
  go_wp2_with (first | (go_at_call 12; refine OW.out.mono ?_; rintro _ w4 ⟨A4, c4, rfl, r4, q4⟩; have R4 := Lib.hid r4; have Q4 := Lib.hid q4; have B4 := Lib.hid (B3.out.grown q4 (by simp)); clear r4 q4 c30) | (refine wpList_store_cell rfl 27 (.tmp 9) (.tmp 8) rfl size27 g 0 (.slice A4 5 c4) rfl rfl rfl (qv (.slice A 5 c) 4 1 0 1) 29 B4.out (by rw [qv_length]; omega) ?_) | fail)
  intro w5 b5 r5
  obtain ⟨A5, c5, e5, hc5, _, k5⟩ := R4.out.kps
  cases e5
  obtain ⟨bI, oI, eI, _, _⟩ := k5.some_ (by rw [HN.out]; omega) (fun _ _ => trivial)
  subst eI
  have HC5 : Hid (5 ≤ c4) := hc5
  have LG := Lib.hid B3.out.lt
  have LR := Lib.hid BR3.out.lt
  have LT := Lib.hid BT3.out.lt
  have hb5 : Blk w5 g 29 (qv (.slice (some ⟨bI, oI, none⟩) 5 c4) 4 1 0 1) := b5.out
  have R5 : Hid (KRow w3.heap.size w5 (.slice (some ⟨bI, oI, none⟩) 5 c4) 5 L) := R4.out.at (Nat.le_refl _) fun b hb1 _ => r5.out.block b (by have := LG.out; omega)
  have BR5 : Hid (Blk w5 gr 29 (qv nl 0 0 0 0)) := (BR3.out.grown Q4.out (by simp)).keep (r5.out.block gr NE.out.symm)
  have BT5 : Hid (Blk w5 gt 52 (tv 0 nl)) := (BT3.out.grown Q4.out (by simp)).keep (r5.out.block gt NT.out.symm)
  have Q5 : Hid (w.grownBy w5 none) := grown_in (Q3.out.trans Q4.out) r5.out.grown E1.out
  have k0 : w5.cell? ⟨g, 0, none⟩ = some (.slice (some ⟨bI, oI, none⟩) 5 c4) := hb5.get 0 _ rfl
  have k1 : w5.cell? ⟨g, 1, none⟩ = some (.int .i64 4) := hb5.get 1 _ rfl
  have k2 : w5.cell? ⟨g, 2, none⟩ = some (.int .u16 1) := hb5.get 2 _ rfl
  have k3 : w5.cell? ⟨g, 3, none⟩ = some (.int .u8 0) := hb5.get 3 _ rfl
  have B5 := Lib.hid hb5
  clear b5 r5 k5 hc5 hb5 B4 B3 BR3 BT3 R4 Q4 OW Q3
  have k4 : w5.cell? ⟨g, 4, none⟩ = some (.int .u8 1) := B5.out.get 4 _ rfl
  go_wp2_with (first | (refine wpList_store_cell rfl 5 (.tmp 19) (.tmp 18) rfl size5 g 4 (.int .u8 2) rfl rfl rfl (qv (.slice (some ⟨bI, oI, none⟩) 5 c4) 4 1 0 1) 29 B5.out (by rw [qv_length]; omega) ?_) | fail)
  intro u0 bu0 ru0
  have hBu0 : Blk u0 g 29 (qv (.slice (some ⟨bI, oI, none⟩) 5 c4) 4 1 0 2) := bu0.out
  have Ru0 : Hid (KRow w3.heap.size u0 (.slice (some ⟨bI, oI, none⟩) 5 c4) 5 L) := R5.out.at (Nat.le_refl _) fun b hb1 _ => ru0.out.block b (by have := LG.out; omega)
  have BRu0 : Hid (Blk u0 gr 29 (qv nl 0 0 0 0)) := BR5.out.keep (ru0.out.block gr NE.out.symm)
  have BTu0 : Hid (Blk u0 gt 52 (tv 0 nl)) := BT5.out.keep (ru0.out.block gt NT.out.symm)
  have Qu0 : Hid (w.grownBy u0 none) := grown_in Q5.out ru0.out.grown E1.out
  have Bu0 := Lib.hid hBu0
  clear bu0 ru0 k0 k1 k2 k3 k4
  have k0u0 : u0.cell? ⟨g, 0, none⟩ = some (.slice (some ⟨bI, oI, none⟩) 5 c4) := hBu0.get 0 _ rfl
  have k1u0 : u0.cell? ⟨g, 1, none⟩ = some (.int .i64 4) := hBu0.get 1 _ rfl
  have k2u0 : u0.cell? ⟨g, 2, none⟩ = some (.int .u16 1) := hBu0.get 2 _ rfl
  have k3u0 : u0.cell? ⟨g, 3, none⟩ = some (.int .u8 0) := hBu0.get 3 _ rfl
  have k4u0 : u0.cell? ⟨g, 4, none⟩ = some (.int .u8 2) := hBu0.get 4 _ rfl
  clear hBu0
  go_wp2_with (first | (refine wpList_store_cell rfl 5 (.tmp 54) (.tmp 53) rfl size5 g 3 (.int .u8 2) rfl rfl rfl (qv (.slice (some ⟨bI, oI, none⟩) 5 c4) 4 1 0 2) 29 Bu0.out (by rw [qv_length]; omega) ?_) | fail)
  intro u1 bu1 ru1
  have hBu1 : Blk u1 g 29 (qv (.slice (some ⟨bI, oI, none⟩) 5 c4) 4 1 2 2) := bu1.out
  have Ru1 : Hid (KRow w3.heap.size u1 (.slice (some ⟨bI, oI, none⟩) 5 c4) 5 L) := Ru0.out.at (Nat.le_refl _) fun b hb1 _ => ru1.out.block b (by have := LG.out; omega)
  have BRu1 : Hid (Blk u1 gr 29 (qv nl 0 0 0 0)) := BRu0.out.keep (ru1.out.block gr NE.out.symm)
  have BTu1 : Hid (Blk u1 gt 52 (tv 0 nl)) := BTu0.out.keep (ru1.out.block gt NT.out.symm)
  have Qu1 : Hid (w.grownBy u1 none) := grown_in Qu0.out ru1.out.grown E1.out
  have Bu1 := Lib.hid hBu1
  clear bu1 ru1 k0u0 k1u0 k2u0 k3u0 k4u0
  have k0u1 : u1.cell? ⟨g, 0, none⟩ = some (.slice (some ⟨bI, oI, none⟩) 5 c4) := hBu1.get 0 _ rfl
  have k1u1 : u1.cell? ⟨g, 1, none⟩ = some (.int .i64 4) := hBu1.get 1 _ rfl
  have k2u1 : u1.cell? ⟨g, 2, none⟩ = some (.int .u16 1) := hBu1.get 2 _ rfl
  have k3u1 : u1.cell? ⟨g, 3, none⟩ = some (.int .u8 2) := hBu1.get 3 _ rfl
  have k4u1 : u1.cell? ⟨g, 4, none⟩ = some (.int .u8 2) := hBu1.get 4 _ rfl
  clear hBu1
  have BZ := Lib.hid Bu1.out
  have Rz := Lib.hid Ru1.out
  have BRz := Lib.hid BRu1.out
  have BTz := Lib.hid BTu1.out
  have Qz := Lib.hid Qu1.out
  go_wp2_with fail
  refine wp_region_held_drew (S := fun W => Blk W g 29 (qv (.slice (some ⟨bI, oI, none⟩) 5 c4) 4 1 2 2)) (by kernel_rfl) BZ.out (fun hHeld => ?_)
  obtain ⟨V, hV⟩ : ∃ V, V = u1.drew := ⟨_, rfl⟩
  have VX : Hid (Blk V gr 29 (qv nl 0 0 0 0)) := by rw [hV]; exact BRz.out
  have VT : Hid (Blk V gt 52 (tv 0 nl)) := by rw [hV]; exact BTz.out
  have VR : Hid (KRow w3.heap.size V (.slice (some ⟨bI, oI, none⟩) 5 c4) 5 L) := Rz.out.at (Nat.le_refl _) fun b _ _ => by rw [hV]; rfl
  have VL : Hid (w.grownBy V none) := by rw [hV]; exact Qz.out.trans (grown_drew u1)
  rw [← hV] at hHeld ⊢
  clear hV
  refine' wpAnyH_take (i := 0) (oi := { dst := some 55, op := Op.load 29 (Operand.tmp 1), type := 29, pos := "fedq.go:49", after := #[], guard := none }) (v := .agg (qv (.slice (some ⟨bI, oI, none⟩) 5 c4) 4 1 2 2).toArray) rfl (by kernel_rfl) (by kernel_rfl) (by kernel_rfl) (fun _ _ _ h => h) (yieldsIf_loadR agQ (by rfl) (.tmp 1) rfl g 0 rfl (qv_length _ _ _ _ _) (fun _ h => range_of h)) (by assumption) ?qz1
  try simp only [Act.put, List.setIfInBounds_toArray, List.set_cons_zero, List.set_cons_succ]
  refine' wpAnyH_take (i := 1) (oi := { dst := some 56, op := Op.fieldAddr 29 (Operand.tmp 1) 2, type := 0, pos := "fedq.go:49", after := #[{ on := 10, ground := Ground.gcOnly Departure.lateStores }], guard := none }) (v := .pointer (some ⟨g, 2, none⟩)) rfl (by kernel_rfl) (by kernel_rfl) (by kernel_rfl) (fun _ _ _ h => h) (Or.inl ⟨by rfl, fun w' hSw => by go_simp⟩) (by assumption) ?qz2
  try simp only [Act.put, List.setIfInBounds_toArray, List.set_cons_zero, List.set_cons_succ]
  refine' wpAnyH_take (i := 2) (oi := { dst := some 57, op := Op.load 22 (Operand.tmp 56), type := 22, pos := "fedq.go:49", after := #[{ on := 1, ground := Ground.data }, { on := 10, ground := Ground.gcOnly Departure.lateStores }], guard := none }) (v := .int .u16 1) rfl (by kernel_rfl) (by kernel_rfl) (by kernel_rfl) (fun _ _ _ h => h) (Or.inl ⟨by rfl, fun w' hSw => by have h3 := hSw.get 2 _ (by rfl); go_simp⟩) (by assumption) ?qz3
  try simp only [Act.put, List.setIfInBounds_toArray, List.set_cons_zero, List.set_cons_succ]
  refine' wpAnyH_take (i := 3) (oi := { dst := some 58, op := Op.fieldAddr 29 (Operand.tmp 1) 0, type := 0, pos := "fedq.go:49", after := #[], guard := none }) (v := .pointer (some ⟨g, 0, none⟩)) rfl (by kernel_rfl) (by kernel_rfl) (by kernel_rfl) (fun _ _ _ h => h) (Or.inl ⟨by rfl, fun w' hSw => by go_simp⟩) (by assumption) ?qz4
  try simp only [Act.put, List.setIfInBounds_toArray, List.set_cons_zero, List.set_cons_succ]
  refine' wpAnyH_take (i := 4) (oi := { dst := some 59, op := Op.load 27 (Operand.tmp 58), type := 27, pos := "fedq.go:49", after := #[{ on := 3, ground := Ground.data }], guard := none }) (v := .slice (some ⟨bI, oI, none⟩) 5 c4) rfl (by kernel_rfl) (by kernel_rfl) (by kernel_rfl) (fun _ _ _ h => h) (Or.inl ⟨by rfl, fun w' hSw => by have h3 := hSw.get 0 _ (by rfl); go_simp⟩) (by assumption) ?qz5
  try simp only [Act.put, List.setIfInBounds_toArray, List.set_cons_zero, List.set_cons_succ]
  refine' wpAnyH_take (i := 5) (oi := { dst := some 60, op := Op.load 29 (Operand.tmp 1), type := 29, pos := "fedq.go:49", after := #[], guard := none }) (v := .agg (qv (.slice (some ⟨bI, oI, none⟩) 5 c4) 4 1 2 2).toArray) rfl (by kernel_rfl) (by kernel_rfl) (by kernel_rfl) (fun _ _ _ h => h) (yieldsIf_loadR agQ (by rfl) (.tmp 1) rfl g 0 rfl (qv_length _ _ _ _ _) (fun _ h => range_of h)) (by assumption) ?qz6
  try simp only [Act.put, List.setIfInBounds_toArray, List.set_cons_zero, List.set_cons_succ]
  refine wpAnyH_ready (rs := [6]) (by kernel_rfl) (by simp) ?_
  refine AllReadyH.cons (o := { dst := some 61, op := Op.call { callee := Callee.value (Operand.func 14), args := #[Operand.tmp 60], argTypes := #[29] }, type := 3, pos := "fedq.go:49", after := #[{ on := 5, ground := Ground.data }], guard := none }) rfl (fun K hK => ?_) AllReadyH.nil
  rw [if_pos (by rfl)]
  go_simp
  have hs : Calls Try.prog 14 #[.agg (qv (.slice (some ⟨bI, oI, none⟩) 5 c4) 4 1 2 2).toArray] V (NewV V (.int .i64 4)) := sent_any (s := 4) _ 1 2 2 (by omega)
  with_reducible refine hs.mono ?_
  rintro _ vz7 ⟨rfl, qz8⟩
  have xz11 := VX.out.grown qz8 (by simp)
  have yz12 := VT.out.grown qz8 (by simp)
  have rz9 : KRow w3.heap.size vz7 (.slice (some ⟨bI, oI, none⟩) 5 c4) 5 L := VR.out.at (Nat.le_refl _) fun b _ hb2 => World.grownBy.block qz8 b hb2 (by simp)
  have lz10 := VL.out.trans qz8
  refine hK.out _ _ (hHeld.grown qz8 (by simp)) (fun hHeld => ?_)
  clear hK K
  try simp only [Act.put, List.setIfInBounds_toArray, List.set_cons_zero, List.set_cons_succ]
  refine' wpAnyH_take (i := 7) (oi := { dst := some 62, op := Op.slice 27 (Operand.tmp 59) none (some (Operand.tmp 61)) none, type := 27, pos := "fedq.go:49", after := #[{ on := 4, ground := Ground.data }, { on := 6, ground := Ground.data }], guard := none }) (v := .slice (some ⟨bI, oI, none⟩) 4 c4) rfl (by kernel_rfl) (by kernel_rfl) (by kernel_rfl) (fun _ _ _ h => h) (yieldsIf_sliceTo (by rfl) (.tmp 59) (.tmp 61) rfl bI oI 5 c4 4 rfl rfl (by have := HC5.out; omega) (by have := HC5.out; omega)) (by assumption) ?qz13
  try simp only [Act.put, List.setIfInBounds_toArray, List.set_cons_zero, List.set_cons_succ]
  refine wpAnyH_ready (rs := [8]) (by kernel_rfl) (by simp) ?_
  refine AllReadyH.cons (o := { dst := some 63, op := Op.call { callee := Callee.value (Operand.func 12), args := #[Operand.tmp 62], argTypes := #[27] }, type := 27, pos := "fedq.go:49", after := #[{ on := 7, ground := Ground.data }, { on := 6, ground := Ground.chain }], guard := none }) rfl (fun K hK => ?_) AllReadyH.nil
  rw [if_pos (by rfl)]
  go_simp
  obtain ⟨At, ct, et, _, _, kt⟩ := rz9.kps
  cases et
  with_reducible refine (own_any (n := 4) (c := c4) (kt.take 4) (by have := HN.out; simp only [List.length_take]; omega) (by omega)).mono ?_
  rintro _ vz14 ⟨Ao, co, rfl, _, qz15⟩
  have xz18 := xz11.grown qz15 (by simp)
  have yz19 := yz12.grown qz15 (by simp)
  have rz16 : KRow w3.heap.size vz14 (.slice (some ⟨bI, oI, none⟩) 5 c4) 5 L := rz9.at (Nat.le_refl _) fun b _ hb2 => World.grownBy.block qz15 b hb2 (by simp)
  have lz17 := lz10.trans qz15
  refine hK.out _ _ (hHeld.grown qz15 (by simp)) (fun hHeld => ?_)
  clear hK K
  try simp only [Act.put, List.setIfInBounds_toArray, List.set_cons_zero, List.set_cons_succ]
  refine' wpAnyH_take (i := 9) (oi := { dst := some 64, op := Op.build 52 #[(0, Operand.tmp 57), (1, Operand.tmp 63)], type := 52, pos := "fedq.go:49", after := #[{ on := 2, ground := Ground.data }, { on := 8, ground := Ground.data }, { on := 10, ground := Ground.gcOnly Departure.lateStores }], guard := none }) (v := .agg (tv 1 (.slice Ao 4 co)).toArray) rfl (by kernel_rfl) (by kernel_rfl) (by kernel_rfl) (fun _ _ _ h => h) (yieldsIf_buildT (by rfl) (.tmp 57) (.tmp 63) rfl 1 Ao 4 co rfl rfl) (by assumption) ?qz20
  try simp only [Act.put, List.setIfInBounds_toArray, List.set_cons_zero, List.set_cons_succ]
  refine wpAnyH_ready (rs := [10]) (by kernel_rfl) (by simp) ?_
  refine AllReadyH.cons (o := { dst := none, op := Op.store 29 (Operand.tmp 2) (Operand.tmp 55), type := 0, pos := "fedq.go:49", after := #[{ on := 0, ground := Ground.data }, { on := 8, ground := Ground.chain }, { on := 0, ground := Ground.phase }, { on := 1, ground := Ground.textOnly Departure.lateStores }, { on := 2, ground := Ground.textOnly Departure.lateStores }, { on := 3, ground := Ground.textOnly Departure.lateStores }, { on := 4, ground := Ground.textOnly Departure.lateStores }, { on := 5, ground := Ground.textOnly Departure.lateStores }, { on := 6, ground := Ground.textOnly Departure.lateStoresUnsure }, { on := 7, ground := Ground.textOnly Departure.lateStoresUnsure }, { on := 8, ground := Ground.textOnly Departure.lateStoresUnsure }, { on := 9, ground := Ground.textOnly Departure.lateStores }], guard := none }) rfl (fun K hK => ?_) AllReadyH.nil
  rw [if_pos (by rfl)]
  refine wp_storeG agQ _ _ rfl gr rfl rfl xz18 (qv_length _ _ _ _ _) (qv_length _ _ _ _ _) (qv_one _ _ _ _ _ _ _) (fun va ba qa za => ?_)
  have ya := yz19.grown qa.out (by simpa using NR.out.symm)
  have la := grown_in lz17 qa.out E2.out
  have ra : KRow w3.heap.size va (.slice (some ⟨bI, oI, none⟩) 5 c4) 5 L := rz16.at (Nat.le_refl _) fun b hb1 hb2 => qa.out.block b hb2 (by have := LR.out; simp; omega)
  refine hK.out _ _ (hHeld.grown qa.out (by simpa using NE.out)) (fun hHeld => ?_)
  clear hK K
  dsimp only [Act.put]
  refine wpAnyH_ready (rs := [11]) (by kernel_rfl) (by simp) ?_
  refine AllReadyH.cons (o := { dst := none, op := Op.store 52 (Operand.tmp 3) (Operand.tmp 64), type := 0, pos := "fedq.go:49", after := #[{ on := 9, ground := Ground.data }, { on := 10, ground := Ground.chain }, { on := 0, ground := Ground.phase }, { on := 1, ground := Ground.phase }, { on := 2, ground := Ground.phase }, { on := 3, ground := Ground.phase }, { on := 4, ground := Ground.phase }, { on := 5, ground := Ground.phase }, { on := 6, ground := Ground.phase }, { on := 7, ground := Ground.phase }, { on := 8, ground := Ground.phase }, { on := 9, ground := Ground.phase }, { on := 10, ground := Ground.phase }], guard := none }) rfl (fun K hK => ?_) AllReadyH.nil
  rw [if_pos (by rfl)]
  refine wp_storeG agT _ _ rfl gt rfl rfl ya (tv_length _ _) (tv_length _ _) (tv_one _ _ _ _) (fun vb bb qb zb => ?_)
  have xb := ba.out.grown qb.out (by simpa using NR.out)
  have lb := grown_in la qb.out E3.out
  have rb : KRow w3.heap.size vb (.slice (some ⟨bI, oI, none⟩) 5 c4) 5 L := ra.at (Nat.le_refl _) fun b hb1 hb2 => qb.out.block b hb2 (by have := LT.out; simp; omega)
  refine hK.out _ _ (hHeld.grown qb.out (by simpa using NT.out)) (fun hHeld => ?_)
  clear hK K
  dsimp only [Act.put]
  refine wpAnyH_ready (rs := [12]) (by kernel_rfl) (by simp) ?_
  refine AllReadyH.cons (o := { dst := some 4, op := Op.assign (Operand.const (Value.bool true)), type := 4, pos := "fedq.go:49", after := #[{ on := 11, ground := Ground.chain }, { on := 0, ground := Ground.phase }, { on := 1, ground := Ground.phase }, { on := 2, ground := Ground.phase }, { on := 3, ground := Ground.phase }, { on := 4, ground := Ground.phase }, { on := 5, ground := Ground.phase }, { on := 6, ground := Ground.phase }, { on := 7, ground := Ground.phase }, { on := 8, ground := Ground.phase }, { on := 9, ground := Ground.phase }, { on := 10, ground := Ground.phase }, { on := 11, ground := Ground.phase }], guard := none }) rfl (fun K hK => ?_) AllReadyH.nil
  rw [if_pos (by rfl)]
  go_simp
  refine hK.out _ _ hHeld (fun hHeld => ?_)
  clear hK K
  try simp only [Act.put, List.setIfInBounds_toArray, List.set_cons_zero, List.set_cons_succ]
  refine wpAnyH_done (by kernel_rfl) ?_ _
  go_wp2_with fail
  refine bodyPost_ret (res_ccs rfl agQ agT rfl rfl rfl xb bb.out (qv_length _ _ _ _ _) (tv_length _ _)) rfl ⟨_, Ao, co, rfl, some ⟨bI, oI, none⟩, c4, rfl, ?_, lb⟩
  have h1 := E1.out
  have h2 := LG.out
  exact rb.at (by omega) fun b _ _ => rfl
end Go.Proofs.Ytklcjjmeknajlaa
