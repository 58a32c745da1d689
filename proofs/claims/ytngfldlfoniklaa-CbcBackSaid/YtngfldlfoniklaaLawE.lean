/- CbcCut: its walk. Conditions: what is asked of the code's Lock and Unlock. -/
import Derived.Test.YtngfldlfoniklaaLawD
namespace Go.Proofs.Ytngfldlfoniklaa
open Go.RowKit
set_option maxRecDepth 100000 in
set_option maxHeartbeats 1600000 in
theorem cut_walk (hA : AliveSays) (hL : LockSays) (hU : UnlockSays) {w : World} {ok : Nat → Prop} {A : Option Addr} {b : List UInt8} {n c : Nat} (hx : Byt w ok A b) (hok : ∀ g, ok g → g < w.heap.size) (hn : b.length = n) (hc : n ≤ c) (hm : c ≤ maxLen) (k : Fin 32 → UInt8) (v : State) (cut : Int) (hcut : (Lit.int .i64 cut).wf = true) :
    Calls Try.prog 6 #[.agg (u8s (k32 k)).toArray, .agg (bytesOf v).toArray, .slice A n c, .int .i64 cut] w fun e w' => e = .returned (.bool true) ∧ w.grownBy w' none := by
  have hcm : n ≤ 9223372036854775807 := by unfold maxLen at hm; omega
  have HA := Lib.hid hA
  have HL := Lib.hid hL
  have HU := Lib.hid hU
  have HX := Lib.hid hx
  have HOK := Lib.hid hok
  have HN := Lib.hid hn
  have HC := Lib.hid hc
  have HM := Lib.hid hm
  have HCUT := Lib.hid hcut
  clear hA hL hU hx hok hn hc hm hcut
  go_enter Try.func6, Try.ntmps6
  go_wp2_with (first
    | (refine wpList_box22 rfl _ k rfl rfl ?_
       intro w1 hb1 hg1 hz1
       obtain ⟨gk, hgk⟩ : ∃ g, g = w.heap.size := ⟨_, rfl⟩
       rw [← hgk] at hb1 ⊢
       have HB1 := Lib.hid hb1
       have HG1 := Lib.hid hg1
       clear hb1 hg1 hz1 hgk)
    | (refine wpList_box23 rfl _ v rfl rfl ?_
       intro w2 hb2 hg2 hz2
       obtain ⟨gv, hgv⟩ : ∃ g, g = w1.heap.size := ⟨_, rfl⟩
       rw [← hgv] at hb2 ⊢
       have HB2 := Lib.hid hb2
       have HK2 := Lib.hid (HB1.out.grown hg2 (by simp))
       have HG2 := Lib.hid (World.grownBy.trans HG1.out hg2)
       clear hb2 hg2 hz2 hgv)
    | (go_at_call 9
       refine (HA.out w2).mono ?_
       rintro _ w3 ⟨rfl, hg3⟩
       have HB3 := Lib.hid (HB2.out.grown hg3 (by simp))
       have HK3 := Lib.hid (HK2.out.grown hg3 (by simp))
       have HG3 := Lib.hid (World.grownBy.trans HG2.out hg3)
       have HX3 := Lib.hid (HX.out.grown HG3.out (fun b hb => ⟨HOK.out b hb, by simp⟩))
       clear hg3))
  obtain ⟨m, hmn⟩ : ∃ m, m = min n 200 := ⟨_, rfl⟩
  have hmin : (if (200 : Int) < (n : Int) then (200 : Int) else (n : Int)) = (m : Int) := by rw [hmn]; split <;> omega
  have q1 : (m : Int) ≤ (c : Int) := by have := HC.out; omega
  have q2 : (m : Int) ≤ (n : Int) := by omega
  have HM2 := Lib.hid (show m ≤ 200 by omega)
  have HM3 := Lib.hid (show m ≤ n by omega)
  have HM4 := Lib.hid hmn
  have HMIN := Lib.hid hmin
  clear hmn hmin
  refine wp_region_held_drew (S := fun w' => Blk w' gk 22 (u8s (k32 k)) ∧ Blk w' gv 23 (bytesOf v)) (by kernel_rfl) ⟨HK3.out.keep rfl, HB3.out.keep rfl⟩ (fun hHeld => ?_)
  refine' wpAnyH_take (i := 0) (oi := { dst := some 14, op := Op.load 22 (Operand.tmp 4), type := 22, pos := "law.go:61", after := #[], guard := none }) (v := _) rfl (by kernel_rfl) (by kernel_rfl) (by kernel_rfl) (fun _ _ _ h => h) (yieldsIf_load_mid (by rfl) _ _ rfl _ _ rfl (u8s (k32 k)) _ ?s0 ?u0 ?d0 ?i0) (by assumption) ?rest0
  case s0 => exact fun w' hs => range_blk hs.1
  case u0 => exact Try.underlying22
  case d0 => rfl
  case i0 => exact (by rw [size22, u8s_length, k32_length])
  try simp only [Act.put, List.setIfInBounds_toArray, List.set_cons_zero, List.set_cons_succ]
  refine' wpAnyH_take (i := 1) (oi := { dst := some 15, op := Op.load 23 (Operand.tmp 5), type := 23, pos := "law.go:61", after := #[], guard := none }) (v := _) rfl (by kernel_rfl) (by kernel_rfl) (by kernel_rfl) (fun _ _ _ h => h) (yieldsIf_load_mid (by rfl) _ _ rfl _ _ rfl (bytesOf v) _ ?s1 ?u1 ?d1 ?i1) (by assumption) ?rest1
  case s1 => exact fun w' hs => range_blk hs.2
  case u1 => exact Try.underlying23
  case d1 => rfl
  case i1 => exact (bytes_size' v)
  try simp only [Act.put, List.setIfInBounds_toArray, List.set_cons_zero, List.set_cons_succ]
  refine' wpAnyH_take (i := 2) (oi := { dst := some 16, op := Op.move (Operand.tmp 2), type := 24, pos := "law.go:61", after := #[], guard := none }) (v := _) rfl (by kernel_rfl) (by kernel_rfl) (by kernel_rfl) (fun _ _ _ h => h) (.inl ⟨by rfl, fun _ _ => rfl⟩) (by assumption) ?rest2
  try simp only [Act.put, List.setIfInBounds_toArray, List.set_cons_zero, List.set_cons_succ]
  refine' wpAnyH_take (i := 3) (oi := { dst := some 17, op := Op.move (Operand.tmp 2), type := 24, pos := "law.go:61", after := #[], guard := none }) (v := _) rfl (by kernel_rfl) (by kernel_rfl) (by kernel_rfl) (fun _ _ _ h => h) (.inl ⟨by rfl, fun _ _ => rfl⟩) (by assumption) ?rest3
  try simp only [Act.put, List.setIfInBounds_toArray, List.set_cons_zero, List.set_cons_succ]
  refine wpAnyH_ready (rs := [4]) (by kernel_rfl) (by simp) ?_
  refine AllReadyH.cons (o := { dst := some 18, op := Op.call { callee := Callee.builtin Builtin.len, args := #[Operand.tmp 17], argTypes := #[24] }, type := 3, pos := "law.go:61", after := #[{ on := 3, ground := Ground.data }], guard := none }) rfl (fun K hK => ?_) AllReadyH.nil
  rw [if_pos (by rfl)]
  go_simp
  refine hK.out _ _ hHeld (fun hHeld => ?_)
  clear hK K
  try simp only [Act.put, List.setIfInBounds_toArray, List.set_cons_zero, List.set_cons_succ]
  refine wpAnyH_ready (rs := [5]) (by kernel_rfl) (by simp) ?_
  refine AllReadyH.cons (o := { dst := some 19, op := Op.call { callee := Callee.builtin Builtin.min, args := #[Operand.tmp 18, Operand.const (Value.int IntKind.i64 200)], argTypes := #[3, 3] }, type := 3, pos := "law.go:61", after := #[{ on := 4, ground := Ground.data }], guard := none }) rfl (fun K hK => ?_) AllReadyH.nil
  rw [if_pos (by rfl)]
  go_simp
  rw [HMIN.out]
  refine hK.out _ _ hHeld (fun hHeld => ?_)
  clear hK K
  try simp only [Act.put, List.setIfInBounds_toArray, List.set_cons_zero, List.set_cons_succ]
  refine wpAnyH_ready (rs := [6]) (by kernel_rfl) (by simp) ?_
  refine AllReadyH.cons (o := { dst := some 20, op := Op.slice 24 (Operand.tmp 16) none (some (Operand.tmp 19)) none, type := 24, pos := "law.go:61", after := #[{ on := 2, ground := Ground.data }, { on := 5, ground := Ground.data }], guard := none }) rfl (fun K hK => ?_) AllReadyH.nil
  rw [if_pos (by rfl)]
  go_simp
  refine hK.out _ _ hHeld (fun hHeld => ?_)
  clear hK K
  try simp only [Act.put, List.setIfInBounds_toArray, List.set_cons_zero, List.set_cons_succ]
  have HT := Lib.hid (show (b.take m).length = m by rw [List.length_take, HN.out]; have := HM3.out; omega)
  obtain ⟨B, hB⟩ : ∃ B, B = lockB (kn (k32 k)) v (b.take m) := ⟨_, rfl⟩
  obtain ⟨L, hLe⟩ : ∃ L, L = B.length := ⟨_, rfl⟩
  have hLm : L ≤ 208 := by rw [hLe, hB, lockB_length, HT.out]; have := HM2.out; omega
  have HB := Lib.hid hB
  have HLE := Lib.hid hLe
  have HLM := Lib.hid hLm
  clear hB hLe hLm
  refine wpAnyH_ready (rs := [7]) (by kernel_rfl) (by simp) ?_
  refine AllReadyH.cons (o := { dst := some 21, op := Op.call { callee := Callee.value (Operand.func 11), args := #[Operand.tmp 14, Operand.tmp 15, Operand.tmp 20], argTypes := #[22, 23, 24] }, type := 24, pos := "law.go:61", after := #[{ on := 0, ground := Ground.data }, { on := 1, ground := Ground.data }, { on := 6, ground := Ground.data }], guard := none }) rfl (fun K hK => ?_) AllReadyH.nil
  rw [if_pos (by rfl)]
  go_simp
  refine (HL.out w3.drew ok A (b.take m) m c ((HX3.out.take m).keep fun _ _ => rfl) (fun g hg => Nat.lt_of_lt_of_le (HOK.out g hg) HG3.out.size) HT.out (by have := HM3.out; have := HC.out; omega) HM.out (by have h3 := HM2.out; omega) k v).mono ?_
  rintro _ w4 ⟨A4, c4, rfl, hc4, hm4, hx4, hg4⟩
  rw [← HB.out] at hc4 hx4 ⊢
  rw [← HLE.out] at hc4 ⊢
  refine hK.out _ _ ⟨hHeld.1.grown hg4 (by simp), hHeld.2.grown hg4 (by simp)⟩ (fun hHeld => ?_)
  clear hK K
  try simp only [Act.put, List.setIfInBounds_toArray, List.set_cons_zero, List.set_cons_succ]
  refine wpAnyH_ready (rs := [8]) (by kernel_rfl) (by simp) ?_
  refine AllReadyH.cons (o := { dst := some 9, op := Op.assign (Operand.tmp 21), type := 24, pos := "law.go:61", after := #[{ on := 7, ground := Ground.data }, { on := 7, ground := Ground.chain }, { on := 0, ground := Ground.phase }, { on := 1, ground := Ground.phase }, { on := 2, ground := Ground.phase }, { on := 3, ground := Ground.phase }, { on := 4, ground := Ground.phase }, { on := 5, ground := Ground.phase }, { on := 6, ground := Ground.phase }, { on := 7, ground := Ground.phase }], guard := none }) rfl (fun K hK => ?_) AllReadyH.nil
  rw [if_pos (by rfl)]
  go_simp
  refine hK.out _ _ hHeld (fun hHeld => ?_)
  clear hK K
  try simp only [Act.put, List.setIfInBounds_toArray, List.set_cons_zero, List.set_cons_succ]
  refine wpAnyH_done (by kernel_rfl) ?_ _
  have HG4 := Lib.hid (World.grownBy.trans (grown_drew HG3.out) hg4)
  have HX4 := Lib.hid hx4
  have HC4 := Lib.hid hc4
  have HM4 := Lib.hid hm4
  have HK4 := Lib.hid hHeld.1
  have HB4 := Lib.hid hHeld.2
  clear hc4 hm4 hx4 hg4 hHeld
  by_cases hneg : cut < 0
  · go_wp2
    go_ret
    exact ⟨rfl, HG4.out⟩
  by_cases hbig : (L : Int) ≤ cut
  · go_wp2
    go_ret
    exact ⟨rfl, HG4.out⟩
  obtain ⟨t, rfl⟩ : ∃ t : Nat, cut = (t : Int) := ⟨cut.toNat, by omega⟩
  have HTL := Lib.hid (show t < L by omega)
  have q3 : (t : Int) ≤ (c4 : Int) := by have := HC4.out; have := HTL.out; omega
  have q4 : (t : Int) ≤ (L : Int) := by have := HTL.out; omega
  have q5 : (0 : Int) ≤ (t : Int) := by omega
  have HBT := Lib.hid (show (B.take t).length = t by rw [List.length_take, ← HLE.out]; have := HTL.out; omega)
  have HTC := Lib.hid (show t ≤ c4 by have := HC4.out; have := HTL.out; omega)
  cases hu : unlockB (kn (k32 k)) v (B.take t) with
  | none =>
    have HUL := Lib.hid hu
    clear hu
    go_wp2_with (fail)
    refine wp_region_held_drew (S := fun w' => Blk w' gk 22 (u8s (k32 k)) ∧ Blk w' gv 23 (bytesOf v)) (by kernel_rfl) ⟨HK4.out.keep rfl, HB4.out.keep rfl⟩ (fun hHeld => ?_)
    refine' wpAnyH_take (i := 0) (oi := { dst := some 31, op := Op.load 22 (Operand.tmp 4), type := 22, pos := "law.go:65", after := #[], guard := none }) (v := _) rfl (by kernel_rfl) (by kernel_rfl) (by kernel_rfl) (fun _ _ _ h => h) (yieldsIf_load_mid (by rfl) _ _ rfl _ _ rfl (u8s (k32 k)) _ ?s100 ?u100 ?d100 ?i100) (by assumption) ?rest100
    case s100 => exact fun w' hs => range_blk hs.1
    case u100 => exact Try.underlying22
    case d100 => rfl
    case i100 => exact (by rw [size22, u8s_length, k32_length])
    try simp only [Act.put, List.setIfInBounds_toArray, List.set_cons_zero, List.set_cons_succ]
    refine' wpAnyH_take (i := 1) (oi := { dst := some 32, op := Op.load 23 (Operand.tmp 5), type := 23, pos := "law.go:65", after := #[], guard := none }) (v := _) rfl (by kernel_rfl) (by kernel_rfl) (by kernel_rfl) (fun _ _ _ h => h) (yieldsIf_load_mid (by rfl) _ _ rfl _ _ rfl (bytesOf v) _ ?s101 ?u101 ?d101 ?i101) (by assumption) ?rest101
    case s101 => exact fun w' hs => range_blk hs.2
    case u101 => exact Try.underlying23
    case d101 => rfl
    case i101 => exact (bytes_size' v)
    try simp only [Act.put, List.setIfInBounds_toArray, List.set_cons_zero, List.set_cons_succ]
    refine' wpAnyH_take (i := 2) (oi := { dst := some 33, op := Op.move (Operand.tmp 9), type := 24, pos := "law.go:65", after := #[], guard := none }) (v := _) rfl (by kernel_rfl) (by kernel_rfl) (by kernel_rfl) (fun _ _ _ h => h) (.inl ⟨by rfl, fun _ _ => rfl⟩) (by assumption) ?rest102
    try simp only [Act.put, List.setIfInBounds_toArray, List.set_cons_zero, List.set_cons_succ]
    refine' wpAnyH_take (i := 3) (oi := { dst := some 34, op := Op.move (Operand.tmp 3), type := 3, pos := "law.go:65", after := #[], guard := none }) (v := _) rfl (by kernel_rfl) (by kernel_rfl) (by kernel_rfl) (fun _ _ _ h => h) (.inl ⟨by rfl, fun _ _ => rfl⟩) (by assumption) ?rest103
    try simp only [Act.put, List.setIfInBounds_toArray, List.set_cons_zero, List.set_cons_succ]
    refine wpAnyH_ready (rs := [4]) (by kernel_rfl) (by simp) ?_
    refine AllReadyH.cons (o := { dst := some 35, op := Op.slice 24 (Operand.tmp 33) none (some (Operand.tmp 34)) none, type := 24, pos := "law.go:65", after := #[{ on := 2, ground := Ground.data }, { on := 3, ground := Ground.data }], guard := none }) rfl (fun K hK => ?_) AllReadyH.nil
    rw [if_pos (by rfl)]
    go_simp
    refine hK.out _ _ hHeld (fun hHeld => ?_)
    clear hK K
    try simp only [Act.put, List.setIfInBounds_toArray, List.set_cons_zero, List.set_cons_succ]
    refine wpAnyH_ready (rs := [5]) (by kernel_rfl) (by simp) ?_
    refine AllReadyH.cons (o := { dst := some 36, op := Op.call { callee := Callee.value (Operand.func 13), args := #[Operand.tmp 31, Operand.tmp 32, Operand.tmp 35], argTypes := #[22, 23, 24] }, type := 29, pos := "law.go:65", after := #[{ on := 0, ground := Ground.data }, { on := 1, ground := Ground.data }, { on := 4, ground := Ground.data }], guard := none }) rfl (fun K hK => ?_) AllReadyH.nil
    rw [if_pos (by rfl)]
    go_simp
    refine (HU.out.no (w := w4.drew) ((HX4.out.take t).keep fun _ _ => rfl) (fun g hg => hg.2) HBT.out HTC.out HM4.out (by have h3 := HLM.out; have h4 := HTL.out; omega) k v HUL.out).mono ?_
    rintro _ w5 ⟨A5, c5, rfl, hg5⟩
    refine hK.out _ _ ⟨hHeld.1.grown hg5 (by simp), hHeld.2.grown hg5 (by simp)⟩ (fun hHeld => ?_)
    clear hK K
    try simp only [Act.put, List.setIfInBounds_toArray, List.set_cons_zero, List.set_cons_succ]
    refine' wpAnyH_take (i := 6) (oi := { dst := some 30, op := Op.move (Operand.tmp 36), type := 29, pos := "law.go:65", after := #[{ on := 5, ground := Ground.data }], guard := none }) (v := _) rfl (by kernel_rfl) (by kernel_rfl) (by kernel_rfl) (fun _ _ _ h => h) (.inl ⟨by rfl, fun _ _ => rfl⟩) (by assumption) ?rest106
    try simp only [Act.put, List.setIfInBounds_toArray, List.set_cons_zero, List.set_cons_succ]
    refine' wpAnyH_take (i := 7) (oi := { dst := some 37, op := Op.extract (Operand.tmp 30) 0, type := 24, pos := "law.go:65", after := #[{ on := 6, ground := Ground.data }], guard := none }) (v := _) rfl (by kernel_rfl) (by kernel_rfl) (by kernel_rfl) (fun _ _ _ h => h) (.inl ⟨by rfl, fun _ _ => rfl⟩) (by assumption) ?rest107
    try simp only [Act.put, List.setIfInBounds_toArray, List.set_cons_zero, List.set_cons_succ]
    refine' wpAnyH_take (i := 8) (oi := { dst := some 38, op := Op.extract (Operand.tmp 30) 1, type := 4, pos := "law.go:65", after := #[{ on := 6, ground := Ground.data }, { on := 9, ground := Ground.gcOnly Departure.lateStores }], guard := none }) (v := _) rfl (by kernel_rfl) (by kernel_rfl) (by kernel_rfl) (fun _ _ _ h => h) (.inl ⟨by rfl, fun _ _ => rfl⟩) (by assumption) ?rest108
    try simp only [Act.put, List.setIfInBounds_toArray, List.set_cons_zero, List.set_cons_succ]
    refine wpAnyH_ready (rs := [9]) (by kernel_rfl) (by simp) ?_
    refine AllReadyH.cons (o := { dst := some 10, op := Op.assign (Operand.tmp 37), type := 24, pos := "law.go:65", after := #[{ on := 7, ground := Ground.data }, { on := 5, ground := Ground.chain }, { on := 0, ground := Ground.phase }, { on := 1, ground := Ground.phase }, { on := 2, ground := Ground.phase }, { on := 3, ground := Ground.phase }, { on := 4, ground := Ground.phase }, { on := 5, ground := Ground.phase }, { on := 6, ground := Ground.phase }, { on := 7, ground := Ground.phase }, { on := 8, ground := Ground.textOnly Departure.lateStores }], guard := none }) rfl (fun K hK => ?_) AllReadyH.nil
    rw [if_pos (by rfl)]
    go_simp
    refine hK.out _ _ hHeld (fun hHeld => ?_)
    clear hK K
    try simp only [Act.put, List.setIfInBounds_toArray, List.set_cons_zero, List.set_cons_succ]
    refine wpAnyH_ready (rs := [10]) (by kernel_rfl) (by simp) ?_
    refine AllReadyH.cons (o := { dst := some 11, op := Op.assign (Operand.tmp 38), type := 4, pos := "law.go:65", after := #[{ on := 8, ground := Ground.data }, { on := 9, ground := Ground.chain }, { on := 0, ground := Ground.phase }, { on := 1, ground := Ground.phase }, { on := 2, ground := Ground.phase }, { on := 3, ground := Ground.phase }, { on := 4, ground := Ground.phase }, { on := 5, ground := Ground.phase }, { on := 6, ground := Ground.phase }, { on := 7, ground := Ground.phase }, { on := 8, ground := Ground.phase }, { on := 9, ground := Ground.phase }], guard := none }) rfl (fun K hK => ?_) AllReadyH.nil
    rw [if_pos (by rfl)]
    go_simp
    refine hK.out _ _ hHeld (fun hHeld => ?_)
    clear hK K
    try simp only [Act.put, List.setIfInBounds_toArray, List.set_cons_zero, List.set_cons_succ]
    refine wpAnyH_done (by kernel_rfl) ?_ _
    have HG5 := Lib.hid (World.grownBy.trans (grown_drew HG4.out) hg5)
    clear hg5 hHeld
    go_wp2
    all_goals go_ret
    all_goals exact ⟨rfl, HG5.out⟩
  | some s =>
    have hd : t ≠ 0 ∧ t % 16 = 0 := by
      unfold unlockB at hu
      rw [HBT.out] at hu
      split at hu
      · cases hu
      · omega
    have HUL := Lib.hid hu
    clear hu
    go_wp2_with (fail)
    refine wp_region_held_drew (S := fun w' => Blk w' gk 22 (u8s (k32 k)) ∧ Blk w' gv 23 (bytesOf v)) (by kernel_rfl) ⟨HK4.out.keep rfl, HB4.out.keep rfl⟩ (fun hHeld => ?_)
    refine' wpAnyH_take (i := 0) (oi := { dst := some 31, op := Op.load 22 (Operand.tmp 4), type := 22, pos := "law.go:65", after := #[], guard := none }) (v := _) rfl (by kernel_rfl) (by kernel_rfl) (by kernel_rfl) (fun _ _ _ h => h) (yieldsIf_load_mid (by rfl) _ _ rfl _ _ rfl (u8s (k32 k)) _ ?s200 ?u200 ?d200 ?i200) (by assumption) ?rest200
    case s200 => exact fun w' hs => range_blk hs.1
    case u200 => exact Try.underlying22
    case d200 => rfl
    case i200 => exact (by rw [size22, u8s_length, k32_length])
    try simp only [Act.put, List.setIfInBounds_toArray, List.set_cons_zero, List.set_cons_succ]
    refine' wpAnyH_take (i := 1) (oi := { dst := some 32, op := Op.load 23 (Operand.tmp 5), type := 23, pos := "law.go:65", after := #[], guard := none }) (v := _) rfl (by kernel_rfl) (by kernel_rfl) (by kernel_rfl) (fun _ _ _ h => h) (yieldsIf_load_mid (by rfl) _ _ rfl _ _ rfl (bytesOf v) _ ?s201 ?u201 ?d201 ?i201) (by assumption) ?rest201
    case s201 => exact fun w' hs => range_blk hs.2
    case u201 => exact Try.underlying23
    case d201 => rfl
    case i201 => exact (bytes_size' v)
    try simp only [Act.put, List.setIfInBounds_toArray, List.set_cons_zero, List.set_cons_succ]
    refine' wpAnyH_take (i := 2) (oi := { dst := some 33, op := Op.move (Operand.tmp 9), type := 24, pos := "law.go:65", after := #[], guard := none }) (v := _) rfl (by kernel_rfl) (by kernel_rfl) (by kernel_rfl) (fun _ _ _ h => h) (.inl ⟨by rfl, fun _ _ => rfl⟩) (by assumption) ?rest202
    try simp only [Act.put, List.setIfInBounds_toArray, List.set_cons_zero, List.set_cons_succ]
    refine' wpAnyH_take (i := 3) (oi := { dst := some 34, op := Op.move (Operand.tmp 3), type := 3, pos := "law.go:65", after := #[], guard := none }) (v := _) rfl (by kernel_rfl) (by kernel_rfl) (by kernel_rfl) (fun _ _ _ h => h) (.inl ⟨by rfl, fun _ _ => rfl⟩) (by assumption) ?rest203
    try simp only [Act.put, List.setIfInBounds_toArray, List.set_cons_zero, List.set_cons_succ]
    refine wpAnyH_ready (rs := [4]) (by kernel_rfl) (by simp) ?_
    refine AllReadyH.cons (o := { dst := some 35, op := Op.slice 24 (Operand.tmp 33) none (some (Operand.tmp 34)) none, type := 24, pos := "law.go:65", after := #[{ on := 2, ground := Ground.data }, { on := 3, ground := Ground.data }], guard := none }) rfl (fun K hK => ?_) AllReadyH.nil
    rw [if_pos (by rfl)]
    go_simp
    refine hK.out _ _ hHeld (fun hHeld => ?_)
    clear hK K
    try simp only [Act.put, List.setIfInBounds_toArray, List.set_cons_zero, List.set_cons_succ]
    refine wpAnyH_ready (rs := [5]) (by kernel_rfl) (by simp) ?_
    refine AllReadyH.cons (o := { dst := some 36, op := Op.call { callee := Callee.value (Operand.func 13), args := #[Operand.tmp 31, Operand.tmp 32, Operand.tmp 35], argTypes := #[22, 23, 24] }, type := 29, pos := "law.go:65", after := #[{ on := 0, ground := Ground.data }, { on := 1, ground := Ground.data }, { on := 4, ground := Ground.data }], guard := none }) rfl (fun K hK => ?_) AllReadyH.nil
    rw [if_pos (by rfl)]
    go_simp
    refine (HU.out.yes (w := w4.drew) ((HX4.out.take t).keep fun _ _ => rfl) (fun g hg => hg.2) HBT.out HTC.out HM4.out (by have h3 := HLM.out; have h4 := HTL.out; omega) k v HUL.out).mono ?_
    rintro _ w5 ⟨A5, c5, rfl, -, -, -, hg5⟩
    refine hK.out _ _ ⟨hHeld.1.grown hg5 (by simp), hHeld.2.grown hg5 (by simp)⟩ (fun hHeld => ?_)
    clear hK K
    try simp only [Act.put, List.setIfInBounds_toArray, List.set_cons_zero, List.set_cons_succ]
    refine' wpAnyH_take (i := 6) (oi := { dst := some 30, op := Op.move (Operand.tmp 36), type := 29, pos := "law.go:65", after := #[{ on := 5, ground := Ground.data }], guard := none }) (v := _) rfl (by kernel_rfl) (by kernel_rfl) (by kernel_rfl) (fun _ _ _ h => h) (.inl ⟨by rfl, fun _ _ => rfl⟩) (by assumption) ?rest206
    try simp only [Act.put, List.setIfInBounds_toArray, List.set_cons_zero, List.set_cons_succ]
    refine' wpAnyH_take (i := 7) (oi := { dst := some 37, op := Op.extract (Operand.tmp 30) 0, type := 24, pos := "law.go:65", after := #[{ on := 6, ground := Ground.data }], guard := none }) (v := _) rfl (by kernel_rfl) (by kernel_rfl) (by kernel_rfl) (fun _ _ _ h => h) (.inl ⟨by rfl, fun _ _ => rfl⟩) (by assumption) ?rest207
    try simp only [Act.put, List.setIfInBounds_toArray, List.set_cons_zero, List.set_cons_succ]
    refine' wpAnyH_take (i := 8) (oi := { dst := some 38, op := Op.extract (Operand.tmp 30) 1, type := 4, pos := "law.go:65", after := #[{ on := 6, ground := Ground.data }, { on := 9, ground := Ground.gcOnly Departure.lateStores }], guard := none }) (v := _) rfl (by kernel_rfl) (by kernel_rfl) (by kernel_rfl) (fun _ _ _ h => h) (.inl ⟨by rfl, fun _ _ => rfl⟩) (by assumption) ?rest208
    try simp only [Act.put, List.setIfInBounds_toArray, List.set_cons_zero, List.set_cons_succ]
    refine wpAnyH_ready (rs := [9]) (by kernel_rfl) (by simp) ?_
    refine AllReadyH.cons (o := { dst := some 10, op := Op.assign (Operand.tmp 37), type := 24, pos := "law.go:65", after := #[{ on := 7, ground := Ground.data }, { on := 5, ground := Ground.chain }, { on := 0, ground := Ground.phase }, { on := 1, ground := Ground.phase }, { on := 2, ground := Ground.phase }, { on := 3, ground := Ground.phase }, { on := 4, ground := Ground.phase }, { on := 5, ground := Ground.phase }, { on := 6, ground := Ground.phase }, { on := 7, ground := Ground.phase }, { on := 8, ground := Ground.textOnly Departure.lateStores }], guard := none }) rfl (fun K hK => ?_) AllReadyH.nil
    rw [if_pos (by rfl)]
    go_simp
    refine hK.out _ _ hHeld (fun hHeld => ?_)
    clear hK K
    try simp only [Act.put, List.setIfInBounds_toArray, List.set_cons_zero, List.set_cons_succ]
    refine wpAnyH_ready (rs := [10]) (by kernel_rfl) (by simp) ?_
    refine AllReadyH.cons (o := { dst := some 11, op := Op.assign (Operand.tmp 38), type := 4, pos := "law.go:65", after := #[{ on := 8, ground := Ground.data }, { on := 9, ground := Ground.chain }, { on := 0, ground := Ground.phase }, { on := 1, ground := Ground.phase }, { on := 2, ground := Ground.phase }, { on := 3, ground := Ground.phase }, { on := 4, ground := Ground.phase }, { on := 5, ground := Ground.phase }, { on := 6, ground := Ground.phase }, { on := 7, ground := Ground.phase }, { on := 8, ground := Ground.phase }, { on := 9, ground := Ground.phase }], guard := none }) rfl (fun K hK => ?_) AllReadyH.nil
    rw [if_pos (by rfl)]
    go_simp
    refine hK.out _ _ hHeld (fun hHeld => ?_)
    clear hK K
    try simp only [Act.put, List.setIfInBounds_toArray, List.set_cons_zero, List.set_cons_succ]
    refine wpAnyH_done (by kernel_rfl) ?_ _
    have HG5 := Lib.hid (World.grownBy.trans (grown_drew HG4.out) hg5)
    clear hg5 hHeld
    go_wp2
    all_goals go_ret
    all_goals exact ⟨rfl, HG5.out⟩
end Go.Proofs.Ytngfldlfoniklaa
