/- AesMany: a cipher that has locked other blocks locks the next one as a new one does. Conditions: none. -/
import Derived.Test.YtgmogphojmcgdaaBls
namespace Go.Proofs.Ytgmogphojmcgdaa
open Go.RowKit
set_option maxRecDepth 100000 in
set_option maxHeartbeats 1600000 in
theorem many_walk (w : World) (k : Fin 32 → UInt8) (A : Option Addr) (n c : Nat) (S : Nat → State) (hS : Bls w (fun b => b < w.heap.size) A n S) :
    Calls Try.prog 6 #[.agg (u8s (k32 k)).toArray, .slice A n c] w fun e w' => e = .returned (.bool true) ∧ w.grownBy w' none := by
  have HS := Lib.hid hS
  clear hS
  go_enter Try.func6, Try.ntmps6
  go_wp2_with (first | (refine wpList_box22 rfl _ k rfl rfl ?_
                        intro w1 hb1 hg1 hz1
                        obtain ⟨gk, hgk⟩ : ∃ g, g = w.heap.size := ⟨_, rfl⟩
                        rw [← hgk] at hb1 ⊢
                        have HB1 := Lib.hid hb1
                        have HG1 := Lib.hid hg1
                        clear hb1 hg1 hz1 hgk)
                     | (go_at_call 7
                        refine (alive_any w1).mono ?_
                        rintro _ w3 ⟨rfl, hg3⟩
                        have HK3 := Lib.hid (HB1.out.grown hg3 (by simp))
                        have HG3 := Lib.hid (World.grownBy.trans HG1.out hg3)
                        clear hg3)
                     | (refine wpList_load_mid rfl 22 _ rfl gk 0 rfl (u8s (k32 k)) _ (range_blk HK3.out) Try.underlying22 rfl (by rw [size22, u8s_length, k32_length]) ?_)
                     | (go_at_call 8
                        refine (cnew_any w3 k).mono ?_
                        rintro _ w4 ⟨g, rfl, hc4, hg4⟩
                        have HC4 := Lib.hid hc4
                        have HK4 := Lib.hid (HK3.out.grown hg4 (by simp))
                        have HG4 := Lib.hid (World.grownBy.trans HG3.out hg4)
                        clear hc4 hg4))
  go_loopw [6] (fun v wr => ∃ i : Nat, i ≤ 8 ∧ v = .int .i64 (i : Int) ∧ w4.grownBy wr none) (fun v _ => 8 - (intOf v).toNat)
  case atStart => exact ⟨0, by omega, rfl, World.grownBy.refl _ _⟩
  case round =>
    obtain ⟨i, hi, rfl, hg⟩ := hrel
    by_cases hn : i < n
    · by_cases h8 : i < 8
      · obtain ⟨ad, rfl, had, hcell⟩ := HS.out i hn
        have HAD := Lib.hid had
        have HC := Lib.hid (HC4.out.grown hg)
        have HK := Lib.hid (HK4.out.grown hg (by simp))
        have HG : Hid (w.grownBy wr none) := Lib.hid (World.grownBy.trans HG4.out hg)
        have HG4r := Lib.hid hg
        have hcw : ∀ j v, (bytesOf (S i))[j]? = some v → wr.cell? ((ad.add (i * 16)).add j) = some v := fun j v hv => by
          refine (World.cell?_of_block ?_).trans (hcell j v hv)
          rw [block_of_plus, block_of_plus]
          exact HG.out.block _ had (by simp)
        have HCW := Lib.hid hcw
        generalize hs : S i = s at HCW
        clear hs
        obtain ⟨B, hB⟩ : ∃ B, B = ad.add (i * 16) := ⟨_, rfl⟩
        rw [← hB] at HCW
        have HBE := Lib.hid hB
        clear hB
        have HN := Lib.hid hn
        have d1 : (i : Int) < (n : Int) := by omega
        have d2 : (i : Int) < 8 := by omega
        clear hcell had hg
        clear hcw
        go_wp2_with (fail)
        refine wp_region_held_drew (S := fun w' => Cip w' g (k32 k) ∧ Blk w' gk 22 (u8s (k32 k)) ∧ ∀ j v, (bytesOf s)[j]? = some v → w'.cell? (B.add j) = some v) (by kernel_rfl) ⟨Blk.keep HC.out rfl, HK.out.keep rfl, HCW.out⟩ (fun hHeld => ?_)
        refine' wpAnyH_take (i := 0) (oi := { dst := some 21, op := Op.move (Operand.tmp 5), type := 25, pos := "law.go:57", after := #[], guard := none }) (v := .pointer (some ⟨g, 0, none⟩)) rfl (by kernel_rfl) (by kernel_rfl) (by kernel_rfl) (fun _ _ _ h => h) (.inl ⟨by rfl, fun _ _ => rfl⟩) (by assumption) ?rest0
        try simp only [Act.put, List.setIfInBounds_toArray, List.set_cons_zero, List.set_cons_succ]
        refine' wpAnyH_take (i := 1) (oi := { dst := some 22, op := Op.move (Operand.tmp 1), type := 34, pos := "law.go:57", after := #[], guard := none }) (v := .slice (some ad) n c) rfl (by kernel_rfl) (by kernel_rfl) (by kernel_rfl) (fun _ _ _ h => h) (.inl ⟨by rfl, fun _ _ => rfl⟩) (by assumption) ?rest1
        try simp only [Act.put, List.setIfInBounds_toArray, List.set_cons_zero, List.set_cons_succ]
        refine' wpAnyH_take (i := 2) (oi := { dst := some 23, op := Op.move (Operand.tmp 6), type := 3, pos := "law.go:57", after := #[], guard := none }) (v := .int .i64 (i : Int)) rfl (by kernel_rfl) (by kernel_rfl) (by kernel_rfl) (fun _ _ _ h => h) (.inl ⟨by rfl, fun _ _ => rfl⟩) (by assumption) ?rest2
        try simp only [Act.put, List.setIfInBounds_toArray, List.set_cons_zero, List.set_cons_succ]
        refine' wpAnyH_take (i := 3) (oi := { dst := some 24, op := Op.indexAddr 34 (Operand.tmp 22) (Operand.tmp 23), type := 0, pos := "law.go:57", after := #[{ on := 1, ground := Ground.data }, { on := 2, ground := Ground.data }], guard := none }) (v := .pointer (some B)) rfl (by kernel_rfl) (by kernel_rfl) (by kernel_rfl) (fun _ _ _ h => h) (yieldsIf_index (by rfl) _ _ rfl ad n c i rfl rfl HN.out HBE.out) (by assumption) ?rest3
        try simp only [Act.put, List.setIfInBounds_toArray, List.set_cons_zero, List.set_cons_succ]
        refine' wpAnyH_take (i := 4) (oi := { dst := some 25, op := Op.load 23 (Operand.tmp 24), type := 23, pos := "law.go:57", after := #[{ on := 3, ground := Ground.data }], guard := none }) (v := _) rfl (by kernel_rfl) (by kernel_rfl) (by kernel_rfl) (fun _ _ _ h => h) (yieldsIf_load_at (by rfl) _ rfl B rfl s (fun w' hs => hs.2.2)) (by assumption) ?rest4
        try simp only [Act.put, List.setIfInBounds_toArray, List.set_cons_zero, List.set_cons_succ]
        refine' wpAnyH_take (i := 6) (oi := { dst := some 27, op := Op.load 22 (Operand.tmp 2), type := 22, pos := "law.go:57", after := #[], guard := none }) (v := _) rfl (by kernel_rfl) (by kernel_rfl) (by kernel_rfl) (fun _ _ _ h => h) (yieldsIf_load_mid (by rfl) _ _ rfl _ _ rfl (u8s (k32 k)) _ ?s6 ?u6 ?d6 ?i6) (by assumption) ?rest6
        case s6 => exact fun w' hs => range_blk hs.2.1
        case u6 => exact Try.underlying22
        case d6 => rfl
        case i6 => rw [size22, u8s_length, k32_length]
        try simp only [Act.put, List.setIfInBounds_toArray, List.set_cons_zero, List.set_cons_succ]
        refine' wpAnyH_take (i := 8) (oi := { dst := some 29, op := Op.move (Operand.tmp 1), type := 34, pos := "law.go:57", after := #[], guard := none }) (v := .slice (some ad) n c) rfl (by kernel_rfl) (by kernel_rfl) (by kernel_rfl) (fun _ _ _ h => h) (.inl ⟨by rfl, fun _ _ => rfl⟩) (by assumption) ?rest8
        try simp only [Act.put, List.setIfInBounds_toArray, List.set_cons_zero, List.set_cons_succ]
        refine' wpAnyH_take (i := 9) (oi := { dst := some 30, op := Op.move (Operand.tmp 6), type := 3, pos := "law.go:57", after := #[], guard := none }) (v := .int .i64 (i : Int)) rfl (by kernel_rfl) (by kernel_rfl) (by kernel_rfl) (fun _ _ _ h => h) (.inl ⟨by rfl, fun _ _ => rfl⟩) (by assumption) ?rest9
        try simp only [Act.put, List.setIfInBounds_toArray, List.set_cons_zero, List.set_cons_succ]
        refine' wpAnyH_take (i := 10) (oi := { dst := some 31, op := Op.indexAddr 34 (Operand.tmp 29) (Operand.tmp 30), type := 0, pos := "law.go:57", after := #[{ on := 8, ground := Ground.data }, { on := 9, ground := Ground.data }], guard := none }) (v := .pointer (some B)) rfl (by kernel_rfl) (by kernel_rfl) (by kernel_rfl) (fun _ _ _ h => h) (yieldsIf_index (by rfl) _ _ rfl ad n c i rfl rfl HN.out HBE.out) (by assumption) ?rest10
        try simp only [Act.put, List.setIfInBounds_toArray, List.set_cons_zero, List.set_cons_succ]
        refine' wpAnyH_take (i := 11) (oi := { dst := some 32, op := Op.load 23 (Operand.tmp 31), type := 23, pos := "law.go:57", after := #[{ on := 10, ground := Ground.data }], guard := none }) (v := _) rfl (by kernel_rfl) (by kernel_rfl) (by kernel_rfl) (fun _ _ _ h => h) (yieldsIf_load_at (by rfl) _ rfl B rfl s (fun w' hs => hs.2.2)) (by assumption) ?rest11
        try simp only [Act.put, List.setIfInBounds_toArray, List.set_cons_zero, List.set_cons_succ]
        refine wpAnyH_ready (rs := [5]) (by kernel_rfl) (by simp) ?_
        refine AllReadyH.cons (o := { dst := some 26, op := Op.call { callee := Callee.value (Operand.func 9), args := #[Operand.tmp 21, Operand.tmp 25], argTypes := #[25, 23] }, type := 23, pos := "law.go:57", after := #[{ on := 0, ground := Ground.data }, { on := 4, ground := Ground.data }], guard := none }) rfl (fun K hK => ?_) AllReadyH.nil
        rw [if_pos (by rfl)]
        go_simp
        refine (clock_any hHeld.1 s).mono ?_
        rintro _ w5 ⟨rfl, hg5⟩
        refine hK.out _ _ ⟨hHeld.1.grown hg5, hHeld.2.1.grown hg5 (by simp), fun j v hv => hg5.cell (hHeld.2.2 j v hv) (by simp)⟩ (fun hHeld => ?_)
        clear hK K
        try simp only [Act.put, List.setIfInBounds_toArray, List.set_cons_zero, List.set_cons_succ]
        refine wpAnyH_ready (rs := [7]) (by kernel_rfl) (by simp) ?_
        refine AllReadyH.cons (o := { dst := some 28, op := Op.call { callee := Callee.value (Operand.func 8), args := #[Operand.tmp 27], argTypes := #[22] }, type := 25, pos := "law.go:57", after := #[{ on := 6, ground := Ground.data }, { on := 5, ground := Ground.chain }], guard := none }) rfl (fun K hK => ?_) AllReadyH.nil
        rw [if_pos (by rfl)]
        go_simp
        refine (cnew_any _ k).mono ?_
        rintro _ w6 ⟨gn, rfl, hc6, hg6⟩
        refine hK.out _ _ ⟨hHeld.1.grown hg6, hHeld.2.1.grown hg6 (by simp), fun j v hv => hg6.cell (hHeld.2.2 j v hv) (by simp)⟩ (fun hHeld => ?_)
        clear hK K
        try simp only [Act.put, List.setIfInBounds_toArray, List.set_cons_zero, List.set_cons_succ]
        refine wpAnyH_ready (rs := [12]) (by kernel_rfl) (by simp) ?_
        refine AllReadyH.cons (o := { dst := some 33, op := Op.call { callee := Callee.value (Operand.func 9), args := #[Operand.tmp 28, Operand.tmp 32], argTypes := #[25, 23] }, type := 23, pos := "law.go:57", after := #[{ on := 7, ground := Ground.data }, { on := 11, ground := Ground.data }, { on := 7, ground := Ground.chain }], guard := none }) rfl (fun K hK => ?_) AllReadyH.nil
        rw [if_pos (by rfl)]
        go_simp
        refine (clock_any hc6 s).mono ?_
        rintro _ w7 ⟨rfl, hg7⟩
        refine hK.out _ _ ⟨hHeld.1.grown hg7, hHeld.2.1.grown hg7 (by simp), fun j v hv => hg7.cell (hHeld.2.2 j v hv) (by simp)⟩ (fun hHeld => ?_)
        clear hK K
        try simp only [Act.put, List.setIfInBounds_toArray, List.set_cons_zero, List.set_cons_succ]
        refine wpAnyH_ready (rs := [13]) (by kernel_rfl) (by simp) ?_
        refine AllReadyH.cons (o := { dst := some 34, op := Op.binOp BinOp.neq 23 (Operand.tmp 26) (Operand.tmp 33) 23, type := 4, pos := "law.go:57", after := #[{ on := 5, ground := Ground.data }, { on := 12, ground := Ground.data }], guard := none }) rfl (fun K hK => ?_) AllReadyH.nil
        rw [if_pos (by rfl)]
        refine wp_unlike23 _ _ rfl (aesLock (kn (k32 k)) s) rfl rfl ?_
        refine hK.out _ _ hHeld (fun hHeld => ?_)
        clear hK K
        try simp only [Act.put, List.setIfInBounds_toArray, List.set_cons_zero, List.set_cons_succ]
        refine wpAnyH_done (by kernel_rfl) ?_ _
        have HG7 : Hid (w4.grownBy w7 none) := Lib.hid (World.grownBy.trans (World.grownBy.trans (World.grownBy.trans (grown_drew HG4r.out) hg5) hg6) hg7)
        have HH := Lib.hid hHeld
        clear hg5 hg6 hg7 hc6 hHeld
        go_wp2_with (first
          | (refine wpList_index rfl _ _ rfl ad n c i rfl rfl HN.out HBE.out ?_)
          | (refine wpList_load_at rfl _ rfl B rfl s HH.out.2.2 ?_)
          | (go_at_call 12
             refine (cunlock_any HH.out.1 s).mono ?_
             rintro _ w8 ⟨rfl, hg8⟩
             have HG8 : Hid (w4.grownBy w8 none) := Lib.hid (World.grownBy.trans HG7.out hg8)
             clear hg8))
        go_roundw
        case rel => exact ⟨i + 1, by omega, by go_num, HG8.out⟩
        case measure => simp [intOf]; omega
      · have d1 : (i : Int) < (n : Int) := by omega
        have d2 : ¬ ((i : Int) < 8) := by omega
        have HG : Hid (w.grownBy wr none) := Lib.hid (World.grownBy.trans HG4.out hg)
        clear hg
        go_wp2
        go_ret
        exact ⟨rfl, HG.out⟩
    · have d1 : ¬ ((i : Int) < (n : Int)) := by omega
      have HG : Hid (w.grownBy wr none) := Lib.hid (World.grownBy.trans HG4.out hg)
      clear hg
      go_wp2
      go_ret
      exact ⟨rfl, HG.out⟩
end Go.Proofs.Ytgmogphojmcgdaa
