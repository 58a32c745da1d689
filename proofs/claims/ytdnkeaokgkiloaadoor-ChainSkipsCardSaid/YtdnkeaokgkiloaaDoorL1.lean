/- ChainSkips' walk: how a row goes on is the document's. Conditions: the tables of the hash lie where the program lays them. -/
import Derived.Test.YtdnkeaokgkiloaaDoorT2
namespace Go.Proofs.YtdnkeaokgkiloaaDoor
open Go.RowKit T
theorem cutS {F R : World → Nat → Option Nat → Option Addr → Nat → Prop} {G : Prop} (h2 : (∀ w g p A c, F w g p A c → R w g p A c) → G) (h1 : ∀ w g p A c, F w g p A c → R w g p A c) : G := h2 h1
theorem goF_n (r : List UInt8) : ∀ m σ k n L, k.length = 32 → KAll L → r.length = 32 → n + m ≤ 65536 → (goF r m σ k n L).2.1.length = 32 ∧ KAll (goF r m σ k n L).2.2.2.1 ∧ (goF r m σ k n L).2.2.2.1.length ≤ L.length + m
  | 0, _, _, _, _, hk, hL, _, _ => ⟨hk, hL, Nat.le_refl _⟩
  | m + 1, σ, k, n, L, hk, hL, hr, hn => by
    unfold goF
    split
    · obtain ⟨h1, h2, h3⟩ := goF_n r m (nextS σ k) (nextK σ k) (n + 1) (L ++ [(r, n, nextL σ k)]) (nextK_length _ _) (hL.append (KAll.one (KOk.made hr (by omega)))) hr (by omega)
      refine ⟨h1, h2, Nat.le_trans h3 ?_⟩
      rw [List.length_append]
      simp
      omega
    · exact ⟨hk, hL, by dsimp only; omega⟩
theorem skipF_n {r : List UInt8} {σ : Sg} {k : List UInt8} {n q : Nat} {L : List Kep} (hk : k.length = 32) (hL : KAll L) (hr : r.length = 32) (hq : q < 65536) (hl : L.length ≤ 100) : (skipF r σ k n q L).2.1.length = 32 ∧ KAll (skipF r σ k n q L).2.2.2.1 ∧ (skipF r σ k n q L).2.2.2.1.length ≤ 1000 := by
  unfold skipF
  split
  · exact ⟨hk, hL, by dsimp only; omega⟩
  · rename_i hf
    have hfar : n ≤ q ∧ q - n + L.length ≤ 16 := by
      unfold far at hf
      by_cases a : q < n
      · rw [if_pos a] at hf; simp at hf
      · rw [if_neg a] at hf
        by_cases b : 16 < q - n + L.length
        · rw [if_pos b] at hf; simp at hf
        · omega
    split
    · obtain ⟨h1, h2, h3⟩ := goF_n r (q - n) σ k n L hk hL hr (by omega)
      exact ⟨h1, h2, by omega⟩
    · exact ⟨hk, hL, by dsimp only; omega⟩
set_option maxRecDepth 100000 in
set_option maxHeartbeats 16000000 in
theorem skips_walk {w : World} (hT : S.Tab w) (f : Bool) {okL0 : Nat → Prop} {k r : List UInt8} {n q m c : Nat} {A : Option Addr} {L : List Kep} (hk : k.length = 32) (hn : n < 65536) (hq : q < 65536) (hr : r.length = 32) (hL : Kps w okL0 A L) (hK : KAll L) (hm : L.length = m) (hd : ∀ b, okL0 b → b < w.heap.size) :
    Calls Tryd.prog 6 #[.bool f, .agg (rv k n).toArray, .agg (u8s r).toArray, .int .u16 (q : Int), .slice A m c] w fun e w' => e = .returned (.bool true) ∧ w.grownBy w' none := by
  obtain ⟨z, hz⟩ : ∃ z, z = rv k n := ⟨_, rfl⟩
  obtain ⟨y, hy⟩ : ∃ y, y = u8s r := ⟨_, rfl⟩
  have HT := Lib.hid hT
  have HK := Lib.hid hk
  have HR := Lib.hid hr
  have HL := Lib.hid hL
  have HKA := Lib.hid hK
  have HM := Lib.hid hm
  have HD := Lib.hid hd
  have HZ := Lib.hid hz
  have HY := Lib.hid hy
  have HN := Lib.hid hn
  have HQ := Lib.hid hq
  rw [← hz, ← hy]
  clear hT hk hr hL hK hm hd hz hy hn hq
  go_enter Tryd.func6, Tryd.ntmps6
  go_wp2_with (first | (refine wpList_boxG rfl _ rfl (vs := z) rfl ?_) | fail)
  intro g6 w1 e6 k6 q6
  go_wp2_with (first | (refine wpList_boxG rfl _ rfl (vs := y) rfl ?_) | fail)
  intro g7 w2 e7 k7 q7
  have G2 := Lib.hid (q6.out.trans q7.out)
  have B6a : Hid (C.Blk w2 g6 40 (rv k n)) := by have hh := k6.out.grown q7.out (by simp); rw [HZ.out] at hh; exact hh
  have B7a : Hid (C.Blk w2 g7 22 (u8s r)) := by have hh := k7.out; rw [HY.out] at hh; exact hh
  have T2 := Lib.hid (HT.out.grown G2.out (by simp) (by simp))
  have MA := Lib.hid (alive_any T2.out)
  clear e6 k6 q6 e7 k7 q7
  by_cases h100 : 100 < m
  · have d1 : (100 : Int) < (m : Int) := by omega
    clear h100
    go_wp2_with (first | (go_at_call 9; refine MA.out.mono ?_; rintro _ w3 ⟨rfl, hg3⟩; have G3 := Lib.hid hg3; clear hg3) | fail)
    go_ret
    exact ⟨rfl, G2.out.trans G3.out⟩
  · have d1 : ¬ (100 : Int) < (m : Int) := by omega
    have M100 : Hid (m ≤ 100) := by show m ≤ 100; omega
    clear h100
    go_wp2_with (first | (go_at_call 9; refine MA.out.mono ?_; rintro _ w3 ⟨rfl, hg3⟩; have G3 := Lib.hid hg3; clear hg3) | fail)
    have G4 := Lib.hid (G2.out.trans G3.out)
    have T3 := Lib.hid (T2.out.grown G3.out (by simp) (by simp))
    have B6 := Lib.hid (B6a.out.grown G3.out (by simp))
    have B7 := Lib.hid (B7a.out.grown G3.out (by simp))
    have L3 := Lib.hid (HL.out.grown G4.out)
    obtain ⟨RR, hRR⟩ : ∃ R, R = skipF r (sg0 f) k n q L := ⟨_, rfl⟩
    have hRn := skipF_n (σ := sg0 f) (n := n) HK.out HKA.out HR.out HQ.out (by rw [HM.out]; exact M100.out)
    rw [← hRR] at hRn
    obtain ⟨σr, kr, nr, Lr, er⟩ := RR
    dsimp only at hRn
    obtain ⟨lr, hlr⟩ : ∃ l, Lr.length = l := ⟨_, rfl⟩
    rw [hlr] at hRn
    have HRR := Lib.hid hRR
    have KRL := Lib.hid hRn.1
    have KRA := Lib.hid hRn.2.1
    have LR := Lib.hid hlr
    have L1000 := Lib.hid hRn.2.2
    clear hRR hRn hlr MA
    go_wp2_with fail
    have HT2 : Hid (2 ≤ w.heap.size) := HT.out.lt
    apply cutS (F := fun w' g11 _ A12 _ => ∃ okL, w3.grownBy w' none ∧ Kps w' okL A12 Lr ∧ (∀ b, okL b → b < w'.heap.size) ∧ C.Blk w' g11 40 (rv kr nr))
    · intro hrest_
      refine wp_region_held_drew (S := fun W => W.rangeAt g6 0 (rv k n) ∧ W.rangeAt g7 0 (u8s r)) (by kernel_rfl) ⟨range_of B6.out, range_of B7.out⟩ (fun hHeld => ?_)
      obtain ⟨v0, hv0⟩ : ∃ v, v = w3.drew := ⟨_, rfl⟩
      have hg0 : w3.grownBy v0 none := by rw [hv0]; exact grown_drew w3
      rw [← hv0] at hHeld ⊢
      clear hv0
      refine' wpAnyH_take (i := 0) (oi := { dst := some 23, op := Op.move (Operand.tmp 0), type := 4, pos := "law.go:89", after := #[], guard := none }) (v := .bool f) rfl (by kernel_rfl) (by kernel_rfl) (by kernel_rfl) (fun _ _ _ h => h) (Or.inl ⟨by rfl, fun w' hSw => by go_simp⟩) (by assumption) ?qz1
      try simp only [Act.put, List.setIfInBounds_toArray, List.set_cons_zero, List.set_cons_succ]
      refine' wpAnyH_take (i := 2) (oi := { dst := some 25, op := Op.load 40 (Operand.tmp 6), type := 40, pos := "law.go:89", after := #[], guard := none }) (v := .agg (rv k n).toArray) rfl (by kernel_rfl) (by kernel_rfl) (by kernel_rfl) (fun _ _ _ h => h) (yieldsIf_loadR agC (by rfl) (.tmp 6) rfl g6 0 rfl (rv_length HK.out) (fun _ h => h.1)) (by assumption) ?qz2
      try simp only [Act.put, List.setIfInBounds_toArray, List.set_cons_zero, List.set_cons_succ]
      refine' wpAnyH_take (i := 3) (oi := { dst := some 26, op := Op.load 22 (Operand.tmp 7), type := 22, pos := "law.go:89", after := #[], guard := none }) (v := .agg (u8s r).toArray) rfl (by kernel_rfl) (by kernel_rfl) (by kernel_rfl) (fun _ _ _ h => h) (yieldsIf_loadR agA (by rfl) (.tmp 7) rfl g7 0 rfl (by rw [u8s_length, HR.out]) (fun _ h => h.2)) (by assumption) ?qz3
      try simp only [Act.put, List.setIfInBounds_toArray, List.set_cons_zero, List.set_cons_succ]
      refine' wpAnyH_take (i := 4) (oi := { dst := some 27, op := Op.move (Operand.tmp 3), type := 38, pos := "law.go:89", after := #[], guard := none }) (v := .int .u16 (q : Int)) rfl (by kernel_rfl) (by kernel_rfl) (by kernel_rfl) (fun _ _ _ h => h) (Or.inl ⟨by rfl, fun w' hSw => by go_simp⟩) (by assumption) ?qz4
      try simp only [Act.put, List.setIfInBounds_toArray, List.set_cons_zero, List.set_cons_succ]
      refine' wpAnyH_take (i := 5) (oi := { dst := some 28, op := Op.move (Operand.tmp 4), type := 47, pos := "law.go:89", after := #[], guard := none }) (v := .slice A m c) rfl (by kernel_rfl) (by kernel_rfl) (by kernel_rfl) (fun _ _ _ h => h) (Or.inl ⟨by rfl, fun w' hSw => by go_simp⟩) (by assumption) ?qz5
      try simp only [Act.put, List.setIfInBounds_toArray, List.set_cons_zero, List.set_cons_succ]
      refine wpAnyH_ready (rs := [1, 11]) (by kernel_rfl) (by simp) ?_
      refine AllReadyH.cons (o := { dst := some 24, op := Op.call { callee := Callee.value (Operand.func 11), args := #[Operand.tmp 23], argTypes := #[4] }, type := 29, pos := "law.go:89", after := #[{ on := 0, ground := Ground.data }], guard := none }) rfl (fun K hK => ?_) (AllReadyH.cons (o := { dst := some 11, op := Op.alloc 40, type := 0, pos := "law.go:89", after := #[], guard := none }) rfl (fun K hK => ?_) AllReadyH.nil)
      · rw [if_pos (by rfl)]
        go_simp
        with_reducible refine (suite_any v0 (T3.out.grown (hg0) (by simp) (by simp)) f).mono ?_
        rintro _ vz6 ⟨p, ok, rfl, hsu, hne, gz7⟩
        have Gz8 := (hg0).trans gz7
        have hnew : ∀ b, ok b → w3.heap.size ≤ b := fun b hb => Nat.le_trans (hg0).size (hne b hb)
        refine hK.out _ _ ⟨range_of (B6.out.grown (Gz8) (by simp)), range_of (B7.out.grown (Gz8) (by simp))⟩ (fun hHeld => ?_)
        clear hK K
        try simp only [Act.put, List.setIfInBounds_toArray, List.set_cons_zero, List.set_cons_succ]
        refine wpAnyH_ready (rs := [6, 11]) (by kernel_rfl) (by simp) ?_
        refine AllReadyH.cons (o := { dst := some 29, op := Op.call { callee := Callee.value (Operand.func 21), args := #[Operand.tmp 24, Operand.tmp 25, Operand.tmp 26, Operand.tmp 27, Operand.tmp 28], argTypes := #[29, 40, 24, 38, 47] }, type := 58, pos := "law.go:89", after := #[{ on := 1, ground := Ground.data }, { on := 2, ground := Ground.data }, { on := 3, ground := Ground.data }, { on := 4, ground := Ground.data }, { on := 5, ground := Ground.data }, { on := 1, ground := Ground.chain }], guard := none }) rfl (fun K hK => ?_) (AllReadyH.cons (o := { dst := some 11, op := Op.alloc 40, type := 0, pos := "law.go:89", after := #[], guard := none }) rfl (fun K hK => ?_) AllReadyH.nil)
        · rw [if_pos (by rfl)]
          go_simp
          have hcall : Calls Tryd.prog 21 #[tab p, .agg (rv k n).toArray, .agg (u8s r).toArray, .int .u16 (q : Int), .slice A m c] vz6 fun e w' => ∃ okX okL A12 c12, e = .returned (.tuple #[.agg (rv kr nr).toArray, .slice A12 lr c12, .int .i64 er]) ∧ Reg vz6 w' ok okX p σr ∧ Kps w' okL A12 Lr ∧ Apart vz6 w' okX okL := by
            have h := skip_any (c := c) hsu (sg0_room f _) HK.out HN.out HQ.out HR.out (L3.out.grown (Gz8)) HKA.out HM.out (by have := M100.out; omega) (fun b hb => ⟨by have := HD.out b hb; have := (G4.out).size; have := (Gz8).size; omega, fun hb' => by have := hnew b hb'; have := HD.out b hb; have := (G4.out).size; omega⟩)
            rw [← HRR.out] at h
            refine h.mono fun e w' ⟨okX, okL, A', c', he, h1, h2, h3, _, _⟩ => ⟨okX, okL, A', c', ?_, h1, h2, h3⟩
            dsimp only at he
            rw [LR.out] at he
            exact he
          with_reducible refine hcall.mono ?_
          rintro _ vz9 ⟨okX, okL, A12, c12, rfl, hrg, hkl, hap⟩
          have Gz10 := md_grown hrg.md Gz8 hnew
          have hkb : ∀ b, okL b → b < vz9.heap.size := fun b hb => (hap b hb).2.1
          refine hK.out _ _ ⟨range_of (B6.out.grown (Gz10) (by simp)), range_of (B7.out.grown (Gz10) (by simp))⟩ (fun hHeld => ?_)
          clear hK K
          try simp only [Act.put, List.setIfInBounds_toArray, List.set_cons_zero, List.set_cons_succ]
          refine' wpAnyH_take (i := 7) (oi := { dst := some 22, op := Op.move (Operand.tmp 29), type := 58, pos := "law.go:89", after := #[{ on := 6, ground := Ground.data }], guard := none }) (v := .tuple #[.agg (rv kr nr).toArray, .slice A12 lr c12, .int .i64 er]) rfl (by kernel_rfl) (by kernel_rfl) (by kernel_rfl) (fun _ _ _ h => h) (Or.inl ⟨by rfl, fun _ _ => rfl⟩) (by assumption) ?qz11
          try simp only [Act.put, List.setIfInBounds_toArray, List.set_cons_zero, List.set_cons_succ]
          refine' wpAnyH_take (i := 8) (oi := { dst := some 30, op := Op.extract (Operand.tmp 22) 0, type := 40, pos := "law.go:89", after := #[{ on := 7, ground := Ground.data }], guard := none }) (v := .agg (rv kr nr).toArray) rfl (by kernel_rfl) (by kernel_rfl) (by kernel_rfl) (fun _ _ _ h => h) (Or.inl ⟨by rfl, fun _ _ => rfl⟩) (by assumption) ?qz12
          try simp only [Act.put, List.setIfInBounds_toArray, List.set_cons_zero, List.set_cons_succ]
          refine' wpAnyH_take (i := 9) (oi := { dst := some 31, op := Op.extract (Operand.tmp 22) 1, type := 47, pos := "law.go:89", after := #[{ on := 7, ground := Ground.data }, { on := 12, ground := Ground.gcOnly Departure.lateStores }], guard := none }) (v := .slice A12 lr c12) rfl (by kernel_rfl) (by kernel_rfl) (by kernel_rfl) (fun _ _ _ h => h) (Or.inl ⟨by rfl, fun _ _ => rfl⟩) (by assumption) ?qz13
          try simp only [Act.put, List.setIfInBounds_toArray, List.set_cons_zero, List.set_cons_succ]
          refine' wpAnyH_take (i := 10) (oi := { dst := some 32, op := Op.extract (Operand.tmp 22) 2, type := 41, pos := "law.go:89", after := #[{ on := 7, ground := Ground.data }, { on := 13, ground := Ground.gcOnly Departure.lateStores }], guard := none }) (v := .int .i64 er) rfl (by kernel_rfl) (by kernel_rfl) (by kernel_rfl) (fun _ _ _ h => h) (Or.inl ⟨by rfl, fun _ _ => rfl⟩) (by assumption) ?qz14
          try simp only [Act.put, List.setIfInBounds_toArray, List.set_cons_zero, List.set_cons_succ]
          refine wpAnyH_ready (rs := [11]) (by kernel_rfl) (by simp) ?_
          refine AllReadyH.cons (o := { dst := some 11, op := Op.alloc 40, type := 0, pos := "law.go:89", after := #[], guard := none }) rfl (fun K hK => ?_) AllReadyH.nil
          rw [if_pos (by rfl)]
          refine wp_allocG zeC rfl (fun g11 vz15 ez16 kz17 qz18 => ?_)
          have Gz19 := (Gz10).trans qz18.out
          have hwg11 : w3.heap.size ≤ g11 := by rw [ez16.out]; exact (Gz10).size
          have nez20 : ∀ b, okL b → b ≠ g11 := fun b hb e' => by have h1 := hkb b hb; have h2 := ez16.out; omega
          have klz21 := hkl.grown qz18.out
          have kbz22 : ∀ b, okL b → b < vz15.heap.size := fun b hb => Nat.lt_of_lt_of_le (hkb b hb) qz18.out.size
          refine hK.out _ _ ⟨range_of (B6.out.grown (Gz19) (by simp)), range_of (B7.out.grown (Gz19) (by simp))⟩ (fun hHeld => ?_)
          clear hK K
          try simp only [Act.put, List.setIfInBounds_toArray, List.set_cons_zero, List.set_cons_succ]
          refine wpAnyH_ready (rs := [12]) (by kernel_rfl) (by simp) ?_
          refine AllReadyH.cons (o := { dst := none, op := Op.store 40 (Operand.tmp 11) (Operand.tmp 30), type := 0, pos := "law.go:89", after := #[{ on := 11, ground := Ground.data }, { on := 8, ground := Ground.data }, { on := 6, ground := Ground.chain }, { on := 0, ground := Ground.phase }, { on := 1, ground := Ground.phase }, { on := 2, ground := Ground.phase }, { on := 3, ground := Ground.phase }, { on := 4, ground := Ground.phase }, { on := 5, ground := Ground.phase }, { on := 6, ground := Ground.phase }, { on := 7, ground := Ground.phase }, { on := 8, ground := Ground.phase }, { on := 9, ground := Ground.textOnly Departure.lateStores }, { on := 10, ground := Ground.textOnly Departure.lateStores }, { on := 11, ground := Ground.phase }], guard := none }) rfl (fun K hK => ?_) AllReadyH.nil
          rw [if_pos (by rfl)]
          refine wp_storeG agC _ _ rfl g11 rfl rfl (kz17.out) (rv_length z32_length) (rv_length KRL.out) (rv_one _ _) (fun vz23 kz24 qz25 zz26 => ?_)
          have Gz27 : w3.grownBy vz23 none := World.grownBy.andThen (Gz19) qz25.out (by rintro _ ⟨⟩; exact .inl hwg11)
          have klz28 := klz21.keep fun b hb hlt => qz25.out.block b hlt (fun e => nez20 b hb (Option.some.inj e))
          have kbz29 : ∀ b, okL b → b < vz23.heap.size := fun b hb => Nat.lt_of_lt_of_le (kbz22 b hb) qz25.out.size
          refine hK.out _ _ ⟨range_of (B6.out.grown (Gz27) (by simp)), range_of (B7.out.grown (Gz27) (by simp))⟩ (fun hHeld => ?_)
          clear hK K
          dsimp only [Act.put]
          refine wpAnyH_ready (rs := [13]) (by kernel_rfl) (by simp) ?_
          refine AllReadyH.cons (o := { dst := some 12, op := Op.assign (Operand.tmp 31), type := 47, pos := "law.go:89", after := #[{ on := 9, ground := Ground.data }, { on := 12, ground := Ground.chain }, { on := 0, ground := Ground.phase }, { on := 1, ground := Ground.phase }, { on := 2, ground := Ground.phase }, { on := 3, ground := Ground.phase }, { on := 4, ground := Ground.phase }, { on := 5, ground := Ground.phase }, { on := 6, ground := Ground.phase }, { on := 7, ground := Ground.phase }, { on := 8, ground := Ground.phase }, { on := 9, ground := Ground.phase }, { on := 10, ground := Ground.textOnly Departure.lateStores }, { on := 11, ground := Ground.phase }, { on := 12, ground := Ground.phase }], guard := none }) rfl (fun K hK => ?_) AllReadyH.nil
          rw [if_pos (by rfl)]
          go_simp
          refine hK.out _ _ hHeld (fun hHeld => ?_)
          clear hK K
          try simp only [Act.put, List.setIfInBounds_toArray, List.set_cons_zero, List.set_cons_succ]
          refine wpAnyH_ready (rs := [14]) (by kernel_rfl) (by simp) ?_
          refine AllReadyH.cons (o := { dst := some 13, op := Op.assign (Operand.tmp 32), type := 41, pos := "law.go:89", after := #[{ on := 10, ground := Ground.data }, { on := 13, ground := Ground.chain }, { on := 0, ground := Ground.phase }, { on := 1, ground := Ground.phase }, { on := 2, ground := Ground.phase }, { on := 3, ground := Ground.phase }, { on := 4, ground := Ground.phase }, { on := 5, ground := Ground.phase }, { on := 6, ground := Ground.phase }, { on := 7, ground := Ground.phase }, { on := 8, ground := Ground.phase }, { on := 9, ground := Ground.phase }, { on := 10, ground := Ground.phase }, { on := 11, ground := Ground.phase }, { on := 12, ground := Ground.phase }, { on := 13, ground := Ground.phase }], guard := none }) rfl (fun K hK => ?_) AllReadyH.nil
          rw [if_pos (by rfl)]
          go_simp
          refine hK.out _ _ hHeld (fun hHeld => ?_)
          clear hK K
          try simp only [Act.put, List.setIfInBounds_toArray, List.set_cons_zero, List.set_cons_succ]
          refine wpAnyH_done (by kernel_rfl) ?_ _
          exact hrest_ _ g11 p A12 c12 ⟨okL, Gz27, klz28, kbz29, kz24.out⟩
        · rw [if_pos (by rfl)]
          refine wp_allocG zeC rfl (fun g11 vz30 ez31 kz32 qz33 => ?_)
          have Gz34 := (Gz8).trans qz33.out
          have hwg11 : w3.heap.size ≤ g11 := by rw [ez31.out]; exact (Gz8).size
          have nz35 : ¬ ok g11 := fun hb => by have h1 := hsu.lt _ hb; have h2 := ez31.out; omega
          have sz36 := hsu.grown qz33.out
          refine hK.out _ _ ⟨range_of (B6.out.grown (Gz34) (by simp)), range_of (B7.out.grown (Gz34) (by simp))⟩ (fun hHeld => ?_)
          clear hK K
          try simp only [Act.put, List.setIfInBounds_toArray, List.set_cons_zero, List.set_cons_succ]
          refine wpAnyH_ready (rs := [6]) (by kernel_rfl) (by simp) ?_
          refine AllReadyH.cons (o := { dst := some 29, op := Op.call { callee := Callee.value (Operand.func 21), args := #[Operand.tmp 24, Operand.tmp 25, Operand.tmp 26, Operand.tmp 27, Operand.tmp 28], argTypes := #[29, 40, 24, 38, 47] }, type := 58, pos := "law.go:89", after := #[{ on := 1, ground := Ground.data }, { on := 2, ground := Ground.data }, { on := 3, ground := Ground.data }, { on := 4, ground := Ground.data }, { on := 5, ground := Ground.data }, { on := 1, ground := Ground.chain }], guard := none }) rfl (fun K hK => ?_) AllReadyH.nil
          rw [if_pos (by rfl)]
          go_simp
          have hcall : Calls Tryd.prog 21 #[tab p, .agg (rv k n).toArray, .agg (u8s r).toArray, .int .u16 (q : Int), .slice A m c] vz30 fun e w' => ∃ okX okL A12 c12, e = .returned (.tuple #[.agg (rv kr nr).toArray, .slice A12 lr c12, .int .i64 er]) ∧ Reg vz30 w' ok okX p σr ∧ Kps w' okL A12 Lr ∧ Apart vz30 w' okX okL := by
            have h := skip_any (c := c) sz36 (sg0_room f _) HK.out HN.out HQ.out HR.out (L3.out.grown (Gz34)) HKA.out HM.out (by have := M100.out; omega) (fun b hb => ⟨by have := HD.out b hb; have := (G4.out).size; have := (Gz34).size; omega, fun hb' => by have := hnew b hb'; have := HD.out b hb; have := (G4.out).size; omega⟩)
            rw [← HRR.out] at h
            refine h.mono fun e w' ⟨okX, okL, A', c', he, h1, h2, h3, _, _⟩ => ⟨okX, okL, A', c', ?_, h1, h2, h3⟩
            dsimp only at he
            rw [LR.out] at he
            exact he
          with_reducible refine hcall.mono ?_
          rintro _ vz37 ⟨okX, okL, A12, c12, rfl, hrg, hkl, hap⟩
          have Gz38 := md_grown hrg.md Gz34 hnew
          have nbz39 := (kz32.out).keep (hrg.md.block _ (kz32.out).lt nz35)
          have nez40 : ∀ b, okL b → b ≠ g11 := fun b hb e => by have h1 := (hap b hb).1; have h2 := (kz32.out).lt; omega
          have hkb : ∀ b, okL b → b < vz37.heap.size := fun b hb => (hap b hb).2.1
          refine hK.out _ _ ⟨range_of (B6.out.grown (Gz38) (by simp)), range_of (B7.out.grown (Gz38) (by simp))⟩ (fun hHeld => ?_)
          clear hK K
          try simp only [Act.put, List.setIfInBounds_toArray, List.set_cons_zero, List.set_cons_succ]
          refine' wpAnyH_take (i := 7) (oi := { dst := some 22, op := Op.move (Operand.tmp 29), type := 58, pos := "law.go:89", after := #[{ on := 6, ground := Ground.data }], guard := none }) (v := .tuple #[.agg (rv kr nr).toArray, .slice A12 lr c12, .int .i64 er]) rfl (by kernel_rfl) (by kernel_rfl) (by kernel_rfl) (fun _ _ _ h => h) (Or.inl ⟨by rfl, fun _ _ => rfl⟩) (by assumption) ?qz41
          try simp only [Act.put, List.setIfInBounds_toArray, List.set_cons_zero, List.set_cons_succ]
          refine' wpAnyH_take (i := 8) (oi := { dst := some 30, op := Op.extract (Operand.tmp 22) 0, type := 40, pos := "law.go:89", after := #[{ on := 7, ground := Ground.data }], guard := none }) (v := .agg (rv kr nr).toArray) rfl (by kernel_rfl) (by kernel_rfl) (by kernel_rfl) (fun _ _ _ h => h) (Or.inl ⟨by rfl, fun _ _ => rfl⟩) (by assumption) ?qz42
          try simp only [Act.put, List.setIfInBounds_toArray, List.set_cons_zero, List.set_cons_succ]
          refine' wpAnyH_take (i := 9) (oi := { dst := some 31, op := Op.extract (Operand.tmp 22) 1, type := 47, pos := "law.go:89", after := #[{ on := 7, ground := Ground.data }, { on := 12, ground := Ground.gcOnly Departure.lateStores }], guard := none }) (v := .slice A12 lr c12) rfl (by kernel_rfl) (by kernel_rfl) (by kernel_rfl) (fun _ _ _ h => h) (Or.inl ⟨by rfl, fun _ _ => rfl⟩) (by assumption) ?qz43
          try simp only [Act.put, List.setIfInBounds_toArray, List.set_cons_zero, List.set_cons_succ]
          refine' wpAnyH_take (i := 10) (oi := { dst := some 32, op := Op.extract (Operand.tmp 22) 2, type := 41, pos := "law.go:89", after := #[{ on := 7, ground := Ground.data }, { on := 13, ground := Ground.gcOnly Departure.lateStores }], guard := none }) (v := .int .i64 er) rfl (by kernel_rfl) (by kernel_rfl) (by kernel_rfl) (fun _ _ _ h => h) (Or.inl ⟨by rfl, fun _ _ => rfl⟩) (by assumption) ?qz44
          try simp only [Act.put, List.setIfInBounds_toArray, List.set_cons_zero, List.set_cons_succ]
          refine wpAnyH_ready (rs := [12]) (by kernel_rfl) (by simp) ?_
          refine AllReadyH.cons (o := { dst := none, op := Op.store 40 (Operand.tmp 11) (Operand.tmp 30), type := 0, pos := "law.go:89", after := #[{ on := 11, ground := Ground.data }, { on := 8, ground := Ground.data }, { on := 6, ground := Ground.chain }, { on := 0, ground := Ground.phase }, { on := 1, ground := Ground.phase }, { on := 2, ground := Ground.phase }, { on := 3, ground := Ground.phase }, { on := 4, ground := Ground.phase }, { on := 5, ground := Ground.phase }, { on := 6, ground := Ground.phase }, { on := 7, ground := Ground.phase }, { on := 8, ground := Ground.phase }, { on := 9, ground := Ground.textOnly Departure.lateStores }, { on := 10, ground := Ground.textOnly Departure.lateStores }, { on := 11, ground := Ground.phase }], guard := none }) rfl (fun K hK => ?_) AllReadyH.nil
          rw [if_pos (by rfl)]
          refine wp_storeG agC _ _ rfl g11 rfl rfl (nbz39) (rv_length z32_length) (rv_length KRL.out) (rv_one _ _) (fun vz45 kz46 qz47 zz48 => ?_)
          have Gz49 : w3.grownBy vz45 none := World.grownBy.andThen (Gz38) qz47.out (by rintro _ ⟨⟩; exact .inl hwg11)
          have klz50 := hkl.keep fun b hb hlt => qz47.out.block b hlt (fun e => nez40 b hb (Option.some.inj e))
          have kbz51 : ∀ b, okL b → b < vz45.heap.size := fun b hb => Nat.lt_of_lt_of_le (hkb b hb) qz47.out.size
          refine hK.out _ _ ⟨range_of (B6.out.grown (Gz49) (by simp)), range_of (B7.out.grown (Gz49) (by simp))⟩ (fun hHeld => ?_)
          clear hK K
          dsimp only [Act.put]
          refine wpAnyH_ready (rs := [13]) (by kernel_rfl) (by simp) ?_
          refine AllReadyH.cons (o := { dst := some 12, op := Op.assign (Operand.tmp 31), type := 47, pos := "law.go:89", after := #[{ on := 9, ground := Ground.data }, { on := 12, ground := Ground.chain }, { on := 0, ground := Ground.phase }, { on := 1, ground := Ground.phase }, { on := 2, ground := Ground.phase }, { on := 3, ground := Ground.phase }, { on := 4, ground := Ground.phase }, { on := 5, ground := Ground.phase }, { on := 6, ground := Ground.phase }, { on := 7, ground := Ground.phase }, { on := 8, ground := Ground.phase }, { on := 9, ground := Ground.phase }, { on := 10, ground := Ground.textOnly Departure.lateStores }, { on := 11, ground := Ground.phase }, { on := 12, ground := Ground.phase }], guard := none }) rfl (fun K hK => ?_) AllReadyH.nil
          rw [if_pos (by rfl)]
          go_simp
          refine hK.out _ _ hHeld (fun hHeld => ?_)
          clear hK K
          try simp only [Act.put, List.setIfInBounds_toArray, List.set_cons_zero, List.set_cons_succ]
          refine wpAnyH_ready (rs := [14]) (by kernel_rfl) (by simp) ?_
          refine AllReadyH.cons (o := { dst := some 13, op := Op.assign (Operand.tmp 32), type := 41, pos := "law.go:89", after := #[{ on := 10, ground := Ground.data }, { on := 13, ground := Ground.chain }, { on := 0, ground := Ground.phase }, { on := 1, ground := Ground.phase }, { on := 2, ground := Ground.phase }, { on := 3, ground := Ground.phase }, { on := 4, ground := Ground.phase }, { on := 5, ground := Ground.phase }, { on := 6, ground := Ground.phase }, { on := 7, ground := Ground.phase }, { on := 8, ground := Ground.phase }, { on := 9, ground := Ground.phase }, { on := 10, ground := Ground.phase }, { on := 11, ground := Ground.phase }, { on := 12, ground := Ground.phase }, { on := 13, ground := Ground.phase }], guard := none }) rfl (fun K hK => ?_) AllReadyH.nil
          rw [if_pos (by rfl)]
          go_simp
          refine hK.out _ _ hHeld (fun hHeld => ?_)
          clear hK K
          try simp only [Act.put, List.setIfInBounds_toArray, List.set_cons_zero, List.set_cons_succ]
          refine wpAnyH_done (by kernel_rfl) ?_ _
          exact hrest_ _ g11 p A12 c12 ⟨okL, Gz49, klz50, kbz51, kz46.out⟩
      · rw [if_pos (by rfl)]
        refine wp_allocG zeC rfl (fun g11 vz52 ez53 kz54 qz55 => ?_)
        have Gz56 := (hg0).trans qz55.out
        have hwg11 : w3.heap.size ≤ g11 := by rw [ez53.out]; exact (hg0).size
        refine hK.out _ _ ⟨range_of (B6.out.grown (Gz56) (by simp)), range_of (B7.out.grown (Gz56) (by simp))⟩ (fun hHeld => ?_)
        clear hK K
        try simp only [Act.put, List.setIfInBounds_toArray, List.set_cons_zero, List.set_cons_succ]
        refine wpAnyH_ready (rs := [1]) (by kernel_rfl) (by simp) ?_
        refine AllReadyH.cons (o := { dst := some 24, op := Op.call { callee := Callee.value (Operand.func 11), args := #[Operand.tmp 23], argTypes := #[4] }, type := 29, pos := "law.go:89", after := #[{ on := 0, ground := Ground.data }], guard := none }) rfl (fun K hK => ?_) AllReadyH.nil
        rw [if_pos (by rfl)]
        go_simp
        with_reducible refine (suite_any vz52 (T3.out.grown (Gz56) (by simp) (by simp)) f).mono ?_
        rintro _ vz57 ⟨p, ok, rfl, hsu, hne, gz58⟩
        have nbz60 := (kz54.out).grown gz58 (by simp)
        have Gz59 := (Gz56).trans gz58
        have hnew : ∀ b, ok b → w3.heap.size ≤ b := fun b hb => Nat.le_trans (Gz56).size (hne b hb)
        have nz61 : ¬ ok g11 := fun hb => by have h1 := hne _ hb; have h2 := (kz54.out).lt; omega
        refine hK.out _ _ ⟨range_of (B6.out.grown (Gz59) (by simp)), range_of (B7.out.grown (Gz59) (by simp))⟩ (fun hHeld => ?_)
        clear hK K
        try simp only [Act.put, List.setIfInBounds_toArray, List.set_cons_zero, List.set_cons_succ]
        refine wpAnyH_ready (rs := [6]) (by kernel_rfl) (by simp) ?_
        refine AllReadyH.cons (o := { dst := some 29, op := Op.call { callee := Callee.value (Operand.func 21), args := #[Operand.tmp 24, Operand.tmp 25, Operand.tmp 26, Operand.tmp 27, Operand.tmp 28], argTypes := #[29, 40, 24, 38, 47] }, type := 58, pos := "law.go:89", after := #[{ on := 1, ground := Ground.data }, { on := 2, ground := Ground.data }, { on := 3, ground := Ground.data }, { on := 4, ground := Ground.data }, { on := 5, ground := Ground.data }, { on := 1, ground := Ground.chain }], guard := none }) rfl (fun K hK => ?_) AllReadyH.nil
        rw [if_pos (by rfl)]
        go_simp
        have hcall : Calls Tryd.prog 21 #[tab p, .agg (rv k n).toArray, .agg (u8s r).toArray, .int .u16 (q : Int), .slice A m c] vz57 fun e w' => ∃ okX okL A12 c12, e = .returned (.tuple #[.agg (rv kr nr).toArray, .slice A12 lr c12, .int .i64 er]) ∧ Reg vz57 w' ok okX p σr ∧ Kps w' okL A12 Lr ∧ Apart vz57 w' okX okL := by
          have h := skip_any (c := c) hsu (sg0_room f _) HK.out HN.out HQ.out HR.out (L3.out.grown (Gz59)) HKA.out HM.out (by have := M100.out; omega) (fun b hb => ⟨by have := HD.out b hb; have := (G4.out).size; have := (Gz59).size; omega, fun hb' => by have := hnew b hb'; have := HD.out b hb; have := (G4.out).size; omega⟩)
          rw [← HRR.out] at h
          refine h.mono fun e w' ⟨okX, okL, A', c', he, h1, h2, h3, _, _⟩ => ⟨okX, okL, A', c', ?_, h1, h2, h3⟩
          dsimp only at he
          rw [LR.out] at he
          exact he
        with_reducible refine hcall.mono ?_
        rintro _ vz62 ⟨okX, okL, A12, c12, rfl, hrg, hkl, hap⟩
        have Gz63 := md_grown hrg.md Gz59 hnew
        have nbz64 := (nbz60).keep (hrg.md.block _ (nbz60).lt nz61)
        have nez65 : ∀ b, okL b → b ≠ g11 := fun b hb e => by have h1 := (hap b hb).1; have h2 := (nbz60).lt; omega
        have hkb : ∀ b, okL b → b < vz62.heap.size := fun b hb => (hap b hb).2.1
        refine hK.out _ _ ⟨range_of (B6.out.grown (Gz63) (by simp)), range_of (B7.out.grown (Gz63) (by simp))⟩ (fun hHeld => ?_)
        clear hK K
        try simp only [Act.put, List.setIfInBounds_toArray, List.set_cons_zero, List.set_cons_succ]
        refine' wpAnyH_take (i := 7) (oi := { dst := some 22, op := Op.move (Operand.tmp 29), type := 58, pos := "law.go:89", after := #[{ on := 6, ground := Ground.data }], guard := none }) (v := .tuple #[.agg (rv kr nr).toArray, .slice A12 lr c12, .int .i64 er]) rfl (by kernel_rfl) (by kernel_rfl) (by kernel_rfl) (fun _ _ _ h => h) (Or.inl ⟨by rfl, fun _ _ => rfl⟩) (by assumption) ?qz66
        try simp only [Act.put, List.setIfInBounds_toArray, List.set_cons_zero, List.set_cons_succ]
        refine' wpAnyH_take (i := 8) (oi := { dst := some 30, op := Op.extract (Operand.tmp 22) 0, type := 40, pos := "law.go:89", after := #[{ on := 7, ground := Ground.data }], guard := none }) (v := .agg (rv kr nr).toArray) rfl (by kernel_rfl) (by kernel_rfl) (by kernel_rfl) (fun _ _ _ h => h) (Or.inl ⟨by rfl, fun _ _ => rfl⟩) (by assumption) ?qz67
        try simp only [Act.put, List.setIfInBounds_toArray, List.set_cons_zero, List.set_cons_succ]
        refine' wpAnyH_take (i := 9) (oi := { dst := some 31, op := Op.extract (Operand.tmp 22) 1, type := 47, pos := "law.go:89", after := #[{ on := 7, ground := Ground.data }, { on := 12, ground := Ground.gcOnly Departure.lateStores }], guard := none }) (v := .slice A12 lr c12) rfl (by kernel_rfl) (by kernel_rfl) (by kernel_rfl) (fun _ _ _ h => h) (Or.inl ⟨by rfl, fun _ _ => rfl⟩) (by assumption) ?qz68
        try simp only [Act.put, List.setIfInBounds_toArray, List.set_cons_zero, List.set_cons_succ]
        refine' wpAnyH_take (i := 10) (oi := { dst := some 32, op := Op.extract (Operand.tmp 22) 2, type := 41, pos := "law.go:89", after := #[{ on := 7, ground := Ground.data }, { on := 13, ground := Ground.gcOnly Departure.lateStores }], guard := none }) (v := .int .i64 er) rfl (by kernel_rfl) (by kernel_rfl) (by kernel_rfl) (fun _ _ _ h => h) (Or.inl ⟨by rfl, fun _ _ => rfl⟩) (by assumption) ?qz69
        try simp only [Act.put, List.setIfInBounds_toArray, List.set_cons_zero, List.set_cons_succ]
        refine wpAnyH_ready (rs := [12]) (by kernel_rfl) (by simp) ?_
        refine AllReadyH.cons (o := { dst := none, op := Op.store 40 (Operand.tmp 11) (Operand.tmp 30), type := 0, pos := "law.go:89", after := #[{ on := 11, ground := Ground.data }, { on := 8, ground := Ground.data }, { on := 6, ground := Ground.chain }, { on := 0, ground := Ground.phase }, { on := 1, ground := Ground.phase }, { on := 2, ground := Ground.phase }, { on := 3, ground := Ground.phase }, { on := 4, ground := Ground.phase }, { on := 5, ground := Ground.phase }, { on := 6, ground := Ground.phase }, { on := 7, ground := Ground.phase }, { on := 8, ground := Ground.phase }, { on := 9, ground := Ground.textOnly Departure.lateStores }, { on := 10, ground := Ground.textOnly Departure.lateStores }, { on := 11, ground := Ground.phase }], guard := none }) rfl (fun K hK => ?_) AllReadyH.nil
        rw [if_pos (by rfl)]
        refine wp_storeG agC _ _ rfl g11 rfl rfl (nbz64) (rv_length z32_length) (rv_length KRL.out) (rv_one _ _) (fun vz70 kz71 qz72 zz73 => ?_)
        have Gz74 : w3.grownBy vz70 none := World.grownBy.andThen (Gz63) qz72.out (by rintro _ ⟨⟩; exact .inl hwg11)
        have klz75 := hkl.keep fun b hb hlt => qz72.out.block b hlt (fun e => nez65 b hb (Option.some.inj e))
        have kbz76 : ∀ b, okL b → b < vz70.heap.size := fun b hb => Nat.lt_of_lt_of_le (hkb b hb) qz72.out.size
        refine hK.out _ _ ⟨range_of (B6.out.grown (Gz74) (by simp)), range_of (B7.out.grown (Gz74) (by simp))⟩ (fun hHeld => ?_)
        clear hK K
        dsimp only [Act.put]
        refine wpAnyH_ready (rs := [13]) (by kernel_rfl) (by simp) ?_
        refine AllReadyH.cons (o := { dst := some 12, op := Op.assign (Operand.tmp 31), type := 47, pos := "law.go:89", after := #[{ on := 9, ground := Ground.data }, { on := 12, ground := Ground.chain }, { on := 0, ground := Ground.phase }, { on := 1, ground := Ground.phase }, { on := 2, ground := Ground.phase }, { on := 3, ground := Ground.phase }, { on := 4, ground := Ground.phase }, { on := 5, ground := Ground.phase }, { on := 6, ground := Ground.phase }, { on := 7, ground := Ground.phase }, { on := 8, ground := Ground.phase }, { on := 9, ground := Ground.phase }, { on := 10, ground := Ground.textOnly Departure.lateStores }, { on := 11, ground := Ground.phase }, { on := 12, ground := Ground.phase }], guard := none }) rfl (fun K hK => ?_) AllReadyH.nil
        rw [if_pos (by rfl)]
        go_simp
        refine hK.out _ _ hHeld (fun hHeld => ?_)
        clear hK K
        try simp only [Act.put, List.setIfInBounds_toArray, List.set_cons_zero, List.set_cons_succ]
        refine wpAnyH_ready (rs := [14]) (by kernel_rfl) (by simp) ?_
        refine AllReadyH.cons (o := { dst := some 13, op := Op.assign (Operand.tmp 32), type := 41, pos := "law.go:89", after := #[{ on := 10, ground := Ground.data }, { on := 13, ground := Ground.chain }, { on := 0, ground := Ground.phase }, { on := 1, ground := Ground.phase }, { on := 2, ground := Ground.phase }, { on := 3, ground := Ground.phase }, { on := 4, ground := Ground.phase }, { on := 5, ground := Ground.phase }, { on := 6, ground := Ground.phase }, { on := 7, ground := Ground.phase }, { on := 8, ground := Ground.phase }, { on := 9, ground := Ground.phase }, { on := 10, ground := Ground.phase }, { on := 11, ground := Ground.phase }, { on := 12, ground := Ground.phase }, { on := 13, ground := Ground.phase }], guard := none }) rfl (fun K hK => ?_) AllReadyH.nil
        rw [if_pos (by rfl)]
        go_simp
        refine hK.out _ _ hHeld (fun hHeld => ?_)
        clear hK K
        try simp only [Act.put, List.setIfInBounds_toArray, List.set_cons_zero, List.set_cons_succ]
        refine wpAnyH_done (by kernel_rfl) ?_ _
        exact hrest_ _ g11 p A12 c12 ⟨okL, Gz74, klz75, kbz76, kz71.out⟩
    · intro w5 g11 p1 A12 c12 ⟨okL5, hg5, hk5, hb5, hr5⟩
      have G5 := Lib.hid (G4.out.trans hg5)
      have K5 := Lib.hid hk5
      have KB5 := Lib.hid hb5
      have B11 := Lib.hid hr5
      have B6b := Lib.hid (B6.out.grown hg5 (by simp))
      have B7b := Lib.hid (B7.out.grown hg5 (by simp))
      have L5 := Lib.hid (L3.out.grown hg5)
      clear hg5 hk5 hb5 hr5
      go_wp2_with fail
      apply cutS (F := fun w' g14 _ A15 _ => ∃ okL, w5.grownBy w' none ∧ Kps w' okL A15 Lr ∧ (∀ b, okL b → b < w'.heap.size) ∧ C.Blk w' g14 40 (rv kr nr))
      · intro hrest2_
        refine wp_region_held_drew (S := fun W => W.rangeAt g6 0 (rv k n) ∧ W.rangeAt g7 0 (u8s r)) (by kernel_rfl) ⟨range_of B6b.out, range_of B7b.out⟩ (fun hHeld => ?_)
        obtain ⟨v0, hv0⟩ : ∃ v, v = w5.drew := ⟨_, rfl⟩
        have hg0 : w5.grownBy v0 none := by rw [hv0]; exact grown_drew w5
        rw [← hv0] at hHeld ⊢
        clear hv0
        refine' wpAnyH_take (i := 0) (oi := { dst := some 34, op := Op.move (Operand.tmp 0), type := 4, pos := "law.go:90", after := #[], guard := none }) (v := .bool f) rfl (by kernel_rfl) (by kernel_rfl) (by kernel_rfl) (fun _ _ _ h => h) (Or.inl ⟨by rfl, fun w' hSw => by go_simp⟩) (by assumption) ?qz3001
        try simp only [Act.put, List.setIfInBounds_toArray, List.set_cons_zero, List.set_cons_succ]
        refine' wpAnyH_take (i := 2) (oi := { dst := some 36, op := Op.load 40 (Operand.tmp 6), type := 40, pos := "law.go:90", after := #[], guard := none }) (v := .agg (rv k n).toArray) rfl (by kernel_rfl) (by kernel_rfl) (by kernel_rfl) (fun _ _ _ h => h) (yieldsIf_loadR agC (by rfl) (.tmp 6) rfl g6 0 rfl (rv_length HK.out) (fun _ h => h.1)) (by assumption) ?qz3002
        try simp only [Act.put, List.setIfInBounds_toArray, List.set_cons_zero, List.set_cons_succ]
        refine' wpAnyH_take (i := 3) (oi := { dst := some 37, op := Op.load 22 (Operand.tmp 7), type := 22, pos := "law.go:90", after := #[], guard := none }) (v := .agg (u8s r).toArray) rfl (by kernel_rfl) (by kernel_rfl) (by kernel_rfl) (fun _ _ _ h => h) (yieldsIf_loadR agA (by rfl) (.tmp 7) rfl g7 0 rfl (by rw [u8s_length, HR.out]) (fun _ h => h.2)) (by assumption) ?qz3003
        try simp only [Act.put, List.setIfInBounds_toArray, List.set_cons_zero, List.set_cons_succ]
        refine' wpAnyH_take (i := 4) (oi := { dst := some 38, op := Op.move (Operand.tmp 3), type := 38, pos := "law.go:90", after := #[], guard := none }) (v := .int .u16 (q : Int)) rfl (by kernel_rfl) (by kernel_rfl) (by kernel_rfl) (fun _ _ _ h => h) (Or.inl ⟨by rfl, fun w' hSw => by go_simp⟩) (by assumption) ?qz3004
        try simp only [Act.put, List.setIfInBounds_toArray, List.set_cons_zero, List.set_cons_succ]
        refine' wpAnyH_take (i := 5) (oi := { dst := some 39, op := Op.move (Operand.tmp 4), type := 47, pos := "law.go:90", after := #[], guard := none }) (v := .slice A m c) rfl (by kernel_rfl) (by kernel_rfl) (by kernel_rfl) (fun _ _ _ h => h) (Or.inl ⟨by rfl, fun w' hSw => by go_simp⟩) (by assumption) ?qz3005
        try simp only [Act.put, List.setIfInBounds_toArray, List.set_cons_zero, List.set_cons_succ]
        refine wpAnyH_ready (rs := [1, 11]) (by kernel_rfl) (by simp) ?_
        refine AllReadyH.cons (o := { dst := some 35, op := Op.call { callee := Callee.value (Operand.func 13), args := #[Operand.tmp 34], argTypes := #[4] }, type := 35, pos := "law.go:90", after := #[{ on := 0, ground := Ground.data }], guard := none }) rfl (fun K hK => ?_) (AllReadyH.cons (o := { dst := some 14, op := Op.alloc 40, type := 0, pos := "law.go:90", after := #[], guard := none }) rfl (fun K hK => ?_) AllReadyH.nil)
        · rw [if_pos (by rfl)]
          go_simp
          with_reducible refine (rsuite_any v0  f).mono ?_
          rintro _ vz3006 ⟨p, ok, rfl, hsu, hne, gz3007⟩
          have Gz3008 := (hg0).trans gz3007
          have hnew : ∀ b, ok b → w5.heap.size ≤ b := fun b hb => Nat.le_trans (hg0).size (hne b hb)
          refine hK.out _ _ ⟨range_of (B6b.out.grown (Gz3008) (by simp)), range_of (B7b.out.grown (Gz3008) (by simp))⟩ (fun hHeld => ?_)
          clear hK K
          try simp only [Act.put, List.setIfInBounds_toArray, List.set_cons_zero, List.set_cons_succ]
          refine wpAnyH_ready (rs := [6, 11]) (by kernel_rfl) (by simp) ?_
          refine AllReadyH.cons (o := { dst := some 40, op := Op.call { callee := Callee.value (Operand.func 22), args := #[Operand.tmp 35, Operand.tmp 36, Operand.tmp 37, Operand.tmp 38, Operand.tmp 39], argTypes := #[35, 40, 22, 38, 47] }, type := 60, pos := "law.go:90", after := #[{ on := 1, ground := Ground.data }, { on := 2, ground := Ground.data }, { on := 3, ground := Ground.data }, { on := 4, ground := Ground.data }, { on := 5, ground := Ground.data }, { on := 1, ground := Ground.chain }], guard := none }) rfl (fun K hK => ?_) (AllReadyH.cons (o := { dst := some 14, op := Op.alloc 40, type := 0, pos := "law.go:90", after := #[], guard := none }) rfl (fun K hK => ?_) AllReadyH.nil)
          · rw [if_pos (by rfl)]
            go_simp
            have hcall : Calls Tryd.prog 22 #[tab p, .agg (rv k n).toArray, .agg (u8s r).toArray, .int .u16 (q : Int), .slice A m c] vz3006 fun e w' => ∃ okX okL A15 c15, e = .returned (.tuple #[.agg (rv kr nr).toArray, .slice A15 lr c15, .int .i64 er]) ∧ Rrg vz3006 w' ok okX p σr ∧ Kps w' okL A15 Lr ∧ ∀ b, okL b → okL0 b ∨ (vz3006.heap.size ≤ b ∧ b < w'.heap.size) := by
              have h := rskip_any (c := c) hsu (sg0_room f _) HK.out HN.out HQ.out HR.out (L5.out.grown (Gz3008)) HKA.out HM.out (by have := M100.out; omega) (fun b hb => ⟨by have := HD.out b hb; have := (G5.out).size; have := (Gz3008).size; omega, fun hb' => by have := hnew b hb'; have := HD.out b hb; have := (G5.out).size; omega⟩) (by have := HT2.out; have := (G5.out).size; have := (Gz3008).size; omega)
              rw [← HRR.out] at h
              refine h.mono fun e w' ⟨okX, okL, A', c', he, h1, h2, h3⟩ => ⟨okX, okL, A', c', ?_, h1, h2, h3⟩
              dsimp only at he
              rw [LR.out] at he
              exact he
            with_reducible refine hcall.mono ?_
            rintro _ vz3009 ⟨okX, okL, A15, c15, rfl, hrg, hkl, hap0⟩
            have Gz3010 := md_grown hrg.md Gz3008 hnew
            have hap : ∀ b, okL b → (b < w.heap.size ∨ (vz3006.heap.size ≤ b ∧ b < vz3009.heap.size)) := fun b hb => (hap0 b hb).imp (HD.out b) id
            have hkb : ∀ b, okL b → b < vz3009.heap.size := fun b hb => by have h4 := (G5.out).size; have h6 := (Gz3010).size; have h5 := hap b hb; omega
            refine hK.out _ _ ⟨range_of (B6b.out.grown (Gz3010) (by simp)), range_of (B7b.out.grown (Gz3010) (by simp))⟩ (fun hHeld => ?_)
            clear hK K
            try simp only [Act.put, List.setIfInBounds_toArray, List.set_cons_zero, List.set_cons_succ]
            refine' wpAnyH_take (i := 7) (oi := { dst := some 33, op := Op.move (Operand.tmp 40), type := 60, pos := "law.go:90", after := #[{ on := 6, ground := Ground.data }], guard := none }) (v := .tuple #[.agg (rv kr nr).toArray, .slice A15 lr c15, .int .i64 er]) rfl (by kernel_rfl) (by kernel_rfl) (by kernel_rfl) (fun _ _ _ h => h) (Or.inl ⟨by rfl, fun _ _ => rfl⟩) (by assumption) ?qz3011
            try simp only [Act.put, List.setIfInBounds_toArray, List.set_cons_zero, List.set_cons_succ]
            refine' wpAnyH_take (i := 8) (oi := { dst := some 41, op := Op.extract (Operand.tmp 33) 0, type := 40, pos := "law.go:90", after := #[{ on := 7, ground := Ground.data }], guard := none }) (v := .agg (rv kr nr).toArray) rfl (by kernel_rfl) (by kernel_rfl) (by kernel_rfl) (fun _ _ _ h => h) (Or.inl ⟨by rfl, fun _ _ => rfl⟩) (by assumption) ?qz3012
            try simp only [Act.put, List.setIfInBounds_toArray, List.set_cons_zero, List.set_cons_succ]
            refine' wpAnyH_take (i := 9) (oi := { dst := some 42, op := Op.extract (Operand.tmp 33) 1, type := 47, pos := "law.go:90", after := #[{ on := 7, ground := Ground.data }, { on := 12, ground := Ground.gcOnly Departure.lateStores }], guard := none }) (v := .slice A15 lr c15) rfl (by kernel_rfl) (by kernel_rfl) (by kernel_rfl) (fun _ _ _ h => h) (Or.inl ⟨by rfl, fun _ _ => rfl⟩) (by assumption) ?qz3013
            try simp only [Act.put, List.setIfInBounds_toArray, List.set_cons_zero, List.set_cons_succ]
            refine' wpAnyH_take (i := 10) (oi := { dst := some 43, op := Op.extract (Operand.tmp 33) 2, type := 3, pos := "law.go:90", after := #[{ on := 7, ground := Ground.data }, { on := 13, ground := Ground.gcOnly Departure.lateStores }], guard := none }) (v := .int .i64 er) rfl (by kernel_rfl) (by kernel_rfl) (by kernel_rfl) (fun _ _ _ h => h) (Or.inl ⟨by rfl, fun _ _ => rfl⟩) (by assumption) ?qz3014
            try simp only [Act.put, List.setIfInBounds_toArray, List.set_cons_zero, List.set_cons_succ]
            refine wpAnyH_ready (rs := [11]) (by kernel_rfl) (by simp) ?_
            refine AllReadyH.cons (o := { dst := some 14, op := Op.alloc 40, type := 0, pos := "law.go:90", after := #[], guard := none }) rfl (fun K hK => ?_) AllReadyH.nil
            rw [if_pos (by rfl)]
            refine wp_allocG zeC rfl (fun g14 vz3015 ez3016 kz3017 qz3018 => ?_)
            have Gz3019 := (Gz3010).trans qz3018.out
            have hwg14 : w5.heap.size ≤ g14 := by rw [ez3016.out]; exact (Gz3010).size
            have nez3020 : ∀ b, okL b → b ≠ g14 := fun b hb e' => by have h1 := hkb b hb; have h2 := ez3016.out; omega
            have klz3021 := hkl.grown qz3018.out
            have kbz3022 : ∀ b, okL b → b < vz3015.heap.size := fun b hb => Nat.lt_of_lt_of_le (hkb b hb) qz3018.out.size
            refine hK.out _ _ ⟨range_of (B6b.out.grown (Gz3019) (by simp)), range_of (B7b.out.grown (Gz3019) (by simp))⟩ (fun hHeld => ?_)
            clear hK K
            try simp only [Act.put, List.setIfInBounds_toArray, List.set_cons_zero, List.set_cons_succ]
            refine wpAnyH_ready (rs := [12]) (by kernel_rfl) (by simp) ?_
            refine AllReadyH.cons (o := { dst := none, op := Op.store 40 (Operand.tmp 14) (Operand.tmp 41), type := 0, pos := "law.go:90", after := #[{ on := 11, ground := Ground.data }, { on := 8, ground := Ground.data }, { on := 6, ground := Ground.chain }, { on := 0, ground := Ground.phase }, { on := 1, ground := Ground.phase }, { on := 2, ground := Ground.phase }, { on := 3, ground := Ground.phase }, { on := 4, ground := Ground.phase }, { on := 5, ground := Ground.phase }, { on := 6, ground := Ground.phase }, { on := 7, ground := Ground.phase }, { on := 8, ground := Ground.phase }, { on := 9, ground := Ground.textOnly Departure.lateStores }, { on := 10, ground := Ground.textOnly Departure.lateStores }, { on := 11, ground := Ground.phase }], guard := none }) rfl (fun K hK => ?_) AllReadyH.nil
            rw [if_pos (by rfl)]
            refine wp_storeG agC _ _ rfl g14 rfl rfl (kz3017.out) (rv_length z32_length) (rv_length KRL.out) (rv_one _ _) (fun vz3023 kz3024 qz3025 zz3026 => ?_)
            have Gz3027 : w5.grownBy vz3023 none := World.grownBy.andThen (Gz3019) qz3025.out (by rintro _ ⟨⟩; exact .inl hwg14)
            have klz3028 := klz3021.keep fun b hb hlt => qz3025.out.block b hlt (fun e => nez3020 b hb (Option.some.inj e))
            have kbz3029 : ∀ b, okL b → b < vz3023.heap.size := fun b hb => Nat.lt_of_lt_of_le (kbz3022 b hb) qz3025.out.size
            refine hK.out _ _ ⟨range_of (B6b.out.grown (Gz3027) (by simp)), range_of (B7b.out.grown (Gz3027) (by simp))⟩ (fun hHeld => ?_)
            clear hK K
            dsimp only [Act.put]
            refine wpAnyH_ready (rs := [13]) (by kernel_rfl) (by simp) ?_
            refine AllReadyH.cons (o := { dst := some 15, op := Op.assign (Operand.tmp 42), type := 47, pos := "law.go:90", after := #[{ on := 9, ground := Ground.data }, { on := 12, ground := Ground.chain }, { on := 0, ground := Ground.phase }, { on := 1, ground := Ground.phase }, { on := 2, ground := Ground.phase }, { on := 3, ground := Ground.phase }, { on := 4, ground := Ground.phase }, { on := 5, ground := Ground.phase }, { on := 6, ground := Ground.phase }, { on := 7, ground := Ground.phase }, { on := 8, ground := Ground.phase }, { on := 9, ground := Ground.phase }, { on := 10, ground := Ground.textOnly Departure.lateStores }, { on := 11, ground := Ground.phase }, { on := 12, ground := Ground.phase }], guard := none }) rfl (fun K hK => ?_) AllReadyH.nil
            rw [if_pos (by rfl)]
            go_simp
            refine hK.out _ _ hHeld (fun hHeld => ?_)
            clear hK K
            try simp only [Act.put, List.setIfInBounds_toArray, List.set_cons_zero, List.set_cons_succ]
            refine wpAnyH_ready (rs := [14]) (by kernel_rfl) (by simp) ?_
            refine AllReadyH.cons (o := { dst := some 16, op := Op.assign (Operand.tmp 43), type := 3, pos := "law.go:90", after := #[{ on := 10, ground := Ground.data }, { on := 13, ground := Ground.chain }, { on := 0, ground := Ground.phase }, { on := 1, ground := Ground.phase }, { on := 2, ground := Ground.phase }, { on := 3, ground := Ground.phase }, { on := 4, ground := Ground.phase }, { on := 5, ground := Ground.phase }, { on := 6, ground := Ground.phase }, { on := 7, ground := Ground.phase }, { on := 8, ground := Ground.phase }, { on := 9, ground := Ground.phase }, { on := 10, ground := Ground.phase }, { on := 11, ground := Ground.phase }, { on := 12, ground := Ground.phase }, { on := 13, ground := Ground.phase }], guard := none }) rfl (fun K hK => ?_) AllReadyH.nil
            rw [if_pos (by rfl)]
            go_simp
            refine hK.out _ _ hHeld (fun hHeld => ?_)
            clear hK K
            try simp only [Act.put, List.setIfInBounds_toArray, List.set_cons_zero, List.set_cons_succ]
            refine wpAnyH_done (by kernel_rfl) ?_ _
            exact hrest2_ _ g14 p A15 c15 ⟨okL, Gz3027, klz3028, kbz3029, kz3024.out⟩
          · rw [if_pos (by rfl)]
            refine wp_allocG zeC rfl (fun g14 vz3030 ez3031 kz3032 qz3033 => ?_)
            have Gz3034 := (Gz3008).trans qz3033.out
            have hwg14 : w5.heap.size ≤ g14 := by rw [ez3031.out]; exact (Gz3008).size
            have nz3035 : ¬ ok g14 := fun hb => by have h1 := hsu.lt _ hb; have h2 := ez3031.out; omega
            have sz3036 := hsu.grown qz3033.out
            refine hK.out _ _ ⟨range_of (B6b.out.grown (Gz3034) (by simp)), range_of (B7b.out.grown (Gz3034) (by simp))⟩ (fun hHeld => ?_)
            clear hK K
            try simp only [Act.put, List.setIfInBounds_toArray, List.set_cons_zero, List.set_cons_succ]
            refine wpAnyH_ready (rs := [6]) (by kernel_rfl) (by simp) ?_
            refine AllReadyH.cons (o := { dst := some 40, op := Op.call { callee := Callee.value (Operand.func 22), args := #[Operand.tmp 35, Operand.tmp 36, Operand.tmp 37, Operand.tmp 38, Operand.tmp 39], argTypes := #[35, 40, 22, 38, 47] }, type := 60, pos := "law.go:90", after := #[{ on := 1, ground := Ground.data }, { on := 2, ground := Ground.data }, { on := 3, ground := Ground.data }, { on := 4, ground := Ground.data }, { on := 5, ground := Ground.data }, { on := 1, ground := Ground.chain }], guard := none }) rfl (fun K hK => ?_) AllReadyH.nil
            rw [if_pos (by rfl)]
            go_simp
            have hcall : Calls Tryd.prog 22 #[tab p, .agg (rv k n).toArray, .agg (u8s r).toArray, .int .u16 (q : Int), .slice A m c] vz3030 fun e w' => ∃ okX okL A15 c15, e = .returned (.tuple #[.agg (rv kr nr).toArray, .slice A15 lr c15, .int .i64 er]) ∧ Rrg vz3030 w' ok okX p σr ∧ Kps w' okL A15 Lr ∧ ∀ b, okL b → okL0 b ∨ (vz3030.heap.size ≤ b ∧ b < w'.heap.size) := by
              have h := rskip_any (c := c) sz3036 (sg0_room f _) HK.out HN.out HQ.out HR.out (L5.out.grown (Gz3034)) HKA.out HM.out (by have := M100.out; omega) (fun b hb => ⟨by have := HD.out b hb; have := (G5.out).size; have := (Gz3034).size; omega, fun hb' => by have := hnew b hb'; have := HD.out b hb; have := (G5.out).size; omega⟩) (by have := HT2.out; have := (G5.out).size; have := (Gz3034).size; omega)
              rw [← HRR.out] at h
              refine h.mono fun e w' ⟨okX, okL, A', c', he, h1, h2, h3⟩ => ⟨okX, okL, A', c', ?_, h1, h2, h3⟩
              dsimp only at he
              rw [LR.out] at he
              exact he
            with_reducible refine hcall.mono ?_
            rintro _ vz3037 ⟨okX, okL, A15, c15, rfl, hrg, hkl, hap0⟩
            have Gz3038 := md_grown hrg.md Gz3034 hnew
            have nbz3039 := (kz3032.out).keep (hrg.md.block _ (kz3032.out).lt nz3035)
            have hap : ∀ b, okL b → (b < w.heap.size ∨ (vz3030.heap.size ≤ b ∧ b < vz3037.heap.size)) := fun b hb => (hap0 b hb).imp (HD.out b) id
            have nez3040 : ∀ b, okL b → b ≠ g14 := fun b hb e => by have h2 := (kz3032.out).lt; have h3 := hwg14; have h4 := (G5.out).size; have h5 := hap b hb; omega
            have hkb : ∀ b, okL b → b < vz3037.heap.size := fun b hb => by have h4 := (G5.out).size; have h6 := (Gz3038).size; have h5 := hap b hb; omega
            refine hK.out _ _ ⟨range_of (B6b.out.grown (Gz3038) (by simp)), range_of (B7b.out.grown (Gz3038) (by simp))⟩ (fun hHeld => ?_)
            clear hK K
            try simp only [Act.put, List.setIfInBounds_toArray, List.set_cons_zero, List.set_cons_succ]
            refine' wpAnyH_take (i := 7) (oi := { dst := some 33, op := Op.move (Operand.tmp 40), type := 60, pos := "law.go:90", after := #[{ on := 6, ground := Ground.data }], guard := none }) (v := .tuple #[.agg (rv kr nr).toArray, .slice A15 lr c15, .int .i64 er]) rfl (by kernel_rfl) (by kernel_rfl) (by kernel_rfl) (fun _ _ _ h => h) (Or.inl ⟨by rfl, fun _ _ => rfl⟩) (by assumption) ?qz3041
            try simp only [Act.put, List.setIfInBounds_toArray, List.set_cons_zero, List.set_cons_succ]
            refine' wpAnyH_take (i := 8) (oi := { dst := some 41, op := Op.extract (Operand.tmp 33) 0, type := 40, pos := "law.go:90", after := #[{ on := 7, ground := Ground.data }], guard := none }) (v := .agg (rv kr nr).toArray) rfl (by kernel_rfl) (by kernel_rfl) (by kernel_rfl) (fun _ _ _ h => h) (Or.inl ⟨by rfl, fun _ _ => rfl⟩) (by assumption) ?qz3042
            try simp only [Act.put, List.setIfInBounds_toArray, List.set_cons_zero, List.set_cons_succ]
            refine' wpAnyH_take (i := 9) (oi := { dst := some 42, op := Op.extract (Operand.tmp 33) 1, type := 47, pos := "law.go:90", after := #[{ on := 7, ground := Ground.data }, { on := 12, ground := Ground.gcOnly Departure.lateStores }], guard := none }) (v := .slice A15 lr c15) rfl (by kernel_rfl) (by kernel_rfl) (by kernel_rfl) (fun _ _ _ h => h) (Or.inl ⟨by rfl, fun _ _ => rfl⟩) (by assumption) ?qz3043
            try simp only [Act.put, List.setIfInBounds_toArray, List.set_cons_zero, List.set_cons_succ]
            refine' wpAnyH_take (i := 10) (oi := { dst := some 43, op := Op.extract (Operand.tmp 33) 2, type := 3, pos := "law.go:90", after := #[{ on := 7, ground := Ground.data }, { on := 13, ground := Ground.gcOnly Departure.lateStores }], guard := none }) (v := .int .i64 er) rfl (by kernel_rfl) (by kernel_rfl) (by kernel_rfl) (fun _ _ _ h => h) (Or.inl ⟨by rfl, fun _ _ => rfl⟩) (by assumption) ?qz3044
            try simp only [Act.put, List.setIfInBounds_toArray, List.set_cons_zero, List.set_cons_succ]
            refine wpAnyH_ready (rs := [12]) (by kernel_rfl) (by simp) ?_
            refine AllReadyH.cons (o := { dst := none, op := Op.store 40 (Operand.tmp 14) (Operand.tmp 41), type := 0, pos := "law.go:90", after := #[{ on := 11, ground := Ground.data }, { on := 8, ground := Ground.data }, { on := 6, ground := Ground.chain }, { on := 0, ground := Ground.phase }, { on := 1, ground := Ground.phase }, { on := 2, ground := Ground.phase }, { on := 3, ground := Ground.phase }, { on := 4, ground := Ground.phase }, { on := 5, ground := Ground.phase }, { on := 6, ground := Ground.phase }, { on := 7, ground := Ground.phase }, { on := 8, ground := Ground.phase }, { on := 9, ground := Ground.textOnly Departure.lateStores }, { on := 10, ground := Ground.textOnly Departure.lateStores }, { on := 11, ground := Ground.phase }], guard := none }) rfl (fun K hK => ?_) AllReadyH.nil
            rw [if_pos (by rfl)]
            refine wp_storeG agC _ _ rfl g14 rfl rfl (nbz3039) (rv_length z32_length) (rv_length KRL.out) (rv_one _ _) (fun vz3045 kz3046 qz3047 zz3048 => ?_)
            have Gz3049 : w5.grownBy vz3045 none := World.grownBy.andThen (Gz3038) qz3047.out (by rintro _ ⟨⟩; exact .inl hwg14)
            have klz3050 := hkl.keep fun b hb hlt => qz3047.out.block b hlt (fun e => nez3040 b hb (Option.some.inj e))
            have kbz3051 : ∀ b, okL b → b < vz3045.heap.size := fun b hb => Nat.lt_of_lt_of_le (hkb b hb) qz3047.out.size
            refine hK.out _ _ ⟨range_of (B6b.out.grown (Gz3049) (by simp)), range_of (B7b.out.grown (Gz3049) (by simp))⟩ (fun hHeld => ?_)
            clear hK K
            dsimp only [Act.put]
            refine wpAnyH_ready (rs := [13]) (by kernel_rfl) (by simp) ?_
            refine AllReadyH.cons (o := { dst := some 15, op := Op.assign (Operand.tmp 42), type := 47, pos := "law.go:90", after := #[{ on := 9, ground := Ground.data }, { on := 12, ground := Ground.chain }, { on := 0, ground := Ground.phase }, { on := 1, ground := Ground.phase }, { on := 2, ground := Ground.phase }, { on := 3, ground := Ground.phase }, { on := 4, ground := Ground.phase }, { on := 5, ground := Ground.phase }, { on := 6, ground := Ground.phase }, { on := 7, ground := Ground.phase }, { on := 8, ground := Ground.phase }, { on := 9, ground := Ground.phase }, { on := 10, ground := Ground.textOnly Departure.lateStores }, { on := 11, ground := Ground.phase }, { on := 12, ground := Ground.phase }], guard := none }) rfl (fun K hK => ?_) AllReadyH.nil
            rw [if_pos (by rfl)]
            go_simp
            refine hK.out _ _ hHeld (fun hHeld => ?_)
            clear hK K
            try simp only [Act.put, List.setIfInBounds_toArray, List.set_cons_zero, List.set_cons_succ]
            refine wpAnyH_ready (rs := [14]) (by kernel_rfl) (by simp) ?_
            refine AllReadyH.cons (o := { dst := some 16, op := Op.assign (Operand.tmp 43), type := 3, pos := "law.go:90", after := #[{ on := 10, ground := Ground.data }, { on := 13, ground := Ground.chain }, { on := 0, ground := Ground.phase }, { on := 1, ground := Ground.phase }, { on := 2, ground := Ground.phase }, { on := 3, ground := Ground.phase }, { on := 4, ground := Ground.phase }, { on := 5, ground := Ground.phase }, { on := 6, ground := Ground.phase }, { on := 7, ground := Ground.phase }, { on := 8, ground := Ground.phase }, { on := 9, ground := Ground.phase }, { on := 10, ground := Ground.phase }, { on := 11, ground := Ground.phase }, { on := 12, ground := Ground.phase }, { on := 13, ground := Ground.phase }], guard := none }) rfl (fun K hK => ?_) AllReadyH.nil
            rw [if_pos (by rfl)]
            go_simp
            refine hK.out _ _ hHeld (fun hHeld => ?_)
            clear hK K
            try simp only [Act.put, List.setIfInBounds_toArray, List.set_cons_zero, List.set_cons_succ]
            refine wpAnyH_done (by kernel_rfl) ?_ _
            exact hrest2_ _ g14 p A15 c15 ⟨okL, Gz3049, klz3050, kbz3051, kz3046.out⟩
        · rw [if_pos (by rfl)]
          refine wp_allocG zeC rfl (fun g14 vz3052 ez3053 kz3054 qz3055 => ?_)
          have Gz3056 := (hg0).trans qz3055.out
          have hwg14 : w5.heap.size ≤ g14 := by rw [ez3053.out]; exact (hg0).size
          refine hK.out _ _ ⟨range_of (B6b.out.grown (Gz3056) (by simp)), range_of (B7b.out.grown (Gz3056) (by simp))⟩ (fun hHeld => ?_)
          clear hK K
          try simp only [Act.put, List.setIfInBounds_toArray, List.set_cons_zero, List.set_cons_succ]
          refine wpAnyH_ready (rs := [1]) (by kernel_rfl) (by simp) ?_
          refine AllReadyH.cons (o := { dst := some 35, op := Op.call { callee := Callee.value (Operand.func 13), args := #[Operand.tmp 34], argTypes := #[4] }, type := 35, pos := "law.go:90", after := #[{ on := 0, ground := Ground.data }], guard := none }) rfl (fun K hK => ?_) AllReadyH.nil
          rw [if_pos (by rfl)]
          go_simp
          with_reducible refine (rsuite_any vz3052  f).mono ?_
          rintro _ vz3057 ⟨p, ok, rfl, hsu, hne, gz3058⟩
          have nbz3060 := (kz3054.out).grown gz3058 (by simp)
          have Gz3059 := (Gz3056).trans gz3058
          have hnew : ∀ b, ok b → w5.heap.size ≤ b := fun b hb => Nat.le_trans (Gz3056).size (hne b hb)
          have nz3061 : ¬ ok g14 := fun hb => by have h1 := hne _ hb; have h2 := (kz3054.out).lt; omega
          refine hK.out _ _ ⟨range_of (B6b.out.grown (Gz3059) (by simp)), range_of (B7b.out.grown (Gz3059) (by simp))⟩ (fun hHeld => ?_)
          clear hK K
          try simp only [Act.put, List.setIfInBounds_toArray, List.set_cons_zero, List.set_cons_succ]
          refine wpAnyH_ready (rs := [6]) (by kernel_rfl) (by simp) ?_
          refine AllReadyH.cons (o := { dst := some 40, op := Op.call { callee := Callee.value (Operand.func 22), args := #[Operand.tmp 35, Operand.tmp 36, Operand.tmp 37, Operand.tmp 38, Operand.tmp 39], argTypes := #[35, 40, 22, 38, 47] }, type := 60, pos := "law.go:90", after := #[{ on := 1, ground := Ground.data }, { on := 2, ground := Ground.data }, { on := 3, ground := Ground.data }, { on := 4, ground := Ground.data }, { on := 5, ground := Ground.data }, { on := 1, ground := Ground.chain }], guard := none }) rfl (fun K hK => ?_) AllReadyH.nil
          rw [if_pos (by rfl)]
          go_simp
          have hcall : Calls Tryd.prog 22 #[tab p, .agg (rv k n).toArray, .agg (u8s r).toArray, .int .u16 (q : Int), .slice A m c] vz3057 fun e w' => ∃ okX okL A15 c15, e = .returned (.tuple #[.agg (rv kr nr).toArray, .slice A15 lr c15, .int .i64 er]) ∧ Rrg vz3057 w' ok okX p σr ∧ Kps w' okL A15 Lr ∧ ∀ b, okL b → okL0 b ∨ (vz3057.heap.size ≤ b ∧ b < w'.heap.size) := by
            have h := rskip_any (c := c) hsu (sg0_room f _) HK.out HN.out HQ.out HR.out (L5.out.grown (Gz3059)) HKA.out HM.out (by have := M100.out; omega) (fun b hb => ⟨by have := HD.out b hb; have := (G5.out).size; have := (Gz3059).size; omega, fun hb' => by have := hnew b hb'; have := HD.out b hb; have := (G5.out).size; omega⟩) (by have := HT2.out; have := (G5.out).size; have := (Gz3059).size; omega)
            rw [← HRR.out] at h
            refine h.mono fun e w' ⟨okX, okL, A', c', he, h1, h2, h3⟩ => ⟨okX, okL, A', c', ?_, h1, h2, h3⟩
            dsimp only at he
            rw [LR.out] at he
            exact he
          with_reducible refine hcall.mono ?_
          rintro _ vz3062 ⟨okX, okL, A15, c15, rfl, hrg, hkl, hap0⟩
          have Gz3063 := md_grown hrg.md Gz3059 hnew
          have nbz3064 := (nbz3060).keep (hrg.md.block _ (nbz3060).lt nz3061)
          have hap : ∀ b, okL b → (b < w.heap.size ∨ (vz3057.heap.size ≤ b ∧ b < vz3062.heap.size)) := fun b hb => (hap0 b hb).imp (HD.out b) id
          have nez3065 : ∀ b, okL b → b ≠ g14 := fun b hb e => by have h2 := (nbz3060).lt; have h3 := hwg14; have h4 := (G5.out).size; have h5 := hap b hb; omega
          have hkb : ∀ b, okL b → b < vz3062.heap.size := fun b hb => by have h4 := (G5.out).size; have h6 := (Gz3063).size; have h5 := hap b hb; omega
          refine hK.out _ _ ⟨range_of (B6b.out.grown (Gz3063) (by simp)), range_of (B7b.out.grown (Gz3063) (by simp))⟩ (fun hHeld => ?_)
          clear hK K
          try simp only [Act.put, List.setIfInBounds_toArray, List.set_cons_zero, List.set_cons_succ]
          refine' wpAnyH_take (i := 7) (oi := { dst := some 33, op := Op.move (Operand.tmp 40), type := 60, pos := "law.go:90", after := #[{ on := 6, ground := Ground.data }], guard := none }) (v := .tuple #[.agg (rv kr nr).toArray, .slice A15 lr c15, .int .i64 er]) rfl (by kernel_rfl) (by kernel_rfl) (by kernel_rfl) (fun _ _ _ h => h) (Or.inl ⟨by rfl, fun _ _ => rfl⟩) (by assumption) ?qz3066
          try simp only [Act.put, List.setIfInBounds_toArray, List.set_cons_zero, List.set_cons_succ]
          refine' wpAnyH_take (i := 8) (oi := { dst := some 41, op := Op.extract (Operand.tmp 33) 0, type := 40, pos := "law.go:90", after := #[{ on := 7, ground := Ground.data }], guard := none }) (v := .agg (rv kr nr).toArray) rfl (by kernel_rfl) (by kernel_rfl) (by kernel_rfl) (fun _ _ _ h => h) (Or.inl ⟨by rfl, fun _ _ => rfl⟩) (by assumption) ?qz3067
          try simp only [Act.put, List.setIfInBounds_toArray, List.set_cons_zero, List.set_cons_succ]
          refine' wpAnyH_take (i := 9) (oi := { dst := some 42, op := Op.extract (Operand.tmp 33) 1, type := 47, pos := "law.go:90", after := #[{ on := 7, ground := Ground.data }, { on := 12, ground := Ground.gcOnly Departure.lateStores }], guard := none }) (v := .slice A15 lr c15) rfl (by kernel_rfl) (by kernel_rfl) (by kernel_rfl) (fun _ _ _ h => h) (Or.inl ⟨by rfl, fun _ _ => rfl⟩) (by assumption) ?qz3068
          try simp only [Act.put, List.setIfInBounds_toArray, List.set_cons_zero, List.set_cons_succ]
          refine' wpAnyH_take (i := 10) (oi := { dst := some 43, op := Op.extract (Operand.tmp 33) 2, type := 3, pos := "law.go:90", after := #[{ on := 7, ground := Ground.data }, { on := 13, ground := Ground.gcOnly Departure.lateStores }], guard := none }) (v := .int .i64 er) rfl (by kernel_rfl) (by kernel_rfl) (by kernel_rfl) (fun _ _ _ h => h) (Or.inl ⟨by rfl, fun _ _ => rfl⟩) (by assumption) ?qz3069
          try simp only [Act.put, List.setIfInBounds_toArray, List.set_cons_zero, List.set_cons_succ]
          refine wpAnyH_ready (rs := [12]) (by kernel_rfl) (by simp) ?_
          refine AllReadyH.cons (o := { dst := none, op := Op.store 40 (Operand.tmp 14) (Operand.tmp 41), type := 0, pos := "law.go:90", after := #[{ on := 11, ground := Ground.data }, { on := 8, ground := Ground.data }, { on := 6, ground := Ground.chain }, { on := 0, ground := Ground.phase }, { on := 1, ground := Ground.phase }, { on := 2, ground := Ground.phase }, { on := 3, ground := Ground.phase }, { on := 4, ground := Ground.phase }, { on := 5, ground := Ground.phase }, { on := 6, ground := Ground.phase }, { on := 7, ground := Ground.phase }, { on := 8, ground := Ground.phase }, { on := 9, ground := Ground.textOnly Departure.lateStores }, { on := 10, ground := Ground.textOnly Departure.lateStores }, { on := 11, ground := Ground.phase }], guard := none }) rfl (fun K hK => ?_) AllReadyH.nil
          rw [if_pos (by rfl)]
          refine wp_storeG agC _ _ rfl g14 rfl rfl (nbz3064) (rv_length z32_length) (rv_length KRL.out) (rv_one _ _) (fun vz3070 kz3071 qz3072 zz3073 => ?_)
          have Gz3074 : w5.grownBy vz3070 none := World.grownBy.andThen (Gz3063) qz3072.out (by rintro _ ⟨⟩; exact .inl hwg14)
          have klz3075 := hkl.keep fun b hb hlt => qz3072.out.block b hlt (fun e => nez3065 b hb (Option.some.inj e))
          have kbz3076 : ∀ b, okL b → b < vz3070.heap.size := fun b hb => Nat.lt_of_lt_of_le (hkb b hb) qz3072.out.size
          refine hK.out _ _ ⟨range_of (B6b.out.grown (Gz3074) (by simp)), range_of (B7b.out.grown (Gz3074) (by simp))⟩ (fun hHeld => ?_)
          clear hK K
          dsimp only [Act.put]
          refine wpAnyH_ready (rs := [13]) (by kernel_rfl) (by simp) ?_
          refine AllReadyH.cons (o := { dst := some 15, op := Op.assign (Operand.tmp 42), type := 47, pos := "law.go:90", after := #[{ on := 9, ground := Ground.data }, { on := 12, ground := Ground.chain }, { on := 0, ground := Ground.phase }, { on := 1, ground := Ground.phase }, { on := 2, ground := Ground.phase }, { on := 3, ground := Ground.phase }, { on := 4, ground := Ground.phase }, { on := 5, ground := Ground.phase }, { on := 6, ground := Ground.phase }, { on := 7, ground := Ground.phase }, { on := 8, ground := Ground.phase }, { on := 9, ground := Ground.phase }, { on := 10, ground := Ground.textOnly Departure.lateStores }, { on := 11, ground := Ground.phase }, { on := 12, ground := Ground.phase }], guard := none }) rfl (fun K hK => ?_) AllReadyH.nil
          rw [if_pos (by rfl)]
          go_simp
          refine hK.out _ _ hHeld (fun hHeld => ?_)
          clear hK K
          try simp only [Act.put, List.setIfInBounds_toArray, List.set_cons_zero, List.set_cons_succ]
          refine wpAnyH_ready (rs := [14]) (by kernel_rfl) (by simp) ?_
          refine AllReadyH.cons (o := { dst := some 16, op := Op.assign (Operand.tmp 43), type := 3, pos := "law.go:90", after := #[{ on := 10, ground := Ground.data }, { on := 13, ground := Ground.chain }, { on := 0, ground := Ground.phase }, { on := 1, ground := Ground.phase }, { on := 2, ground := Ground.phase }, { on := 3, ground := Ground.phase }, { on := 4, ground := Ground.phase }, { on := 5, ground := Ground.phase }, { on := 6, ground := Ground.phase }, { on := 7, ground := Ground.phase }, { on := 8, ground := Ground.phase }, { on := 9, ground := Ground.phase }, { on := 10, ground := Ground.phase }, { on := 11, ground := Ground.phase }, { on := 12, ground := Ground.phase }, { on := 13, ground := Ground.phase }], guard := none }) rfl (fun K hK => ?_) AllReadyH.nil
          rw [if_pos (by rfl)]
          go_simp
          refine hK.out _ _ hHeld (fun hHeld => ?_)
          clear hK K
          try simp only [Act.put, List.setIfInBounds_toArray, List.set_cons_zero, List.set_cons_succ]
          refine wpAnyH_done (by kernel_rfl) ?_ _
          exact hrest2_ _ g14 p A15 c15 ⟨okL, Gz3074, klz3075, kbz3076, kz3071.out⟩
      · intro w6 g14 p2 A15 c15 ⟨okL6, hg6, hk6, hb6, hr6⟩
        have G6 := Lib.hid (G5.out.trans hg6)
        have K6 := Lib.hid hk6
        have K5b := Lib.hid (K5.out.grown hg6)
        have B11b := Lib.hid (B11.out.grown hg6 (by simp))
        have B14 := Lib.hid hr6
        have MS := Lib.hid (same_any (c := c12) (c2 := c15) K5b.out K6.out KRA.out LR.out L1000.out)
        unfold SameE at MS
        have d5 : (er == er) = true := by simp
        clear hg6 hk6 hb6 hr6
        go_wp2_with (first | (refine wpList_loadGw agC (by rfl) (.tmp 11) rfl g11 rfl B11b.out (rv_length KRL.out) ?_) | (refine wpList_loadGw agC (by rfl) (.tmp 14) rfl g14 rfl B14.out (rv_length KRL.out) ?_) | (refine wpList_eqs (eqsC KRL.out nr) (by rfl) (.tmp 48) (.tmp 49) rfl rfl rfl ?_) | (go_at_call 18; refine MS.out.mono ?_; rintro _ w7 ⟨rfl, hg7⟩; have G7 := Lib.hid hg7; clear hg7) | fail)
        go_ret
        exact ⟨rfl, G6.out.trans G7.out⟩
end Go.Proofs.YtdnkeaokgkiloaaDoor
