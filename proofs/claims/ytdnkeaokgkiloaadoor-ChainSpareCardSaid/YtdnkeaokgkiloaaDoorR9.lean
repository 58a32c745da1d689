/- chain.Skip. Conditions: the list has no more than 900 keys; there is room for 32 more terms. -/
import Derived.Test.YtdnkeaokgkiloaaDoorR8
import Derived.Deep.LoopGhost
namespace Go.Proofs.YtdnkeaokgkiloaaDoor
open Go.RowKit T
theorem cutA {F R : World → Nat → Option Addr → Nat → Prop} {G : Prop} (h2 : (∀ w g h i, F w g h i → R w g h i) → G) (h1 : ∀ w g h i, F w g h i → R w g h i) : G := h2 h1
theorem Reg.trans {w w5 v : World} {ok okX okY : Nat → Prop} {p : Option Nat} {σ τ : Sg} (h : Reg w w5 ok okX p σ) (h2 : Reg w5 v okX okY p τ) : Reg w v ok okY p τ :=
  ⟨h2.sui, h.md.trans (h2.md.imp fun b _ hb => h.sub b hb), fun b hb => (h2.sub b hb).elim (fun hb => more_up (h.sub b hb) h2.md.size) fun hb => .inr ⟨Nat.le_trans h.md.size hb.1, hb.2⟩⟩
theorem laid0 {w : World} {ok : Nat → Prop} {A : Option Addr} {L : List Kep} {n c : Nat} (hL : Kps w ok A L) (hK : KAll L) (hn : L.length = n) (hle : n ≤ 1000) :
    Calls Tryd.prog 29 #[.slice A n c, .slice none 0 0] w fun e w' => ∃ A' c', e = .returned (.slice A' n c') ∧ n ≤ c' ∧ c' ≤ maxLen ∧ Kps w' (fun b => w.heap.size ≤ b ∧ b < w'.heap.size) A' L ∧ w.grownBy w' none :=
  (laid_any (c := c) (c2 := 0) (m := 0) hL hK hn (Kps.nil (w := w) (ok := fun _ => False) (A := none)) KAll.nil rfl hle).mono fun e w' ⟨A', c', he, h1, h2, h3, h4⟩ => by
    rw [List.append_nil] at he h1 h3
    rw [hn] at he h1
    exact ⟨A', c', he, h1, h2, h3, h4⟩
/-- What Skip answers. -/
def SkipE (w : World) (ok : Nat → Prop) (p : Option Nat) (τ : Sg) (k : List UInt8) (n : Nat) (L : List Kep) (E : Int) (e : Ending) (w' : World) : Prop :=
  ∃ okX okL A c, e = .returned (.tuple #[.agg (rv k n).toArray, .slice A L.length c, .int .i64 E]) ∧ Reg w w' ok okX p τ ∧ Kps w' okL A L ∧ Apart w w' okX okL ∧ L.length ≤ c ∧ c ≤ maxLen
/-- The loop's state. -/
def LoS (w4 wr : World) (ok : Nat → Prop) (p : Option Nat) (q g14 : Nat) (r : List UInt8) (GR : GoR) (A : Option Addr) (mi c ni : Nat) : Prop :=
  ∃ σi ki Li okX okL, Li.length = mi ∧ KAll Li ∧ ki.length = 32 ∧ ni ≤ q ∧ mi + (q - ni) ≤ 16 ∧ Room (58932 - 2 * (q - ni)) σi ∧ goF r (q - ni) σi ki ni Li = GR ∧ Reg w4 wr ok okX p σi ∧ Kps wr okL A Li ∧
    (∀ b, okL b → b < wr.heap.size ∧ ¬ okX b ∧ b ≠ g14 ∧ w4.heap.size ≤ b) ∧ C.Blk wr g14 40 (rv ki ni) ∧ ¬ okX g14 ∧ w4.heap.size ≤ g14 ∧ mi ≤ c ∧ c ≤ maxLen
set_option maxRecDepth 100000 in
set_option maxHeartbeats 16000000 in
theorem skip_any {w : World} {ok okL : Nat → Prop} {p : Option Nat} {σ : Sg} {k r : List UInt8} {n q m c : Nat} {A : Option Addr} {L : List Kep} (h : Sui w ok p σ) (hro : Room 58900 σ) (hk : k.length = 32) (hn : n < 65536) (hq : q < 65536) (hr : r.length = 32) (hL : Kps w okL A L) (hK : KAll L) (hm : L.length = m) (hle : m ≤ 900) (hd : ∀ b, okL b → b < w.heap.size ∧ ¬ ok b) :
    Calls Tryd.prog 21 #[tab p, .agg (rv k n).toArray, .agg (u8s r).toArray, .int .u16 (q : Int), .slice A m c] w (SkipE w ok p (skipF r σ k n q L).1 (skipF r σ k n q L).2.1 (skipF r σ k n q L).2.2.1 (skipF r σ k n q L).2.2.2.1 (skipF r σ k n q L).2.2.2.2) := by
  obtain ⟨RR, hRR⟩ : ∃ R, R = skipF r σ k n q L := ⟨_, rfl⟩
  rw [← hRR]
  obtain ⟨GR, hGR⟩ : ∃ R, R = goF r (q - n) σ k n L := ⟨_, rfl⟩
  unfold skipF at hRR
  rw [← hGR] at hRR
  obtain ⟨f, hf⟩ : ∃ f, f = far n q L.length := ⟨_, rfl⟩
  rw [← hf] at hRR
  rw [hm] at hf
  obtain ⟨σr, kr, nr, Lr, er⟩ := RR
  dsimp only
  have MR : Hid (Calls Tryd.prog 30 #[.int .u16 (n : Int), .int .u16 (q : Int), .int .i64 (m : Int)] = Calls Tryd.prog 30 #[.int .u16 (n : Int), .int .u16 (q : Int), .int .i64 (m : Int)]) := rfl
  obtain ⟨pv, hpv⟩ : ∃ v, v = Value.pointer (p.map fun b => (⟨b, 0, none⟩ : Addr)) := ⟨_, rfl⟩
  have htab : tab p = .agg [pv].toArray := by rw [hpv]; rfl
  obtain ⟨z, hz⟩ : ∃ z, z = rv k n := ⟨_, rfl⟩
  obtain ⟨y, hy⟩ : ∃ y, y = u8s r := ⟨_, rfl⟩
  have HRR := Lib.hid hRR
  have HGR := Lib.hid hGR
  have HF := Lib.hid hf
  have HS := Lib.hid h
  have HRO := Lib.hid hro
  have HK := Lib.hid hk
  have HR := Lib.hid hr
  have HL := Lib.hid hL
  have HKA := Lib.hid hK
  have HM := Lib.hid hm
  have HD := Lib.hid hd
  have HZ := Lib.hid hz
  have HY := Lib.hid hy
  have HTAB := Lib.hid htab
  have HN := Lib.hid hn
  have HQ := Lib.hid hq
  have HLE := Lib.hid hle
  rw [htab, ← hz, ← hy]
  clear hRR hGR hf h hro hk hr hL hK hm hd hz hy htab hpv hn hq hle MR
  go_enter Tryd.func21, Tryd.ntmps21
  go_wp2_with (first | (refine wpList_boxG rfl _ rfl (vs := [pv]) rfl ?_) | fail)
  intro g5 w1 e5 k5 q5
  go_wp2_with (first | (refine wpList_boxG rfl _ rfl (vs := z) rfl ?_) | fail)
  intro g6 w2 e6 k6 q6
  go_wp2_with (first | (refine wpList_boxG rfl _ rfl (vs := y) rfl ?_) | fail)
  intro g7 w3 e7 k7 q7
  go_wp2_with (first | (refine wpList_allocG zeC rfl rfl ?_) | fail)
  intro g10 w4 e10 k10 q10
  have G4 := Lib.hid (((q5.out.trans q6.out).trans q7.out).trans q10.out)
  have B5 := Lib.hid (((k5.out.grown q6.out (by simp)).grown q7.out (by simp)).grown q10.out (by simp))
  have B6 : Hid (C.Blk w4 g6 40 (rv k n)) := by have hh := (k6.out.grown q7.out (by simp)).grown q10.out (by simp); rw [HZ.out] at hh; exact hh
  have B7 : Hid (C.Blk w4 g7 24 (u8s r)) := by have hh := k7.out.grown q10.out (by simp); rw [HY.out] at hh; exact hh
  have B10 := Lib.hid k10.out
  have NE : Hid (w.heap.size ≤ g5 ∧ g5 < g6 ∧ g6 < g7 ∧ g7 < g10 ∧ g10 < w4.heap.size) := by
    have a1 := e5.out; have a2 := e6.out; have a3 := e7.out; have a4 := e10.out; have b1 := k5.out.lt; have b2 := k6.out.lt; have b3 := k7.out.lt; have b4 := k10.out.lt
    show _ ∧ _
    omega
  have NOK : Hid (∀ g, w.heap.size ≤ g → ¬ ok g) := fun g hg hb => by have := HS.out.lt g hb; omega
  have S4 := Lib.hid (HS.out.grown G4.out)
  have L4 := Lib.hid (HL.out.grown G4.out)
  have hc := blk_n B6.out HK.out
  have MR := Lib.hid (reach_any w4 n q m HN.out HQ.out (by have := HLE.out; omega))
  rw [← HF.out] at MR
  clear e5 k5 q5 e6 k6 q6 e7 k7 q7 e10 k10 q10
  by_cases hf0 : f = 0
  · have d1 : (f == (0 : Int)) = true := by simp [hf0]
    have F0 := Lib.hid hf0
    clear hf0
    go_wp2_with (first | (go_at_call 30; refine MR.out.mono ?_; rintro _ wq ⟨rfl, rfl⟩; rw [F0.out]) | fail)
    have N610 : Hid (g6 ≠ g10) := by have := NE.out; show g6 ≠ g10; omega
    have FAR : Hid (n ≤ q ∧ m + (q - n) ≤ 16) := by
      have h1 := HF.out
      rw [F0.out] at h1
      unfold far at h1
      by_cases a : q < n
      · rw [if_pos a] at h1; omega
      · rw [if_neg a] at h1
        by_cases a2 : 16 < q - n + m
        · rw [if_pos a2] at h1; omega
        · show _ ∧ _; omega
    have HRR2 : Hid ((σr, kr, nr, Lr, er) = if GR.2.2.2.2 = 0 then GR else (GR.1, k, n, L, GR.2.2.2.2)) := by
      have h := HRR.out
      rw [if_neg (by rw [F0.out]; simp)] at h
      exact h
    clear hc HRR HF MR
    apply cutA (F := fun w' g14 A15 c15 => ∃ okL5, w4.grownBy w' none ∧ Kps w' okL5 A15 L ∧ (∀ b, okL5 b → w4.heap.size ≤ b ∧ b < w'.heap.size ∧ b ≠ g14) ∧ C.Blk w' g14 40 (rv k n) ∧ w4.heap.size ≤ g14 ∧ m ≤ c15 ∧ c15 ≤ maxLen)
    · intro hrest_
      refine wp_region_held_drew (S := fun W => W.rangeAt g6 0 (rv k n)) (by kernel_rfl) (range_of B6.out) (fun hHeld => ?_)
      obtain ⟨v0, hv0⟩ : ∃ v, v = w4.drew := ⟨_, rfl⟩
      have hg0 : w4.grownBy v0 none := by rw [hv0]; exact grown_drew w4
      rw [← hv0] at hHeld ⊢
      clear hv0
      refine' wpAnyH_take (i := 0) (oi := { dst := some 31, op := Op.load 40 (Operand.tmp 6), type := 40, pos := "chain.go:61", after := #[], guard := none }) (v := .agg (rv k n).toArray) rfl (by kernel_rfl) (by kernel_rfl) (by kernel_rfl) (fun _ _ _ h => h) (yieldsIf_loadR agC (by rfl) (.tmp 6) rfl g6 0 rfl (rv_length HK.out) (fun _ h => h)) (by assumption) ?qz1001
      try simp only [Act.put, List.setIfInBounds_toArray, List.set_cons_zero, List.set_cons_succ]
      refine' wpAnyH_take (i := 1) (oi := { dst := some 32, op := Op.move (Operand.tmp 4), type := 47, pos := "chain.go:61", after := #[], guard := none }) (v := .slice A m c) rfl (by kernel_rfl) (by kernel_rfl) (by kernel_rfl) (fun _ _ _ h => h) (Or.inl ⟨by rfl, fun w' hSw => by go_simp⟩) (by assumption) ?qz1002
      try simp only [Act.put, List.setIfInBounds_toArray, List.set_cons_zero, List.set_cons_succ]
      refine wpAnyH_ready (rs := [2, 3]) (by kernel_rfl) (by simp) ?_
      refine AllReadyH.cons (o := { dst := some 33, op := Op.call { callee := Callee.value (Operand.func 29), args := #[Operand.tmp 32, Operand.const (Value.slice none 0 0)], argTypes := #[47, 47] }, type := 47, pos := "chain.go:61", after := #[{ on := 1, ground := Ground.data }], guard := none }) rfl (fun K hK => ?_) (AllReadyH.cons (o := { dst := some 14, op := Op.alloc 40, type := 0, pos := "chain.go:61", after := #[], guard := none }) rfl (fun K hK => ?_) AllReadyH.nil)
      · rw [if_pos (by rfl)]
        go_simp
        with_reducible refine (laid0 (c := c) (L4.out.grown hg0) HKA.out HM.out (by have := HLE.out; omega)).mono ?_
        rintro _ vz1003 ⟨A15, c15, rfl, hl1, hl2, hl3, gz1004q⟩
        have gz1004 := (hg0).trans gz1004q
        have hk15 := hl3
        have HL1 := Lib.hid hl1
        have HL2 := Lib.hid hl2
        have hb15 : ∀ b, (v0.heap.size ≤ b ∧ b < vz1003.heap.size) → w4.heap.size ≤ b ∧ b < vz1003.heap.size := fun b hb => ⟨Nat.le_trans (hg0).size hb.1, hb.2⟩
        clear hl1 hl2 hl3
        refine hK.out _ _ (range_keep hHeld fun hlt => gz1004q.block g6 hlt (by simp)) (fun hHeld => ?_)
        clear hK K
        try simp only [Act.put, List.setIfInBounds_toArray, List.set_cons_zero, List.set_cons_succ]
        refine wpAnyH_ready (rs := [3]) (by kernel_rfl) (by simp) ?_
        refine AllReadyH.cons (o := { dst := some 14, op := Op.alloc 40, type := 0, pos := "chain.go:61", after := #[], guard := none }) rfl (fun K hK => ?_) AllReadyH.nil
        rw [if_pos (by rfl)]
        refine wp_allocG zeC rfl (fun g14 vz1005 e14 k14 q14 => ?_)
        have hga14 := (gz1004).trans q14.out
        have hw14 : w4.heap.size ≤ g14 := by rw [e14.out]; exact (gz1004).size
        have hk15a := hk15.grown q14.out
        have hb15a : ∀ b, (fun b => v0.heap.size ≤ b ∧ b < vz1003.heap.size) b → w4.heap.size ≤ b ∧ b < vz1005.heap.size := fun b hb => ⟨(hb15 b hb).1, Nat.lt_of_lt_of_le (hb15 b hb).2 q14.out.size⟩
        have hn15 : ∀ b, (fun b => v0.heap.size ≤ b ∧ b < vz1003.heap.size) b → b ≠ g14 := fun b hb e => by have h1 := (hb15 b hb).2; have h2 := e14.out; omega
        refine hK.out _ _ (range_keep hHeld fun hlt => q14.out.block g6 hlt (by simp)) (fun hHeld => ?_)
        clear hK K
        try simp only [Act.put, List.setIfInBounds_toArray, List.set_cons_zero, List.set_cons_succ]
        refine wpAnyH_ready (rs := [4]) (by kernel_rfl) (by simp) ?_
        refine AllReadyH.cons (o := { dst := none, op := Op.store 40 (Operand.tmp 14) (Operand.tmp 31), type := 0, pos := "chain.go:61", after := #[{ on := 3, ground := Ground.data }, { on := 0, ground := Ground.data }, { on := 2, ground := Ground.chain }, { on := 0, ground := Ground.phase }, { on := 1, ground := Ground.textOnly Departure.lateStores }, { on := 2, ground := Ground.textOnly Departure.lateStoresUnsure }, { on := 3, ground := Ground.phase }], guard := none }) rfl (fun K hK => ?_) AllReadyH.nil
        rw [if_pos (by rfl)]
        refine wp_storeG agC _ _ rfl g14 rfl rfl k14.out (rv_length z32_length) (rv_length HK.out) (rv_one _ _) (fun vz1006 k14b q14b z14b => ?_)
        have hgs14 : w4.grownBy vz1006 none := World.grownBy.andThen hga14 q14b.out (by rintro _ ⟨⟩; exact .inl hw14)
        have hk15s := hk15a.keep (w' := vz1006) fun b hb hlt => q14b.out.block b hlt (fun e => hn15 b hb (Option.some.inj e))
        have hb15s : ∀ b, (fun b => v0.heap.size ≤ b ∧ b < vz1003.heap.size) b → w4.heap.size ≤ b ∧ b < vz1006.heap.size := fun b hb => ⟨(hb15a b hb).1, Nat.lt_of_lt_of_le (hb15a b hb).2 q14b.out.size⟩
        refine hK.out _ _ (range_keep hHeld fun hlt => q14b.out.block g6 hlt (fun e => by have h1 := Option.some.inj e; have := NE.out; omega)) (fun hHeld => ?_)
        clear hK K
        dsimp only [Act.put]
        refine wpAnyH_ready (rs := [5]) (by kernel_rfl) (by simp) ?_
        refine AllReadyH.cons (o := { dst := some 15, op := Op.assign (Operand.tmp 33), type := 47, pos := "chain.go:61", after := #[{ on := 2, ground := Ground.data }, { on := 4, ground := Ground.chain }, { on := 0, ground := Ground.phase }, { on := 1, ground := Ground.phase }, { on := 2, ground := Ground.phase }, { on := 3, ground := Ground.phase }, { on := 4, ground := Ground.phase }], guard := none }) rfl (fun K hK => ?_) AllReadyH.nil
        rw [if_pos (by rfl)]
        go_simp
        refine hK.out _ _ hHeld (fun hHeld => ?_)
        clear hK K
        try simp only [Act.put, List.setIfInBounds_toArray, List.set_cons_zero, List.set_cons_succ]
        refine wpAnyH_done (by kernel_rfl) ?_ _
        exact hrest_ _ g14 A15 c15 ⟨_, hgs14, hk15s, fun b hb => ⟨(hb15s b hb).1, (hb15s b hb).2, hn15 b hb⟩, k14b.out, hw14, HL1.out, HL2.out⟩
      · rw [if_pos (by rfl)]
        refine wp_allocG zeC rfl (fun g14 vz1007 e14 k14 q14 => ?_)
        have hga14 := (hg0).trans q14.out
        have hw14 : w4.heap.size ≤ g14 := by rw [e14.out]; exact (hg0).size
        refine hK.out _ _ (range_keep hHeld fun hlt => q14.out.block g6 hlt (by simp)) (fun hHeld => ?_)
        clear hK K
        try simp only [Act.put, List.setIfInBounds_toArray, List.set_cons_zero, List.set_cons_succ]
        refine wpAnyH_ready (rs := [2]) (by kernel_rfl) (by simp) ?_
        refine AllReadyH.cons (o := { dst := some 33, op := Op.call { callee := Callee.value (Operand.func 29), args := #[Operand.tmp 32, Operand.const (Value.slice none 0 0)], argTypes := #[47, 47] }, type := 47, pos := "chain.go:61", after := #[{ on := 1, ground := Ground.data }], guard := none }) rfl (fun K hK => ?_) AllReadyH.nil
        rw [if_pos (by rfl)]
        go_simp
        with_reducible refine (laid0 (c := c) (L4.out.grown hga14) HKA.out HM.out (by have := HLE.out; omega)).mono ?_
        rintro _ vz1008 ⟨A15, c15, rfl, hl1, hl2, hl3, gz1009q⟩
        have gz1009 := (hga14).trans gz1009q
        have hk15 := hl3
        have HL1 := Lib.hid hl1
        have HL2 := Lib.hid hl2
        have hb15 : ∀ b, (vz1007.heap.size ≤ b ∧ b < vz1008.heap.size) → w4.heap.size ≤ b ∧ b < vz1008.heap.size := fun b hb => ⟨Nat.le_trans (hga14).size hb.1, hb.2⟩
        clear hl1 hl2 hl3
        have hb14c := k14.out.grown gz1009q (by simp)
        have hn15 : ∀ b, (vz1007.heap.size ≤ b ∧ b < vz1008.heap.size) → b ≠ g14 := fun b hb e => by have := k14.out.lt; omega
        refine hK.out _ _ (range_keep hHeld fun hlt => gz1009q.block g6 hlt (by simp)) (fun hHeld => ?_)
        clear hK K
        try simp only [Act.put, List.setIfInBounds_toArray, List.set_cons_zero, List.set_cons_succ]
        refine wpAnyH_ready (rs := [4]) (by kernel_rfl) (by simp) ?_
        refine AllReadyH.cons (o := { dst := none, op := Op.store 40 (Operand.tmp 14) (Operand.tmp 31), type := 0, pos := "chain.go:61", after := #[{ on := 3, ground := Ground.data }, { on := 0, ground := Ground.data }, { on := 2, ground := Ground.chain }, { on := 0, ground := Ground.phase }, { on := 1, ground := Ground.textOnly Departure.lateStores }, { on := 2, ground := Ground.textOnly Departure.lateStoresUnsure }, { on := 3, ground := Ground.phase }], guard := none }) rfl (fun K hK => ?_) AllReadyH.nil
        rw [if_pos (by rfl)]
        refine wp_storeG agC _ _ rfl g14 rfl rfl hb14c (rv_length z32_length) (rv_length HK.out) (rv_one _ _) (fun vz1010 k14b q14b z14b => ?_)
        have hgs14 : w4.grownBy vz1010 none := World.grownBy.andThen gz1009 q14b.out (by rintro _ ⟨⟩; exact .inl hw14)
        have hk15s := hk15.keep (w' := vz1010) fun b hb hlt => q14b.out.block b hlt (fun e => hn15 b hb (Option.some.inj e))
        have hb15s : ∀ b, (fun b => vz1007.heap.size ≤ b ∧ b < vz1008.heap.size) b → w4.heap.size ≤ b ∧ b < vz1010.heap.size := fun b hb => ⟨(hb15 b hb).1, Nat.lt_of_lt_of_le (hb15 b hb).2 q14b.out.size⟩
        refine hK.out _ _ (range_keep hHeld fun hlt => q14b.out.block g6 hlt (fun e => by have h1 := Option.some.inj e; have := NE.out; omega)) (fun hHeld => ?_)
        clear hK K
        dsimp only [Act.put]
        refine wpAnyH_ready (rs := [5]) (by kernel_rfl) (by simp) ?_
        refine AllReadyH.cons (o := { dst := some 15, op := Op.assign (Operand.tmp 33), type := 47, pos := "chain.go:61", after := #[{ on := 2, ground := Ground.data }, { on := 4, ground := Ground.chain }, { on := 0, ground := Ground.phase }, { on := 1, ground := Ground.phase }, { on := 2, ground := Ground.phase }, { on := 3, ground := Ground.phase }, { on := 4, ground := Ground.phase }], guard := none }) rfl (fun K hK => ?_) AllReadyH.nil
        rw [if_pos (by rfl)]
        go_simp
        refine hK.out _ _ hHeld (fun hHeld => ?_)
        clear hK K
        try simp only [Act.put, List.setIfInBounds_toArray, List.set_cons_zero, List.set_cons_succ]
        refine wpAnyH_done (by kernel_rfl) ?_ _
        exact hrest_ _ g14 A15 c15 ⟨_, hgs14, hk15s, fun b hb => ⟨(hb15s b hb).1, (hb15s b hb).2, hn15 b hb⟩, k14b.out, hw14, HL1.out, HL2.out⟩
    · intro w5 g14 A15 c15 ⟨okL5, hg5, hk5, hb5, hr5, hw5, hm5, hc5⟩
      have LS : Hid (LoS w4 w5 ok p q g14 r GR A15 m c15 n) :=
        ⟨σ, k, L, ok, okL5, HM.out, HKA.out, HK.out, FAR.out.1, FAR.out.2, HRO.out.mono (by have := FAR.out.2; omega), HGR.out.symm, (Reg.start0 S4.out).alloc hg5, hk5, fun b hb => ⟨(hb5 b hb).2.1, fun hbb => by have := S4.out.lt b hbb; have := (hb5 b hb).1; omega, (hb5 b hb).2.2, (hb5 b hb).1⟩, hr5, fun hbb => by have := S4.out.lt g14 hbb; omega, hw5, hm5, hc5⟩
      have NQ := Lib.hid FAR.out.1
      clear hg5 hk5 hb5 hr5 hw5 hm5 hc5
      go_wp2_with fail
      go_loopg [15] (q - n) (fun G v wr => ∃ (A : Option Addr) (mi c ni : Nat), v = .slice A mi c ∧ ni ≤ q ∧ q - ni ≤ G ∧ Hid (LoS w4 wr ok p q g14 r GR A mi c ni))
      case atStart => exact ⟨A15, m, c15, n, rfl, NQ.out, Nat.le_refl _, LS.out⟩
      case round =>
        obtain ⟨Ai, mi, ci, ni, rfl, hnq, hgk, hls⟩ := hrel
        obtain ⟨σi, ki, Li, okX, okLi, l1, l2, l3, l4, l5, l6, l7, l8, l9, l10, l11, l12, l13, l14, l15⟩ := hls.out
        have HGK := Lib.hid hgk
        have Q1 := Lib.hid l1
        have Q2 := Lib.hid l2
        have Q3 := Lib.hid l3
        have Q5 := Lib.hid l5
        have Q6 := Lib.hid l6
        have Q7 := Lib.hid l7
        have Q8 := Lib.hid l8
        have Q9 := Lib.hid l9
        have Q10 := Lib.hid l10
        have Q11 := Lib.hid l11
        have Q12 := Lib.hid l12
        have Q13 := Lib.hid l13
        have Q14 := Lib.hid l14
        have Q15 := Lib.hid l15
        have hcn := blk_n l11 l3
        have B5r := Lib.hid (l8.blk B5.out (NOK.out g5 (by have := NE.out; omega)))
        have B6r := Lib.hid (l8.blk B6.out (NOK.out g6 (by have := NE.out; omega)))
        have B7r := Lib.hid (l8.blk B7.out (NOK.out g7 (by have := NE.out; omega)))
        have B10r := Lib.hid (l8.blk B10.out (NOK.out g10 (by have := NE.out; omega)))
        clear hls LS hgk l1 l2 l3 l4 l5 l6 l7 l8 l9 l10 l11 l12 l13 l14 l15
        by_cases hlt : ni < q
        · have d1 : (ni : Int) < (q : Int) := by omega
          have HLT := Lib.hid hlt
          have N65 : Hid (ni < 65535) := by have := HQ.out; show ni < 65535; omega
          have MP := Lib.hid (pass_any (c := ci) Q8.out.sui (Q6.out.mono (by omega)) Q3.out N65.out HR.out Q9.out Q2.out Q1.out (by have := Q5.out; omega) (fun b hb => ⟨(Q10.out b hb).1, (Q10.out b hb).2.1⟩))
          rw [HTAB.out] at MP
          obtain ⟨E, hE⟩ : ∃ E, E = keepE Li (r, ni, nextL σi ki) := ⟨_, rfl⟩
          obtain ⟨LL, hLL⟩ : ∃ l, l = keepL Li (r, ni, nextL σi ki) := ⟨_, rfl⟩
          obtain ⟨b2, hb2⟩ : ∃ b, b = nextK σi ki := ⟨_, rfl⟩
          obtain ⟨σ2, h2⟩ : ∃ s, s = nextS σi ki := ⟨_, rfl⟩
          have hbl2 : b2.length = 32 := by rw [hb2]; exact nextK_length _ _
          rw [← hE, ← hLL, ← hb2, ← h2] at MP
          obtain ⟨lm, hlm⟩ : ∃ n, n = LL.length := ⟨_, rfl⟩
          unfold PassE at MP
          rw [← hlm] at MP
          have HE := Lib.hid hE
          have HLL := Lib.hid hLL
          have HB2 := Lib.hid hb2
          have H2 := Lib.hid h2
          have HBL2 := Lib.hid hbl2
          have HLM := Lib.hid hlm
          clear hE hLL hb2 h2 hbl2 hlm hlt
          by_cases hE0 : E = 0
          · have d2 : (E == (0 : Int)) = true := by simp [hE0]
            have E0 := Lib.hid hE0
            clear hE0
            go_wp2_with (first | (refine wpList_loadG agS rfl (.tmp 5) rfl g5 rfl B5r.out rfl ?_) | (refine wpList_loadG agC rfl (.tmp 14) rfl g14 rfl Q11.out (rv_length Q3.out) ?_) | (refine wpList_loadG agY rfl (.tmp 7) rfl g7 rfl B7r.out (by rw [u8s_length, HR.out]) ?_) | (go_at_call 31; refine MP.out.mono ?_; rintro _ w6 ⟨okX6, okL6, A6, c6, rfl, hr6, hk6, ha6, hl6, hc6⟩; have R6 := Lib.hid hr6; have K6 := Lib.hid hk6; have AP6 := Lib.hid ha6; have M6 := Lib.hid hl6; have C6 := Lib.hid hc6; clear hr6 hk6 ha6 hl6 hc6; rw [E0.out]) | (refine wpList_allocG zeC rfl rfl ?_) | fail)
            intro g16 w7 e16 k16 q16
            go_wp2_with (first | (refine wpList_storeG agC rfl _ _ rfl g16 rfl rfl k16.out (rv_length z32_length) (rv_length HBL2.out) (rv_one _ _) ?_) | fail)
            intro w8 k16b q16b z16
            have NX16 : ¬ okX6 g16 := fun hb => by have := R6.out.sui.lt g16 hb; have := e16.out; omega
            have R8 := Lib.hid ((R6.out.alloc q16.out).store q16b.out NX16 (by rw [e16.out]; exact R6.out.md.size) (Nat.le_trans S4.out.two Q8.out.md.size))
            have B16 := Lib.hid k16b.out
            have B14 := Lib.hid (R8.out.blk Q11.out Q12.out)
            have NX14 : Hid (¬ okX6 g14) := R8.out.not_old Q11.out.lt Q12.out
            have N1416 : Hid (g14 ≠ g16) := by have := Q11.out.lt; have := e16.out; have := R6.out.md.size; show g14 ≠ g16; omega
            have K8 : Hid (Kps w8 okL6 A6 LL) := (K6.out.grown q16.out).keep fun b hb hlt => q16b.out.block b hlt (fun e => by have e' : b = g16 := Option.some.inj e; have := (AP6.out b hb).2.1; have := e16.out; omega)
            have Z8 : Hid (w6.heap.size ≤ w8.heap.size) := Nat.le_trans q16.out.size q16b.out.size
            clear e16 k16 q16 k16b q16b z16
            go_wp2_with (first | (refine wpList_loadG agC rfl (.tmp 16) rfl g16 rfl B16.out (rv_length HBL2.out) ?_) | (refine wpList_storeG agC rfl _ _ rfl g14 rfl rfl B14.out (rv_length Q3.out) (rv_length HBL2.out) (rv_one _ _) ?_) | fail)
            intro w9 k9 q9 z9
            have R9 := Lib.hid ((Q8.out.trans R8.out).store q9.out NX14.out Q13.out S4.out.two)
            have hLL : LL = Li ++ [(r, ni, nextL σi ki)] := by rw [HLL.out]; unfold keepL; rw [← HE.out, E0.out]; rfl
            have K9 : Kps w9 okL6 A6 LL := K8.out.keep fun b hb hlt => q9.out.block b hlt (fun e => by have e' : b = g14 := Option.some.inj e; have := (AP6.out b hb).1; have := Q11.out.lt; omega)
            have hlm : lm = mi + 1 := by rw [HLM.out, hLL, List.length_append, Q1.out]; rfl
            have LS9 : Hid (LoS w4 w9 ok p q g14 r GR A6 lm c6 (ni + 1)) := by
              refine ⟨σ2, b2, LL, okX6, okL6, HLM.out.symm, by rw [hLL]; exact Q2.out.append (KAll.one (KOk.made HR.out (by have := HQ.out; have := HLT.out; omega))), HBL2.out, HLT.out, by have := Q5.out; have := HLT.out; omega, ?_, ?_, R9.out, K9, fun b hb => ⟨?_, (AP6.out b hb).2.2, ?_, ?_⟩, k9.out, NX14.out, Q13.out, M6.out, C6.out⟩
              · rw [H2.out]
                exact (Q6.out.next Q3.out (by omega)).mono (by have := Q5.out; have := HLT.out; omega)
              · have h7 := Q7.out
                have hlt := HLT.out
                rw [show q - ni = (q - (ni + 1)) + 1 by omega] at h7
                unfold goF at h7
                rw [if_pos (by rw [← HE.out]; exact E0.out), ← H2.out, ← HB2.out, ← hLL] at h7
                exact h7
              · have := (AP6.out b hb).2.1; have := Z8.out; have := z9.out; omega
              · have := (AP6.out b hb).1; have := Q11.out.lt; omega
              · have := (AP6.out b hb).1; have := Q8.out.md.size; omega
            clear hLL K9 hlm k9 q9 z9
            go_wp2_with fail
            go_roundg (q - (ni + 1))
            case measure => have := HGK.out; have := HLT.out; omega
            case rel => exact ⟨A6, lm, c6, ni + 1, rfl, HLT.out, Nat.le_refl _, LS9.out⟩
          · have d2 : (E == (0 : Int)) = false := by simp [hE0]
            have E0 := Lib.hid hE0
            clear hE0
            go_wp2_with (first | (refine wpList_loadG agS rfl (.tmp 5) rfl g5 rfl B5r.out rfl ?_) | (refine wpList_loadG agC rfl (.tmp 14) rfl g14 rfl Q11.out (rv_length Q3.out) ?_) | (refine wpList_loadG agY rfl (.tmp 7) rfl g7 rfl B7r.out (by rw [u8s_length, HR.out]) ?_) | (go_at_call 31; refine MP.out.mono ?_; rintro _ w6 ⟨okX6, okL6, A6, c6, rfl, hr6, hk6, ha6, hl6, hc6⟩; have R6 := Lib.hid hr6; have K6 := Lib.hid hk6; have AP6 := Lib.hid ha6; have M6 := Lib.hid hl6; have C6 := Lib.hid hc6; clear hr6 hk6 ha6 hl6 hc6) | (refine wpList_allocG zeC rfl rfl ?_) | fail)
            intro g16 w7 e16 k16 q16
            go_wp2_with (first | (refine wpList_storeG agC rfl _ _ rfl g16 rfl rfl k16.out (rv_length z32_length) (rv_length HBL2.out) (rv_one _ _) ?_) | fail)
            intro w8 k16b q16b z16
            have NX16 : ¬ okX6 g16 := fun hb => by have := R6.out.sui.lt g16 hb; have := e16.out; omega
            have R8 := Lib.hid (Q8.out.trans ((R6.out.alloc q16.out).store q16b.out NX16 (by rw [e16.out]; exact R6.out.md.size) (Nat.le_trans S4.out.two Q8.out.md.size)))
            have B6q := Lib.hid (R8.out.blk B6.out (NOK.out g6 (by have := NE.out; omega)))
            have B10q := Lib.hid (R8.out.blk B10.out (NOK.out g10 (by have := NE.out; omega)))
            have NX10 : ¬ okX6 g10 := R8.out.not_old B10.out.lt (NOK.out g10 (by have := NE.out; omega))
            have L8q : Hid (Kps w8 okL A L) := L4.out.keep fun b hb hlt => R8.out.md.block b hlt (HD.out b hb).2
            have RW := Lib.hid (R8.out.base G4.out)
            have HEQ : Hid (σr = σ2 ∧ kr = k ∧ nr = n ∧ Lr = L ∧ er = E) := by
              have h7 := Q7.out
              have hlt := HLT.out
              rw [show q - ni = (q - (ni + 1)) + 1 by omega] at h7
              unfold goF at h7
              rw [if_neg (by rw [← HE.out]; exact E0.out), ← H2.out, ← HE.out] at h7
              have h := HRR2.out
              rw [← h7] at h
              dsimp only at h
              rw [if_neg E0.out] at h
              exact (by simpa using h : σr = σ2 ∧ kr = k ∧ nr = n ∧ Lr = L ∧ er = E)
            clear e16 k16 q16 k16b q16b z16
            go_wp2_with fail
            refine wp_region_held_drew (S := fun W => W.rangeAt g6 0 (rv k n)) (by kernel_rfl) (range_of B6q.out) (fun hHeld => ?_)
            obtain ⟨v0, hv0⟩ : ∃ v, v = w8.drew := ⟨_, rfl⟩
            have hg0 : w8.grownBy v0 none := by rw [hv0]; exact grown_drew w8
            rw [← hv0] at hHeld ⊢
            clear hv0
            refine' wpAnyH_take (i := 0) (oi := { dst := some 49, op := Op.load 40 (Operand.tmp 6), type := 40, pos := "chain.go:65", after := #[], guard := none }) (v := .agg (rv k n).toArray) rfl (by kernel_rfl) (by kernel_rfl) (by kernel_rfl) (fun _ _ _ h => h) (yieldsIf_loadR agC (by rfl) (.tmp 6) rfl g6 0 rfl (rv_length HK.out) (fun _ h => h)) (by assumption) ?qz4001
            try simp only [Act.put, List.setIfInBounds_toArray, List.set_cons_zero, List.set_cons_succ]
            refine' wpAnyH_take (i := 1) (oi := { dst := some 50, op := Op.move (Operand.tmp 4), type := 47, pos := "chain.go:65", after := #[], guard := none }) (v := .slice A m c) rfl (by kernel_rfl) (by kernel_rfl) (by kernel_rfl) (fun _ _ _ h => h) (Or.inl ⟨by rfl, fun w' hSw => by go_simp⟩) (by assumption) ?qz4002
            try simp only [Act.put, List.setIfInBounds_toArray, List.set_cons_zero, List.set_cons_succ]
            refine' wpAnyH_take (i := 3) (oi := { dst := some 52, op := Op.move (Operand.tmp 18), type := 41, pos := "chain.go:65", after := #[{ on := 5, ground := Ground.gcOnly Departure.lateStores }], guard := none }) (v := .int .i64 E) rfl (by kernel_rfl) (by kernel_rfl) (by kernel_rfl) (fun _ _ _ h => h) (Or.inl ⟨by rfl, fun w' hSw => by go_simp⟩) (by assumption) ?qz4003
            try simp only [Act.put, List.setIfInBounds_toArray, List.set_cons_zero, List.set_cons_succ]
            refine wpAnyH_ready (rs := [2]) (by kernel_rfl) (by simp) ?_
            refine AllReadyH.cons (o := { dst := some 51, op := Op.call { callee := Callee.value (Operand.func 29), args := #[Operand.tmp 50, Operand.const (Value.slice none 0 0)], argTypes := #[47, 47] }, type := 47, pos := "chain.go:65", after := #[{ on := 1, ground := Ground.data }], guard := none }) rfl (fun K hK => ?_) AllReadyH.nil
            rw [if_pos (by rfl)]
            go_simp
            with_reducible refine (laid0 (c := c) (L8q.out.grown hg0) HKA.out HM.out (by have := HLE.out; omega)).mono ?_
            rintro _ v1 ⟨A1, c1, rfl, hl1, hl2, hl3, hl4⟩
            have HL1 := Lib.hid hl1
            have HL2 := Lib.hid hl2
            have HL3 := Lib.hid hl3
            have HL4 := Lib.hid hl4
            clear hl1 hl2 hl3 hl4
            refine hK.out _ _ (range_keep hHeld fun hlt => HL4.out.block g6 hlt (by simp)) (fun hHeld => ?_)
            clear hK K
            try simp only [Act.put, List.setIfInBounds_toArray, List.set_cons_zero, List.set_cons_succ]
            refine wpAnyH_ready (rs := [4]) (by kernel_rfl) (by simp) ?_
            refine AllReadyH.cons (o := { dst := none, op := Op.store 40 (Operand.tmp 10) (Operand.tmp 49), type := 0, pos := "chain.go:65", after := #[{ on := 0, ground := Ground.data }, { on := 2, ground := Ground.chain }, { on := 0, ground := Ground.phase }, { on := 1, ground := Ground.textOnly Departure.lateStores }, { on := 2, ground := Ground.textOnly Departure.lateStoresUnsure }, { on := 3, ground := Ground.textOnly Departure.lateStores }], guard := none }) rfl (fun K hK => ?_) AllReadyH.nil
            rw [if_pos (by rfl)]
            refine wp_storeG agC _ _ rfl g10 rfl rfl ((B10q.out.grown hg0 (by simp)).grown HL4.out (by simp)) (rv_length z32_length) (rv_length HK.out) (rv_one _ _) (fun v2 k2 q2 z2 => ?_)
            refine hK.out _ _ (range_keep hHeld fun hlt => q2.out.block g6 hlt (by simpa using N610.out)) (fun hHeld => ?_)
            clear hK K
            dsimp only [Act.put]
            refine wpAnyH_ready (rs := [5]) (by kernel_rfl) (by simp) ?_
            refine AllReadyH.cons (o := { dst := some 11, op := Op.assign (Operand.tmp 51), type := 47, pos := "chain.go:65", after := #[{ on := 2, ground := Ground.data }, { on := 4, ground := Ground.chain }, { on := 0, ground := Ground.phase }, { on := 1, ground := Ground.phase }, { on := 2, ground := Ground.phase }, { on := 3, ground := Ground.textOnly Departure.lateStores }, { on := 4, ground := Ground.phase }], guard := none }) rfl (fun K hK => ?_) AllReadyH.nil
            rw [if_pos (by rfl)]
            go_simp
            refine hK.out _ _ hHeld (fun hHeld => ?_)
            clear hK K
            try simp only [Act.put, List.setIfInBounds_toArray, List.set_cons_zero, List.set_cons_succ]
            refine wpAnyH_ready (rs := [6]) (by kernel_rfl) (by simp) ?_
            refine AllReadyH.cons (o := { dst := some 12, op := Op.assign (Operand.tmp 52), type := 41, pos := "chain.go:65", after := #[{ on := 3, ground := Ground.data }, { on := 5, ground := Ground.chain }, { on := 0, ground := Ground.phase }, { on := 1, ground := Ground.phase }, { on := 2, ground := Ground.phase }, { on := 3, ground := Ground.phase }, { on := 4, ground := Ground.phase }, { on := 5, ground := Ground.phase }], guard := none }) rfl (fun K hK => ?_) AllReadyH.nil
            rw [if_pos (by rfl)]
            go_simp
            refine hK.out _ _ hHeld (fun hHeld => ?_)
            clear hK K
            try simp only [Act.put, List.setIfInBounds_toArray, List.set_cons_zero, List.set_cons_succ]
            refine wpAnyH_done (by kernel_rfl) ?_ _
            go_wp2_with fail
            refine bodyPost_ret (res_css rfl agC rfl rfl rfl k2.out (rv_length HK.out)) rfl ?_
            have R2 := (((RW.out).alloc hg0).alloc HL4.out).store q2.out NX10 (by have := NE.out; omega) HS.out.two
            obtain ⟨e1, e2, e3, e4, e5⟩ := HEQ.out
            refine ⟨okX6, fun b => v0.heap.size ≤ b ∧ b < v1.heap.size, A1, c1, by rw [e2, e3, e4, e5, HM.out]; rfl, by rw [e1]; exact R2, ?_, fun b hb => ⟨Nat.le_trans ((RW.out).alloc hg0).md.size hb.1, Nat.lt_of_lt_of_le hb.2 (Nat.le_of_eq z2.out.symm), fun hbb => ?_⟩, by rw [e4, HM.out]; exact HL1.out, HL2.out⟩
            · rw [e4]
              refine HL3.out.keep fun b hb hlt => q2.out.block b hlt ?_
              rintro ⟨⟩
              have := (B10q.out.grown hg0 (by simp)).lt
              omega
            · have := ((RW.out).alloc hg0).sui.lt b hbb
              omega
        · have hqe : ni = q := by omega
          have d1 : ¬ (ni : Int) < (q : Int) := by omega
          have HEQ : Hid (σr = σi ∧ kr = ki ∧ nr = ni ∧ Lr = Li ∧ er = 0) := by
            have h7 := Q7.out
            rw [show q - ni = 0 by omega] at h7
            unfold goF at h7
            have h := HRR2.out
            rw [← h7] at h
            dsimp only at h
            rw [if_pos rfl] at h
            exact (by simpa using h : σr = σi ∧ kr = ki ∧ nr = ni ∧ Lr = Li ∧ er = 0)
          have NX10 : Hid (¬ okX g10) := Q8.out.not_old B10.out.lt (NOK.out g10 (by have := NE.out; omega))
          clear hqe hlt
          go_wp2_with (first | (refine wpList_loadG agC rfl (.tmp 14) rfl g14 rfl Q11.out (rv_length Q3.out) ?_) | (refine wpList_storeG agC rfl _ _ rfl g10 rfl rfl B10r.out (rv_length z32_length) (rv_length Q3.out) (rv_one _ _) ?_) | fail)
          intro v2 k2 q2 z2
          go_wp2_with fail
          refine bodyPost_ret (res_css rfl agC rfl rfl rfl k2.out (rv_length Q3.out)) rfl ?_
          have R2 := (Q8.out.base G4.out).store q2.out NX10.out (by have := NE.out; omega) HS.out.two
          obtain ⟨e1, e2, e3, e4, e5⟩ := HEQ.out
          refine ⟨okX, okLi, Ai, ci, by rw [e2, e3, e4, e5, Q1.out]; rfl, by rw [e1]; exact R2, ?_, fun b hb => ⟨Nat.le_trans G4.out.size (Q10.out b hb).2.2.2, Nat.lt_of_lt_of_le (Q10.out b hb).1 (Nat.le_of_eq z2.out.symm), (Q10.out b hb).2.1⟩, by rw [e4, Q1.out]; exact Q14.out, Q15.out⟩
          rw [e4]
          refine Q9.out.keep fun b hb hlt => q2.out.block b hlt ?_
          rintro ⟨⟩
          have := (Q10.out g10 hb).2.2.2
          have := B10.out.lt
          omega
  · have d1 : (f == (0 : Int)) = false := by simp [hf0]
    have F0 := Lib.hid hf0
    clear hf0
    go_wp2_with (first | (go_at_call 30; refine MR.out.mono ?_; rintro _ wq ⟨rfl, rfl⟩) | fail)
    have N610 : Hid (g6 ≠ g10) := by have := NE.out; show g6 ≠ g10; omega
    have HEQ : Hid (σr = σ ∧ kr = k ∧ nr = n ∧ Lr = L ∧ er = f) := by
      have h := HRR.out
      rw [if_pos F0.out] at h
      exact (by simpa using h : σr = σ ∧ kr = k ∧ nr = n ∧ Lr = L ∧ er = f)
    have RW := Lib.hid ((Reg.start0 HS.out).alloc G4.out)
    clear hc
    refine wp_region_held_drew (S := fun W => W.rangeAt g6 0 (rv k n)) (by kernel_rfl) (range_of B6.out) (fun hHeld => ?_)
    obtain ⟨v0, hv0⟩ : ∃ v, v = w4.drew := ⟨_, rfl⟩
    have hg0 : w4.grownBy v0 none := by rw [hv0]; exact grown_drew w4
    rw [← hv0] at hHeld ⊢
    clear hv0
    refine' wpAnyH_take (i := 0) (oi := { dst := some 27, op := Op.load 40 (Operand.tmp 6), type := 40, pos := "chain.go:59", after := #[], guard := none }) (v := .agg (rv k n).toArray) rfl (by kernel_rfl) (by kernel_rfl) (by kernel_rfl) (fun _ _ _ h => h) (yieldsIf_loadR agC (by rfl) (.tmp 6) rfl g6 0 rfl (rv_length HK.out) (fun _ h => h)) (by assumption) ?qz1
    try simp only [Act.put, List.setIfInBounds_toArray, List.set_cons_zero, List.set_cons_succ]
    refine' wpAnyH_take (i := 1) (oi := { dst := some 28, op := Op.move (Operand.tmp 4), type := 47, pos := "chain.go:59", after := #[], guard := none }) (v := .slice A m c) rfl (by kernel_rfl) (by kernel_rfl) (by kernel_rfl) (fun _ _ _ h => h) (Or.inl ⟨by rfl, fun w' hSw => by go_simp⟩) (by assumption) ?qz2
    try simp only [Act.put, List.setIfInBounds_toArray, List.set_cons_zero, List.set_cons_succ]
    refine' wpAnyH_take (i := 3) (oi := { dst := some 30, op := Op.move (Operand.tmp 13), type := 41, pos := "chain.go:59", after := #[{ on := 5, ground := Ground.gcOnly Departure.lateStores }], guard := none }) (v := .int .i64 f) rfl (by kernel_rfl) (by kernel_rfl) (by kernel_rfl) (fun _ _ _ h => h) (Or.inl ⟨by rfl, fun w' hSw => by go_simp⟩) (by assumption) ?qz3
    try simp only [Act.put, List.setIfInBounds_toArray, List.set_cons_zero, List.set_cons_succ]
    refine wpAnyH_ready (rs := [2]) (by kernel_rfl) (by simp) ?_
    refine AllReadyH.cons (o := { dst := some 29, op := Op.call { callee := Callee.value (Operand.func 29), args := #[Operand.tmp 28, Operand.const (Value.slice none 0 0)], argTypes := #[47, 47] }, type := 47, pos := "chain.go:59", after := #[{ on := 1, ground := Ground.data }], guard := none }) rfl (fun K hK => ?_) AllReadyH.nil
    rw [if_pos (by rfl)]
    go_simp
    with_reducible refine (laid0 (c := c) (L4.out.grown hg0) HKA.out HM.out (by have := HLE.out; omega)).mono ?_
    rintro _ v1 ⟨A1, c1, rfl, hl1, hl2, hl3, hl4⟩
    have HL1 := Lib.hid hl1
    have HL2 := Lib.hid hl2
    have HL3 := Lib.hid hl3
    have HL4 := Lib.hid hl4
    clear hl1 hl2 hl3 hl4
    refine hK.out _ _ (range_keep hHeld fun hlt => HL4.out.block g6 hlt (by simp)) (fun hHeld => ?_)
    clear hK K
    try simp only [Act.put, List.setIfInBounds_toArray, List.set_cons_zero, List.set_cons_succ]
    refine wpAnyH_ready (rs := [4]) (by kernel_rfl) (by simp) ?_
    refine AllReadyH.cons (o := { dst := none, op := Op.store 40 (Operand.tmp 10) (Operand.tmp 27), type := 0, pos := "chain.go:59", after := #[{ on := 0, ground := Ground.data }, { on := 2, ground := Ground.chain }, { on := 0, ground := Ground.phase }, { on := 1, ground := Ground.textOnly Departure.lateStores }, { on := 2, ground := Ground.textOnly Departure.lateStoresUnsure }, { on := 3, ground := Ground.textOnly Departure.lateStores }], guard := none }) rfl (fun K hK => ?_) AllReadyH.nil
    rw [if_pos (by rfl)]
    refine wp_storeG agC _ _ rfl g10 rfl rfl ((B10.out.grown hg0 (by simp)).grown HL4.out (by simp)) (rv_length z32_length) (rv_length HK.out) (rv_one _ _) (fun v2 k2 q2 z2 => ?_)
    refine hK.out _ _ (range_keep hHeld fun hlt => q2.out.block g6 hlt (by simpa using N610.out)) (fun hHeld => ?_)
    clear hK K
    dsimp only [Act.put]
    refine wpAnyH_ready (rs := [5]) (by kernel_rfl) (by simp) ?_
    refine AllReadyH.cons (o := { dst := some 11, op := Op.assign (Operand.tmp 29), type := 47, pos := "chain.go:59", after := #[{ on := 2, ground := Ground.data }, { on := 4, ground := Ground.chain }, { on := 0, ground := Ground.phase }, { on := 1, ground := Ground.phase }, { on := 2, ground := Ground.phase }, { on := 3, ground := Ground.textOnly Departure.lateStores }, { on := 4, ground := Ground.phase }], guard := none }) rfl (fun K hK => ?_) AllReadyH.nil
    rw [if_pos (by rfl)]
    go_simp
    refine hK.out _ _ hHeld (fun hHeld => ?_)
    clear hK K
    try simp only [Act.put, List.setIfInBounds_toArray, List.set_cons_zero, List.set_cons_succ]
    refine wpAnyH_ready (rs := [6]) (by kernel_rfl) (by simp) ?_
    refine AllReadyH.cons (o := { dst := some 12, op := Op.assign (Operand.tmp 30), type := 41, pos := "chain.go:59", after := #[{ on := 3, ground := Ground.data }, { on := 5, ground := Ground.chain }, { on := 0, ground := Ground.phase }, { on := 1, ground := Ground.phase }, { on := 2, ground := Ground.phase }, { on := 3, ground := Ground.phase }, { on := 4, ground := Ground.phase }, { on := 5, ground := Ground.phase }], guard := none }) rfl (fun K hK => ?_) AllReadyH.nil
    rw [if_pos (by rfl)]
    go_simp
    refine hK.out _ _ hHeld (fun hHeld => ?_)
    clear hK K
    try simp only [Act.put, List.setIfInBounds_toArray, List.set_cons_zero, List.set_cons_succ]
    refine wpAnyH_done (by kernel_rfl) ?_ _
    go_wp2_with fail
    refine bodyPost_ret (res_css rfl agC rfl rfl rfl k2.out (rv_length HK.out)) rfl ?_
    have R2 := (((RW.out).alloc hg0).alloc HL4.out).store q2.out (NOK.out g10 (by have := NE.out; omega)) (by have := NE.out; omega) HS.out.two
    obtain ⟨e1, e2, e3, e4, e5⟩ := HEQ.out
    refine ⟨ok, fun b => v0.heap.size ≤ b ∧ b < v1.heap.size, A1, c1, by rw [e2, e3, e4, e5, HM.out]; rfl, by rw [e1]; exact R2, ?_, fun b hb => ⟨Nat.le_trans ((RW.out).alloc hg0).md.size hb.1, Nat.lt_of_lt_of_le hb.2 (Nat.le_of_eq z2.out.symm), fun hbb => ?_⟩, by rw [e4, HM.out]; exact HL1.out, HL2.out⟩
    · rw [e4]
      refine HL3.out.keep fun b hb hlt => q2.out.block b hlt ?_
      rintro ⟨⟩
      have := (B10.out.grown hg0 (by simp)).lt
      omega
    · have := ((RW.out).alloc hg0).sui.lt b hbb
      omega
end Go.Proofs.YtdnkeaokgkiloaaDoor
