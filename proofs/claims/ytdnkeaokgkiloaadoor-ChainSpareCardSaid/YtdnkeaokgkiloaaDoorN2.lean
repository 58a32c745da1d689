/- Mix. Conditions: for the real suite, that the tables of the hash lie where the program lays them. -/
import Derived.Test.YtdnkeaokgkiloaaDoorN1
namespace Go.Proofs.YtdnkeaokgkiloaaDoor
open Go.RowKit T
theorem Row22.lst_at {B n c : Nat} {w : World} {A : Option Addr} {L : List (List UInt8)} (h : Row22 B w (.slice A n c) n L) : Lst w (fun b => b < w.heap.size) A L := by
  obtain ⟨A', c', e, hl⟩ := h.lst
  cases e
  exact hl
theorem mac_g {w : World} {c1 c2 n m : Nat} {ok : Nat → Prop} {A1 A2 : Option Addr} {key text : List UInt8} (hk : Byt w ok A1 key) (ht : Byt w ok A2 text) (hok : ∀ b, ok b → b < w.heap.size) (hn : key.length = n) (hm : text.length = m) (hc1 : n ≤ c1) (hcm1 : c1 ≤ maxLen) (hc2 : m ≤ c2) (hcm2 : c2 ≤ maxLen) (hs1 : n ≤ 100000) (hs3 : m ≤ 100000) (hT : S.Tab w) :
    Calls Tryd.prog 42 #[.slice A1 n c1, .slice A2 m c2] w fun e w' => e = .returned (.agg (u8s (S.hmac key text)).toArray) ∧ w.grownBy w' none := S.mac_any (ok := ok) hk ht hok hn hm hc1 hcm1 hc2 hcm2 (by omega) (by omega) hT
set_option maxRecDepth 100000 in
set_option maxHeartbeats 4000000 in
theorem mix_real {w : World} {ok : Nat → Prop} {A : Option Addr} {ps : List (List UInt8)} {n c : Nat} (x : UInt8) (hT : S.Tab w) (hx : Lst w ok A ps) (hok : ∀ b, ok b → b < w.heap.size) (hn : ps.length = n) (hmo : MixOk ps) :
    Calls Tryd.prog 32 #[.agg #[.pointer none], .int .u8 (x.toNat : Int), .slice A n c] w fun e w' => MixA none x ps e ∧ w.grownBy w' none := by
  have HH := Lib.hid hT
  have HX := Lib.hid hx
  have HO := Lib.hid hok
  have HN := Lib.hid hn
  have HMO := Lib.hid hmo
  clear hT hx hok hn hmo
  have HG0 := Lib.hid (grown_below (World.grownBy_alloc w (.cells #[.pointer none] 29) none))
  have hb0 : C.Blk (w.alloc (.cells #[.pointer none] 29)) w.heap.size 29 [.pointer none] := C.Blk.of_alloc w _ 29
  have HB0 := Lib.hid hb0
  clear hb0
  go_enter Tryd.func32, Tryd.ntmps32
  go_wp2_with (refine wpList_alloc32 i49 rfl rfl ?_)
  intro w1 k1 b1 z1
  have HB1 := Lib.hid (HB0.out.keep (b1.block _ (by simp)))
  have B1 := Lib.hid (HG0.out.trans (b1.mono (by simp)))
  have K1 : Hid (Arr w1 24 (w.heap.size + 1) z32) := k1
  have X1 := Lib.hid ((HX.out.below B1.out HO.out).imp (ok' := fun b => b < w1.heap.size) fun _ hb => Nat.lt_of_lt_of_le (HO.out _ hb) B1.out.size)
  clear k1 b1 z1 HG0 HB0 HX HO
  obtain ⟨gr, hgr⟩ : ∃ g, g = w.heap.size + 1 := ⟨_, rfl⟩
  rw [← hgr] at K1 ⊢
  obtain ⟨gs, hgs⟩ : ∃ g, g = w.heap.size := ⟨_, rfl⟩
  rw [← hgs] at HB1 ⊢
  have HGR : Hid (gs = w.heap.size ∧ gr = gs + 1) := ⟨hgs, by rw [hgs]; exact hgr⟩
  clear hgs hgr
  by_cases h8 : 8 < n
  · exact absurd HMO.out (not_mixOk_long (by rw [HN.out]; exact h8))
  · have d0 : ((8 : Int) < (n : Int)) = False := by simp; omega
    have d1 : decide ((8 : Int) < (n : Int)) = false := by simp; omega
    go_wp2
    go_loop [18] (fun i => ∃ k : Nat, k ≤ n ∧ i = .int .i64 k ∧ ∀ j (hj : j < ps.length), j < k → ps[j].length ≤ 1024) (fun i => n - (intOf i).toNat)
    case atStart => exact ⟨0, Nat.zero_le _, rfl, fun j _ h => absurd h (by omega)⟩
    case round =>
      obtain ⟨k, hk, rfl, hall⟩ := hrel
      have HALL := Lib.hid hall
      clear hall
      by_cases hlt : k < n
      · have hkl : k < ps.length := by rw [HN.out]; exact hlt
        obtain ⟨ad, A', c', rfl, _, hc, hl1, hl2, _⟩ := X1.out k hkl
        obtain ⟨l, hl⟩ : ∃ l, ps[k].length = l := ⟨_, rfl⟩
        rw [hl] at hc hl1
        have HLL := Lib.hid hl
        by_cases hbig : l ≤ 1024
        · have e0 : ((1024 : Int) < (l : Int)) = False := by simp; omega
          have e1 : decide ((1024 : Int) < (l : Int)) = false := by simp; omega
          clear hl
          go_wp2
          go_round
          case rel =>
            refine ⟨k + 1, by omega, by go_num, fun j hj hjk => ?_⟩
            by_cases e : j = k
            · subst e
              rw [HLL.out]
              exact hbig
            · exact HALL.out j hj (by omega)
          case measure => simp [intOf]; omega
        · exact absurd HMO.out (not_mixOk_big hkl (by rw [hl]; omega))
      · clear HALL
        have hcs : w1.cell? ⟨gs, 0, none⟩ = some (.pointer none) := HB1.out.get 0 _ rfl
        have hr := real_yes w1
        unfold sui at hr
        go_wp2_with fail
        go_at_call 39
        refine hr.mono ?_
        rintro _ w2 ⟨rfl, g2⟩
        have HB2 := Lib.hid (HB1.out.grown g2 (by simp))
        have K2 := Lib.hid (Arr.grown K1.out g2 (by simp))
        have B2 := Lib.hid (B1.out.trans ((grown_below g2).mono B1.out.size))
        have X2 := Lib.hid ((X1.out.below (grown_below g2) (fun _ h => h)).imp (ok' := fun b => b < w2.heap.size) fun _ hb => Nat.lt_of_lt_of_le hb g2.size)
        have NG : Hid (gs < w2.heap.size ∧ gr < w2.heap.size ∧ w.heap.size ≤ gr ∧ gs ≠ gr ∧ w.heap.size ≤ gs) := by
          have := HGR.out; have h1 := HB2.out.lt; have h2 := Arr.lt K2.out
          show gs < w2.heap.size ∧ gr < w2.heap.size ∧ w.heap.size ≤ gr ∧ gs ≠ gr ∧ w.heap.size ≤ gs
          exact ⟨h1, h2, by omega, by omega, by omega⟩
        clear hr hcs g2 HB1 K1 B1 X1 HGR
        have hj := join_yes (c := c) X2.out (fun _ h => h) (mixOk_fit HMO.out)
        rw [HN.out] at hj
        go_wp2_with fail
        go_at_call 41
        refine hj.mono ?_
        rintro _ w3 ⟨A3, c3, rfl, q1, q2, q3, b3⟩
        have K3 := Lib.hid (Arr.keep K2.out (b3.block _ (Arr.lt K2.out)))
        have B3 := Lib.hid (B2.out.trans (b3.mono B2.out.size))
        have T3 : Hid (S.Tab w3) := HH.out.grown (below_grown B3.out) (by simp) (by simp)
        obtain ⟨jl, hjl⟩ : ∃ l, (jn ps).length = l := ⟨_, rfl⟩
        have hj15 := jn_len HMO.out
        rw [hjl] at q1 hj15 ⊢
        have q3' : Byt w3 (fun b => b < w3.heap.size) A3 (jn ps) := q3.imp fun _ hb => hb.2
        have hga := World.grownBy_alloc w3 (.cells #[.int .u8 (x.toNat : Int)] 5) none
        have hx1 := byt_one w3 x
        have hx1' : Byt (w3.alloc (.cells #[.int .u8 (x.toNat : Int)] 5)) (fun b => b < w3.heap.size + 1) (some ⟨w3.heap.size, 0, none⟩) [x] := hx1.imp fun b hb => by rw [hb]; exact Nat.lt_succ_self _
        have hj1' : Byt (w3.alloc (.cells #[.int .u8 (x.toNat : Int)] 5)) (fun b => b < w3.heap.size + 1) A3 (jn ps) := (q3'.below (grown_below hga) fun _ h => h).imp fun b hb => Nat.lt_succ_of_lt hb
        have hmc := mac_g (c1 := 1) (c2 := c3) (n := 1) (m := jl) hx1' hj1' (fun b hb => by rw [World.size_alloc]; exact hb) rfl hjl (Nat.le_refl _) (by unfold maxLen; omega) q1 q2 (by omega) (by omega) (T3.out.grown hga (by simp) (by simp))
        have K3a := Lib.hid (Arr.grown K3.out hga (by simp))
        have B3a := Lib.hid (B3.out.trans ((grown_below hga).mono B3.out.size))
        clear hj b3 q1 q3 q3' hga hx1 hjl HH hx1' hj1'
        go_wp2_with fail
        go_at_call 42
        refine hmc.mono ?_
        rintro _ w4 ⟨rfl, g4⟩
        have K4 := Lib.hid (Arr.grown K3a.out g4 (by simp))
        have B4 := Lib.hid (B3a.out.trans ((grown_below g4).mono B3a.out.size))
        obtain ⟨mm, hmm⟩ : ∃ m, m = S.hmac [x] (jn ps) := ⟨_, rfl⟩
        have hml : mm.length = 32 := by rw [hmm, S.hmac_length]
        have HMM := Lib.hid hmm
        rw [← hmm]
        clear hmc g4 hmm
        go_wp2_with (refine wpList_store32 i49 rfl _ _ rfl gr z32 mm rfl rfl K4.out z32_length hml w.heap.size NG.out.2.2.1 ?_)
        intro w5 k5 b5 o5 z5
        have K5 := Lib.hid k5
        have B5 := Lib.hid (B4.out.trans b5)
        clear k5 b5 o5 z5
        go_wp2
        exact bodyPost_ret (results_two i49 rfl _ _ gr mm rfl K5.out hml) rfl ⟨by show _ = _; rw [HMM.out]; rfl, below_grown B5.out⟩
set_option maxRecDepth 100000 in
set_option maxHeartbeats 4000000 in
theorem mix_free {w : World} {ok0 ok : Nat → Prop} {tb : Nat} {A : Option Addr} {ps : List (List UInt8)} {n c : Nat} (x : UInt8) {T : List Trm} (h : Tbl w ok0 tb T) (hr : T.length ≤ 60000) (hx : Lst w ok A ps) (hok : ∀ b, ok b → b < w.heap.size) (hn : ps.length = n) (hmo : MixOk ps) :
    Calls Tryd.prog 32 #[.agg #[.pointer (some ⟨tb, 0, none⟩)], .int .u8 (x.toNat : Int), .slice A n c] w fun e w' => MixA (some T) x ps e ∧ Tbl w' (More ok0 w w') tb (mk T 7 ([x] :: ps)).2 ∧ Md ok0 w w' := by
  have HH := Lib.hid h
  have HR := Lib.hid hr
  have HX := Lib.hid hx
  have HO := Lib.hid hok
  have HN := Lib.hid hn
  have HMO := Lib.hid hmo
  clear h hr hx hok hn hmo
  have HG0 := Lib.hid (grown_below (World.grownBy_alloc w (.cells #[.pointer (some ⟨tb, 0, none⟩)] 29) none))
  have hb0 : C.Blk (w.alloc (.cells #[.pointer (some ⟨tb, 0, none⟩)] 29)) w.heap.size 29 [.pointer (some ⟨tb, 0, none⟩)] := C.Blk.of_alloc w _ 29
  have HB0 := Lib.hid hb0
  clear hb0
  go_enter Tryd.func32, Tryd.ntmps32
  go_wp2_with (refine wpList_alloc32 i49 rfl rfl ?_)
  intro w1 k1 b1 z1
  have HB1 := Lib.hid (HB0.out.keep (b1.block _ (by simp)))
  have B1 := Lib.hid (HG0.out.trans (b1.mono (by simp)))
  have K1 : Hid (Arr w1 24 (w.heap.size + 1) z32) := k1
  have X1 := Lib.hid ((HX.out.below B1.out HO.out).imp (ok' := fun b => b < w1.heap.size) fun _ hb => Nat.lt_of_lt_of_le (HO.out _ hb) B1.out.size)
  clear k1 b1 z1 HG0 HB0 HX HO
  obtain ⟨gr, hgr⟩ : ∃ g, g = w.heap.size + 1 := ⟨_, rfl⟩
  rw [← hgr] at K1 ⊢
  obtain ⟨gs, hgs⟩ : ∃ g, g = w.heap.size := ⟨_, rfl⟩
  rw [← hgs] at HB1 ⊢
  have HGR : Hid (gs = w.heap.size ∧ gr = gs + 1) := ⟨hgs, by rw [hgs]; exact hgr⟩
  clear hgs hgr
  by_cases h8 : 8 < n
  · exact absurd HMO.out (not_mixOk_long (by rw [HN.out]; exact h8))
  · have d0 : ((8 : Int) < (n : Int)) = False := by simp; omega
    have d1 : decide ((8 : Int) < (n : Int)) = false := by simp; omega
    go_wp2
    go_loop [18] (fun i => ∃ k : Nat, k ≤ n ∧ i = .int .i64 k ∧ ∀ j (hj : j < ps.length), j < k → ps[j].length ≤ 1024) (fun i => n - (intOf i).toNat)
    case atStart => exact ⟨0, Nat.zero_le _, rfl, fun j _ h => absurd h (by omega)⟩
    case round =>
      obtain ⟨k, hk, rfl, hall⟩ := hrel
      have HALL := Lib.hid hall
      clear hall
      by_cases hlt : k < n
      · have hkl : k < ps.length := by rw [HN.out]; exact hlt
        obtain ⟨ad, A', c', rfl, _, hc, hl1, hl2, _⟩ := X1.out k hkl
        obtain ⟨l, hl⟩ : ∃ l, ps[k].length = l := ⟨_, rfl⟩
        rw [hl] at hc hl1
        have HLL := Lib.hid hl
        by_cases hbig : l ≤ 1024
        · have e0 : ((1024 : Int) < (l : Int)) = False := by simp; omega
          have e1 : decide ((1024 : Int) < (l : Int)) = false := by simp; omega
          clear hl
          go_wp2
          go_round
          case rel =>
            refine ⟨k + 1, by omega, by go_num, fun j hj hjk => ?_⟩
            by_cases e : j = k
            · subst e
              rw [HLL.out]
              exact hbig
            · exact HALL.out j hj (by omega)
          case measure => simp [intOf]; omega
        · exact absurd HMO.out (not_mixOk_big hkl (by rw [hl]; omega))
      · clear HALL
        have hcs : w1.cell? ⟨gs, 0, none⟩ = some (.pointer (some ⟨tb, 0, none⟩)) := HB1.out.get 0 _ rfl
        have hr := real_no w1 tb
        unfold sui at hr
        go_wp2_with fail
        go_at_call 39
        refine hr.mono ?_
        rintro _ w2 ⟨rfl, g2⟩
        have HB2 := Lib.hid (HB1.out.grown g2 (by simp))
        have K2 := Lib.hid (Arr.grown K1.out g2 (by simp))
        have B2 := Lib.hid (B1.out.trans ((grown_below g2).mono B1.out.size))
        have X2 := Lib.hid ((X1.out.below (grown_below g2) (fun _ h => h)).imp (ok' := fun b => b < w2.heap.size) fun _ hb => Nat.lt_of_lt_of_le hb g2.size)
        have NG : Hid (gs < w2.heap.size ∧ gr < w2.heap.size ∧ w.heap.size ≤ gr ∧ gs ≠ gr ∧ w.heap.size ≤ gs) := by
          have := HGR.out; have h1 := HB2.out.lt; have h2 := Arr.lt K2.out
          show gs < w2.heap.size ∧ gr < w2.heap.size ∧ w.heap.size ≤ gr ∧ gs ≠ gr ∧ w.heap.size ≤ gs
          exact ⟨h1, h2, by omega, by omega, by omega⟩
        clear hr hcs g2 HB1 K1 B1 X1 HGR
        go_wp2_with fail
        obtain ⟨v, hv⟩ : ∃ v, v = w2.drew := ⟨_, rfl⟩
        have hgsv : gs < v.heap.size := by rw [hv]; exact NG.out.1
        have hgrv : gr < v.heap.size := by rw [hv]; exact NG.out.2.1
        have BV : Below w.heap.size w v := by rw [hv]; exact B2.out.drew
        have hKV : Arr v 24 gr z32 := by rw [hv]; exact K2.out
        have XV : Lst v (fun b => b < v.heap.size) A ps := by rw [hv]; exact X2.out
        have hS : v.cell? ⟨gs, 0, none⟩ = some (.pointer (some ⟨tb, 0, none⟩)) := by rw [hv]; exact HB2.out.get 0 _ rfl
        refine wp_region_held_drew (S := fun W => W.cell? ⟨gs, 0, none⟩ = some (.pointer (some ⟨tb, 0, none⟩))) (by kernel_rfl) (by rw [← hv]; exact hS) (fun hHeld => ?_)
        rw [← hv] at hHeld ⊢
        clear hv hS HB2 K2 X2 B2
        refine' wpAnyH_take (i := 0) (oi := { dst := some 30, op := Op.fieldAddr 29 (Operand.tmp 3) 0, type := 0, pos := "suite.go:103", after := #[], guard := none }) (v := .pointer (some ⟨gs, 0, none⟩)) rfl (by kernel_rfl) (by kernel_rfl) (by kernel_rfl) (fun _ _ _ h => h) (Or.inl ⟨by rfl, fun w' hSw => by go_simp⟩) (by assumption) ?qz1
        try simp only [Act.put, List.setIfInBounds_toArray, List.set_cons_zero, List.set_cons_succ]
        refine' wpAnyH_take (i := 1) (oi := { dst := some 31, op := Op.load 27 (Operand.tmp 30), type := 27, pos := "suite.go:103", after := #[{ on := 0, ground := Ground.data }], guard := none }) (v := .pointer (some ⟨tb, 0, none⟩)) rfl (by kernel_rfl) (by kernel_rfl) (by kernel_rfl) (fun _ _ _ h => h) (Or.inl ⟨by rfl, fun w' hSw => by go_simp⟩) (by assumption) ?qz2
        try simp only [Act.put, List.setIfInBounds_toArray, List.set_cons_zero, List.set_cons_succ]
        refine' wpAnyH_take (i := 2) (oi := { dst := some 32, op := Op.move (Operand.tmp 1), type := 5, pos := "suite.go:103", after := #[], guard := none }) (v := .int .u8 (x.toNat : Int)) rfl (by kernel_rfl) (by kernel_rfl) (by kernel_rfl) (fun _ _ _ h => h) (Or.inl ⟨by rfl, fun _ _ => rfl⟩) (by assumption) ?qz3
        try simp only [Act.put, List.setIfInBounds_toArray, List.set_cons_zero, List.set_cons_succ]
        refine' wpAnyH_take (i := 5) (oi := { dst := some 35, op := Op.move (Operand.tmp 2), type := 75, pos := "suite.go:103", after := #[], guard := none }) (v := .slice A n c) rfl (by kernel_rfl) (by kernel_rfl) (by kernel_rfl) (fun _ _ _ h => h) (Or.inl ⟨by rfl, fun _ _ => rfl⟩) (by assumption) ?qz4
        try simp only [Act.put, List.setIfInBounds_toArray, List.set_cons_zero, List.set_cons_succ]
        refine wpAnyH_ready (rs := [3]) (by kernel_rfl) (by simp) ?_
        refine AllReadyH.cons (o := { dst := some 33, op := Op.buildSlice 66 1 #[(0, Operand.tmp 32)], type := 66, pos := "suite.go:103", after := #[{ on := 2, ground := Ground.data }], guard := none }) rfl (fun K hK => ?_) AllReadyH.nil
        rw [if_pos (by rfl)]
        go_simp
        have hga_ := World.grownBy_alloc v (.cells #[.int .u8 (x.toNat : Int)] 5) none
        have hx1_ := byt_one v x
        have hsz_ : (v.alloc (.cells #[.int .u8 (x.toNat : Int)] 5)).heap.size = v.heap.size + 1 := World.size_alloc _ _
        obtain ⟨v1, hv1⟩ : ∃ w', v.alloc (.cells #[.int .u8 (x.toNat : Int)] 5) = w' := ⟨_, rfl⟩
        rw [hv1] at hga_ hx1_ hsz_ ⊢
        obtain ⟨g1, hg1⟩ : ∃ g, g = v.heap.size := ⟨_, rfl⟩
        rw [← hg1] at hx1_ ⊢
        have Y1 : Hid (Byt v1 (fun b => b < v1.heap.size) (some ⟨g1, 0, none⟩) [x]) := hx1_.imp fun b hb => by rw [hb, hsz_, hg1]; exact Nat.lt_succ_self _
        have L1 := Lib.hid (grown_below hga_)
        clear hx1_ hsz_ hv1 hg1
        refine hK.out _ _ (hga_.cell hHeld (by simp)) (fun hHeld => ?_)
        clear hK K
        try simp only [Act.put, List.setIfInBounds_toArray, List.set_cons_zero, List.set_cons_succ]
        refine wpAnyH_ready (rs := [4]) (by kernel_rfl) (by simp) ?_
        refine AllReadyH.cons (o := { dst := some 34, op := Op.buildSlice 75 1 #[(0, Operand.tmp 33)], type := 75, pos := "suite.go:103", after := #[{ on := 3, ground := Ground.data }], guard := none }) rfl (fun K hK => ?_) AllReadyH.nil
        rw [if_pos (by rfl)]
        go_simp
        have hgb_ := World.grownBy_alloc v1 (.cells #[.slice (some ⟨g1, 0, none⟩) 1 1] 66) none
        have hrw_ := Row22.one (B := v.heap.size) (w := v1) (xl := 1) (c := 1) L1.out.size rfl (Nat.le_refl _) (by unfold maxLen; omega) Y1.out (fun _ h => h)
        obtain ⟨v2, hv2⟩ : ∃ w', v1.alloc (.cells #[.slice (some ⟨g1, 0, none⟩) 1 1] 66) = w' := ⟨_, rfl⟩
        rw [hv2] at hgb_ hrw_ ⊢
        obtain ⟨g2, hg2⟩ : ∃ g, g = v1.heap.size := ⟨_, rfl⟩
        rw [← hg2] at hrw_ ⊢
        have R2 := Lib.hid hrw_
        have G2N : Hid (v.heap.size ≤ g2) := by rw [hg2]; exact L1.out.size
        have L2 := Lib.hid (L1.out.trans ((grown_below hgb_).mono L1.out.size))
        clear hrw_ hv2 hg2
        refine hK.out _ _ (hgb_.cell hHeld (by simp)) (fun hHeld => ?_)
        clear hK K
        try simp only [Act.put, List.setIfInBounds_toArray, List.set_cons_zero, List.set_cons_succ]
        refine wpAnyH_ready (rs := [6]) (by kernel_rfl) (by simp) ?_
        refine AllReadyH.cons (o := { dst := some 36, op := Op.call { callee := Callee.builtin Builtin.append, args := #[Operand.tmp 34, Operand.tmp 35], argTypes := #[75, 75] }, type := 75, pos := "suite.go:103", after := #[{ on := 4, ground := Ground.data }, { on := 5, ground := Ground.data }], guard := none }) rfl (fun K hK => ?_) AllReadyH.nil
        rw [if_pos (by rfl)]
        have hxl_ : Lst v2 (fun b => b < v2.heap.size ∧ some b ≠ (Value.slice (some ⟨g2, 0, none⟩) 1 1).ownBlock) A ps := (XV.below L2.out fun _ h => h).imp fun b hb => ⟨Nat.lt_of_lt_of_le hb L2.out.size, fun e => by
          have e' : b = g2 := by simpa [Value.ownBlock] using e
          have := G2N.out
          omega⟩
        obtain ⟨n1, hn1⟩ : ∃ n1, 1 + n = n1 := ⟨_, rfl⟩
        refine op_app22 (.tmp 34) (.tmp 35) rfl (c2 := c) (k := n1) rfl rfl R2.out hxl_ HN.out hn1 (by omega) L2.out.size ?_
        intro A3 c3 v3 r3_ l3_
        rw [show [[x]] ++ ps = [x] :: ps from rfl] at r3_
        have R3 := Lib.hid r3_
        have L3 := Lib.hid (L2.out.trans l3_)
        clear hxl_ r3_
        refine hK.out _ _ ((l3_.cell (p := ⟨gs, 0, none⟩) hgsv).trans hHeld) (fun hHeld => ?_)
        clear hK K
        dsimp only [Act.put]
        refine wpAnyH_ready (rs := [7]) (by kernel_rfl) (by simp) ?_
        refine AllReadyH.cons (o := { dst := some 37, op := Op.call { callee := Callee.value (Operand.func 40), args := #[Operand.tmp 31, Operand.const (Value.int IntKind.i64 7), Operand.tmp 36], argTypes := #[27, 3, 75] }, type := 76, pos := "suite.go:103", after := #[{ on := 1, ground := Ground.data }, { on := 6, ground := Ground.data }, { on := 6, ground := Ground.chain }], guard := none }) rfl (fun K hK => ?_) AllReadyH.nil
        rw [if_pos (by rfl)]
        go_simp
        have hl4 := R3.out.lst_at
        have hlen : ([x] :: ps).length = n1 := by rw [List.length_cons, HN.out, ← hn1, Nat.add_comm]
        have hl64 : ([x] :: ps).length ≤ maxLen := by rw [hlen]; unfold maxLen; omega
        obtain ⟨nn, hnn⟩ : ∃ m, (mk T 7 ([x] :: ps)).1 = m := ⟨_, rfl⟩
        obtain ⟨TT, hTT⟩ : ∃ t, (mk T 7 ([x] :: ps)).2 = t := ⟨_, rfl⟩
        have hnn0 : 0 < nn := by rw [← hnn]; exact (mk_room HMO.out HR.out).1
        have HNN := Lib.hid hnn
        have HTT := Lib.hid hTT
        have hmk : Calls Tryd.prog 40 #[.pointer (some ⟨tb, 0, none⟩), .int .i64 7, .slice A3 n1 c3] v3 fun e w' => e = .returned (.tuple #[.agg (u8s (nm nn)).toArray, .bool true]) ∧ Tbl w' (More (fun b => ok0 b ∧ b < w.heap.size) v3 w') tb TT ∧ Md (fun b => ok0 b ∧ b < w.heap.size) v3 w' := by
          have h := make_any (kind := 7) (c := c3) (cv_tbl HH.out (BV.trans (L3.out.mono BV.size))) hl4 (fun _ h => h) hl64
          rw [hlen] at h
          refine h.mono fun e w' he => ?_
          obtain ⟨h1, h2, h3⟩ := he
          rw [hnn] at h1
          rw [hTT] at h2
          refine ⟨?_, h2, h3⟩
          rw [h1]
          unfold nm0
          rw [if_neg (by omega), decide_eq_true hnn0]
        clear hnn hTT hnn0
        with_reducible refine hmk.mono ?_
        rintro _ v4 ⟨rfl, t4, m4⟩
        have T4 := Lib.hid t4
        clear t4
        have hs4 : gs < v3.heap.size := Nat.lt_of_lt_of_le hgsv L3.out.size
        have hr4 : gr < v3.heap.size := Nat.lt_of_lt_of_le hgrv L3.out.size
        refine hK.out _ _ ((World.cell?_of_block (m4.block gs hs4 (fun h => Nat.lt_irrefl _ (Nat.lt_of_lt_of_le h.2 NG.out.2.2.2.2)))).trans hHeld) (fun hHeld => ?_)
        clear hK K
        refine' wpAnyH_take (i := 8) (oi := { dst := some 38, op := Op.extract (Operand.tmp 37) 0, type := 24, pos := "suite.go:103", after := #[{ on := 7, ground := Ground.data }], guard := none }) (v := .agg (u8s (nm nn)).toArray) rfl (by kernel_rfl) (by kernel_rfl) (by kernel_rfl) (fun _ _ _ h => h) (Or.inl ⟨by rfl, fun _ _ => rfl⟩) (by assumption) ?qz5
        try simp only [Act.put, List.setIfInBounds_toArray, List.set_cons_zero, List.set_cons_succ]
        refine' wpAnyH_take (i := 9) (oi := { dst := some 39, op := Op.extract (Operand.tmp 37) 1, type := 4, pos := "suite.go:103", after := #[{ on := 7, ground := Ground.data }], guard := none }) (v := .bool true) rfl (by kernel_rfl) (by kernel_rfl) (by kernel_rfl) (fun _ _ _ h => h) (Or.inl ⟨by rfl, fun _ _ => rfl⟩) (by assumption) ?qz6
        try simp only [Act.put, List.setIfInBounds_toArray, List.set_cons_zero, List.set_cons_succ]
        refine wpAnyH_ready (rs := [10]) (by kernel_rfl) (by simp) ?_
        refine AllReadyH.cons (o := { dst := none, op := Op.store 24 (Operand.tmp 6) (Operand.tmp 38), type := 0, pos := "suite.go:103", after := #[{ on := 8, ground := Ground.data }, { on := 7, ground := Ground.chain }, { on := 0, ground := Ground.phase }, { on := 1, ground := Ground.phase }, { on := 2, ground := Ground.phase }, { on := 3, ground := Ground.phase }, { on := 4, ground := Ground.phase }, { on := 5, ground := Ground.phase }, { on := 6, ground := Ground.phase }, { on := 7, ground := Ground.phase }, { on := 8, ground := Ground.phase }, { on := 9, ground := Ground.phase }], guard := none }) rfl (fun K hK => ?_) AllReadyH.nil
        rw [if_pos (by rfl)]
        have hk4 : Arr v4 24 gr z32 := Arr.keep (Arr.keep hKV (L3.out.block _ hgrv)) (m4.block gr hr4 (fun h => Nat.lt_irrefl _ (Nat.lt_of_lt_of_le h.2 NG.out.2.2.1)))
        refine wp_store_ar ar26 _ _ rfl gr z32 (nm nn) rfl rfl hk4 z32_length (nm_length nn) ?_
        intro v5 k5 g5 z5
        refine hK.out _ _ (g5.cell hHeld (by simpa using NG.out.2.2.2.1)) (fun hHeld => ?_)
        clear hK K
        dsimp only [Act.put]
        refine wpAnyH_ready (rs := [11]) (by kernel_rfl) (by simp) ?_
        refine AllReadyH.cons (o := { dst := some 7, op := Op.assign (Operand.tmp 39), type := 4, pos := "suite.go:103", after := #[{ on := 9, ground := Ground.data }, { on := 10, ground := Ground.chain }, { on := 0, ground := Ground.phase }, { on := 1, ground := Ground.phase }, { on := 2, ground := Ground.phase }, { on := 3, ground := Ground.phase }, { on := 4, ground := Ground.phase }, { on := 5, ground := Ground.phase }, { on := 6, ground := Ground.phase }, { on := 7, ground := Ground.phase }, { on := 8, ground := Ground.phase }, { on := 9, ground := Ground.phase }, { on := 10, ground := Ground.phase }], guard := none }) rfl (fun K hK => ?_) AllReadyH.nil
        rw [if_pos (by rfl)]
        go_simp
        refine hK.out _ _ hHeld (fun hHeld => ?_)
        clear hK K
        try simp only [Act.put, List.setIfInBounds_toArray, List.set_cons_zero, List.set_cons_succ]
        refine wpAnyH_done (by kernel_rfl) ?_ _
        go_wp2_with fail
        have M3 : Md ok0 w v3 := Md.of_below (BV.trans (L3.out.mono BV.size))
        have M4 : Md ok0 w v4 := M3.trans (m4.imp fun _ _ h => .inl h.1)
        have M5 : Md ok0 w v5 := M4.trans ⟨g5.os, g5.tape, g5.output, g5.size, fun k hk hn => g5.block k hk (fun e => hn (by rw [Option.some.inj e]; exact .inr ⟨NG.out.2.2.1, Nat.lt_of_lt_of_le hr4 m4.size⟩))⟩
        have T5 : Tbl v5 (More ok0 w v5) tb TT := by
          refine (T4.out.keep fun b hb hlt => ?_).imp fun b hlt hb => ?_
          · refine g5.block b hlt fun e => ?_
            have e' : b = gr := Option.some.inj e
            subst e'
            rcases hb with hb | hb
            · exact Nat.lt_irrefl _ (Nat.lt_of_lt_of_le hb.2 NG.out.2.2.1)
            · exact Nat.lt_irrefl _ (Nat.lt_of_lt_of_le hr4 hb.1)
          · rcases hb with hb | hb
            · exact .inl hb.1
            · exact .inr ⟨Nat.le_trans M3.size hb.1, hlt⟩
        rw [← HTT.out] at T5
        exact bodyPost_ret (results_two i49 rfl _ _ gr (nm nn) rfl k5 (nm_length nn)) rfl ⟨by show _ = _; rw [← HNN.out]; rfl, T5, M5⟩
end Go.Proofs.YtdnkeaokgkiloaaDoor
