/- The law of what is sealed, walked through. Conditions: the tables of the hash lie where the program lays them. -/
import Derived.Test.YtkbffponemihoaaGreatDoorW2
namespace Go.Proofs.YtkbffponemihoaaGreatDoor
open Go.RowKit T
/-- A new suite of that kind. -/
def NewSF (w : World) (f : Bool) (e : Ending) (w' : World) : Prop := ∃ (P : Option Addr) (σ : Sg) (ok : Nat → Prop), e = .returned (.agg #[.pointer P]) ∧ val σ = .agg #[.pointer P] ∧ Sm ok w' σ ∧ (∀ b, ok b → w.heap.size ≤ b ∧ b < w'.heap.size) ∧ w.grownBy w' none ∧ (∀ ks plain : List UInt8, ks.length = 32 → (sealF σ ks plain).1 = rsealR f ks plain)
theorem suite_kind {w : World} (hT : S.Tab w) (f : Bool) : Calls Tryz.prog 5 #[.bool f] w (NewSF w f) := by
  cases f
  · refine (suite_real w).mono ?_
    rintro e w' ⟨rfl, hg⟩
    refine ⟨none, none, fun _ => False, rfl, rfl, S.Tab.grown hT hg (by simp) (by simp), fun _ h => h.elim, hg, fun ks plain _ => ?_⟩
    unfold sealF rsealR
    by_cases hp : plain.length ≤ 1024
    · rw [if_pos hp, if_pos hp]
      rfl
    · rw [if_neg hp, if_neg hp]
  · refine (suite_free w).mono ?_
    rintro e w' ⟨tb, rfl, ht, hg⟩
    refine ⟨some ⟨tb, 0, none⟩, some (tb, []), fun b => w.heap.size ≤ b ∧ b < w'.heap.size, rfl, rfl, ht, fun _ h => h, hg, fun ks plain hk => ?_⟩
    unfold sealF rsealR
    by_cases hp : plain.length ≤ 1024
    · rw [if_pos hp, if_pos hp]
      show (if 0 < (mk [] 8 [ks, plain]).1 then some (cov [] ks plain) else none) = _
      unfold cov
      rw [mk_one hk hp]
      rfl
    · rw [if_neg hp, if_neg hp]
/-- The reference's suite, and what it seals. -/
theorem ref_seal {w : World} (f : Bool) : Calls Tryz.prog 7 #[.bool f] w fun e w' => ∃ P, e = .returned (.agg #[.pointer P]) ∧ w.grownBy w' none ∧ ∀ (ok : Nat → Prop) (A : Option Addr) (ks plain : List UInt8) (n c : Nat), ks.length = 32 → Byt w' ok A plain → (∀ b, ok b → b < w'.heap.size) → plain.length = n → n ≤ c → c ≤ maxLen →
    Calls Tryz.prog 8 #[.agg #[.pointer P], .agg (u8s ks).toArray, .slice A n c] w' fun e w'' => RAns (rsealR f ks plain) e w'' ∧ Below w.heap.size w w'' := by
  refine (ref_any w f).mono ?_
  rintro e w' ⟨hg, h⟩
  rcases h with ⟨rfl, rfl⟩ | ⟨rfl, rb, rfl, ht⟩
  · refine ⟨none, rfl, hg, fun ok A ks plain n c hl hx hok hn hc hm => (rseal_real hl hx hok hn).mono ?_⟩
    rintro e w'' ⟨h1, h2⟩
    exact ⟨h1, (grown_below hg).trans ((grown_below h2).mono hg.size)⟩
  · refine ⟨some ⟨rb, 0, none⟩, rfl, hg, fun ok A ks plain n c hl hx hok hn hc hm => (rseal_free ht hl hx hok hn hc hm).mono ?_⟩
    rintro e w'' ⟨h1, h2⟩
    exact ⟨h1, (grown_below hg).trans (h2.below hg.size fun b _ h => h.1)⟩
theorem rseal_len {f : Bool} {ks plain bb : List UInt8} {n : Nat} (h : plain.length ≤ 1024) (hn : plain.length = n) (hb : rsealR f ks plain = some bb) : bb.length = sizeL n := by
  unfold rsealR at hb
  rw [if_pos h] at hb
  obtain rfl := Option.some.inj hb
  subst hn
  cases f
  · exact sealB_length ks plain
  · exact pad_length (nm_length 1) (by unfold sizeL; omega)
theorem open_nil {σ : Sg} {ks : List UInt8} : openF σ ks [] = none := by
  cases σ with
  | none => exact openB_short ks [] (by decide)
  | some p => exact uncov_short (T := p.2) (ks := ks) (by decide)
set_option maxRecDepth 100000 in
set_option maxHeartbeats 4000000 in
theorem seals_walk {w : World} {ok : Nat → Prop} {A : Option Addr} {ks xs : List UInt8} {c : Nat} (f : Bool) (hk : ks.length = 32) (hx : Byt w ok A xs) (hok : ∀ b, ok b → b < w.heap.size) (hc1 : xs.length ≤ c) (hm1 : c ≤ maxLen) (hT : S.Tab w) :
    Calls Tryz.prog 3 #[.bool f, .agg (u8s ks).toArray, .slice A xs.length c] w fun e w' => e = .returned (.bool true) ∧ w.grownBy w' none := by
  obtain ⟨n, hn⟩ : ∃ n, xs.length = n := ⟨_, rfl⟩
  rw [hn] at hc1 ⊢
  have HL := Lib.hid hk
  have HX := Lib.hid hx
  have HO := Lib.hid hok
  have HT := Lib.hid hT
  have HNX := Lib.hid hn
  clear hk hx hok hT hn
  go_enter Tryz.func3, Tryz.ntmps3
  go_wp2_with (refine wpList_box32 i34 rfl _ rfl ks rfl HL.out ?_)
  intro w1 k1 b1 z1
  have K1 : Hid (Arr w1 22 w.heap.size ks) := k1
  have G1 := Lib.hid (below_grown b1)
  clear k1 b1 z1
  obtain ⟨g4, hg4⟩ : ∃ g, g = w.heap.size := ⟨_, rfl⟩
  rw [← hg4] at K1 ⊢
  clear hg4
  have hal := alive_any (HT.out.grown G1.out (by simp) (by simp))
  go_wp2_with fail
  go_at_call 4
  refine hal.mono ?_
  rintro _ w3 ⟨rfl, g3⟩
  have K3 := Lib.hid (Arr.grown K1.out g3 (by simp))
  have G3 := Lib.hid (World.grownBy.trans G1.out g3)
  clear hal g3 K1 G1
  by_cases hn5 : n ≤ 5000
  · have d0 : ((5000 : Int) < (n : Int)) = False := by simp; omega
    have d1 : decide ((5000 : Int) < (n : Int)) = false := by simp; omega
    have hsu := suite_kind (HT.out.grown G3.out (by simp) (by simp)) f
    go_wp2_with fail
    go_at_call 5
    refine hsu.mono ?_
    rintro _ w4 ⟨P, σ, ok5, rfl, hv, m4, o4, gw4, hr⟩
    have HV := Lib.hid hv
    have HR := Lib.hid hr
    have M4 := Lib.hid m4
    have O4 := Lib.hid o4
    have K4 := Lib.hid (Arr.grown K3.out gw4 (by simp))
    have NN : Hid (g4 < w3.heap.size) := Arr.lt K3.out
    have G4 := Lib.hid (World.grownBy.trans G3.out gw4)
    have NW : Hid (w.heap.size ≤ w3.heap.size) := G3.out.size
    clear hsu hv hr m4 o4 gw4 K3 G3
    have ga := World.grownBy_alloc w4 (.cells #[.pointer P] 27) none
    have K4a := Lib.hid (Arr.grown K4.out ga (by simp))
    go_wp2_with (refine wpList_load_ar ar25 rfl _ rfl g4 rfl ks K4a.out HL.out ?_)
    have hb : C.Blk (w4.alloc (.cells #[.pointer P] 27)) w4.heap.size 27 [.pointer P] := C.Blk.of_alloc w4 _ 27
    clear K4a
    obtain ⟨w5, hw5⟩ : ∃ w', w4.alloc (.cells #[.pointer P] 27) = w' := ⟨_, rfl⟩
    rw [hw5] at ga hb ⊢
    obtain ⟨gs, hgs⟩ : ∃ g, g = w4.heap.size := ⟨_, rfl⟩
    rw [← hgs] at hb ⊢
    have HS5 := Lib.hid (M4.out.up ga)
    have O5 : Hid (∀ b, ok5 b → w.heap.size ≤ b ∧ b ≠ g4 ∧ b ≠ gs) := fun b hb => by have := O4.out b hb; have := NN.out; have := NW.out; omega
    have K5 := Lib.hid (Arr.grown K4.out ga (by simp))
    have S5 := Lib.hid hb
    have B5 := Lib.hid ((grown_below G4.out).trans ((grown_below ga).mono G4.out.size))
    clear hb ga hw5 hgs M4 O4 K4 NN G4 NW
    by_cases hn10 : n ≤ 1024
    · have hse : Calls Tryz.prog 6 #[.agg #[.pointer P], .agg (u8s ks).toArray, .slice A n c] w5 (SealE ok5 w5 σ ks xs) := by
        have h := seal_any (c := c) HS5.out HL.out (byt_up HX.out HO.out B5.out) (fun _ h => h) HNX.out hc1 hm1
        rw [HV.out] at h
        exact h
      go_at_call 6
      refine hse.mono ?_
      rintro _ w6 ⟨h6, m6, d6⟩
      have hra := HR.out ks xs HL.out
      obtain ⟨bb, hbb⟩ : ∃ bb, rsealR f ks xs = some bb := by unfold rsealR; rw [if_pos (by rw [HNX.out]; exact hn10)]; exact ⟨_, rfl⟩
      have hbl : bb.length = sizeL n := rseal_len (by rw [HNX.out]; exact hn10) HNX.out hbb
      rw [hbb] at hra
      have hop := open_sealF HL.out HS5.out hra
      rw [hra] at h6
      have hv6 : val (sealF σ ks xs).2 = .agg #[.pointer P] := (val_seal σ ks xs).trans HV.out
      obtain ⟨σ1, hσ⟩ : ∃ s, (sealF σ ks xs).2 = s := ⟨_, rfl⟩
      rw [hσ] at m6 hv6 hop
      have HV6 := Lib.hid hv6
      have M6 := Lib.hid m6
      have HOP := Lib.hid hop
      have HBL := Lib.hid hbl
      have HBB := Lib.hid hbb
      have K6 := Lib.hid (Arr.keep K5.out (d6.block _ (Arr.lt K5.out) fun h => (O5.out _ h).2.1 rfl))
      have S6 := Lib.hid (C.Blk.keep S5.out (d6.block _ S5.out.lt fun h => (O5.out _ h).2.2 rfl))
      have B6 := Lib.hid (B5.out.trans (d6.below B5.out.size fun b _ h => (O5.out b h).1))
      clear hse m6 d6 hra hσ hv6 hbb HS5 K5 S5 B5 O5 HV HR hop hbl
      rcases h6 with ⟨h0, -⟩ | ⟨s6, A6, c6, h0, rfl, q1, q2, q3⟩
      · cases h0
      obtain rfl := Option.some.inj h0
      rw [HBL.out] at q1 ⊢
      have Q3 := Lib.hid q3
      clear h0 q3
      go_wp2_with fail
      obtain ⟨v, hv⟩ : ∃ v, v = w6.drew := ⟨_, rfl⟩
      have hK4 : Arr v 22 g4 ks := by rw [hv]; exact K6.out
      have hBV : Below w.heap.size w v := by rw [hv]; exact B6.out.drew
      have hXV : Byt v ok A xs := HX.out.below hBV HO.out
      have hOV : ∀ b, ok b → b < v.heap.size := fun b hb => Nat.lt_of_lt_of_le (HO.out b hb) hBV.size
      have hSV : C.Blk v gs 27 [.pointer P] := by rw [hv]; exact S6.out
      have hMV : Sm (More ok5 w5 w6) v σ1 := by rw [hv]; exact M6.out.up (below_grown (Below.refl w6.heap.size w6).drew)
      have hQV : Byt v (fun b => b < v.heap.size) A6 bb := by rw [hv]; exact Q3.out
      have hrs := ref_seal (w := v) f
      refine wp_region_held_drew (S := fun W => Arr W 22 g4 ks) (by kernel_rfl) (by rw [← hv]; exact hK4) (fun hHeld => ?_)
      rw [← hv] at hHeld ⊢
      clear hv K6 B6 S6 M6 Q3
      refine' wpAnyH_take (i := 0) (oi := { dst := some 29, op := Op.move (Operand.tmp 0), type := 4, pos := "law.go:84", after := #[], guard := none }) (v := .bool f) rfl (by kernel_rfl) (by kernel_rfl) (by kernel_rfl) (fun _ _ _ h => h) (Or.inl ⟨by rfl, fun _ _ => rfl⟩) (by assumption) ?qz1
      try simp only [Act.put, List.setIfInBounds_toArray, List.set_cons_zero, List.set_cons_succ]
      refine' wpAnyH_take (i := 2) (oi := { dst := some 31, op := Op.load 22 (Operand.tmp 4), type := 22, pos := "law.go:84", after := #[], guard := none }) (v := .agg (u8s ks).toArray) rfl (by kernel_rfl) (by kernel_rfl) (by kernel_rfl) (fun _ _ _ h => h) (yieldsIf_load_ar ar25 (by rfl) _ rfl ⟨g4, 0, none⟩ rfl ks HL.out (fun W hW => arr_cells hW)) (by assumption) ?qz2
      try simp only [Act.put, List.setIfInBounds_toArray, List.set_cons_zero, List.set_cons_succ]
      refine' wpAnyH_take (i := 3) (oi := { dst := some 32, op := Op.move (Operand.tmp 2), type := 23, pos := "law.go:84", after := #[], guard := none }) (v := .slice A n c) rfl (by kernel_rfl) (by kernel_rfl) (by kernel_rfl) (fun _ _ _ h => h) (Or.inl ⟨by rfl, fun _ _ => rfl⟩) (by assumption) ?qz3
      try simp only [Act.put, List.setIfInBounds_toArray, List.set_cons_zero, List.set_cons_succ]
      refine wpAnyH_ready (rs := [1]) (by kernel_rfl) (by simp) ?_
      refine AllReadyH.cons (o := { dst := some 30, op := Op.call { callee := Callee.value (Operand.func 7), args := #[Operand.tmp 29], argTypes := #[4] }, type := 33, pos := "law.go:84", after := #[{ on := 0, ground := Ground.data }], guard := none }) rfl (fun K hK => ?_) AllReadyH.nil
      rw [if_pos (by rfl)]
      go_simp
      with_reducible refine hrs.mono ?_
      rintro _ w7 ⟨P7, rfl, g7, hs7⟩
      refine hK.out _ _ (Arr.grown hHeld g7 (by simp)) (fun hHeld => ?_)
      clear hK K
      try simp only [Act.put, List.setIfInBounds_toArray, List.set_cons_zero, List.set_cons_succ]
      refine wpAnyH_ready (rs := [4]) (by kernel_rfl) (by simp) ?_
      refine AllReadyH.cons (o := { dst := some 33, op := Op.call { callee := Callee.value (Operand.func 8), args := #[Operand.tmp 30, Operand.tmp 31, Operand.tmp 32], argTypes := #[33, 22, 23] }, type := 29, pos := "law.go:84", after := #[{ on := 1, ground := Ground.data }, { on := 2, ground := Ground.data }, { on := 3, ground := Ground.data }, { on := 1, ground := Ground.chain }], guard := none }) rfl (fun K hK => ?_) AllReadyH.nil
      rw [if_pos (by rfl)]
      go_simp
      have hs8 := hs7 ok A ks xs n c HL.out (hXV.grown g7 fun b hb => ⟨hOV b hb, by simp⟩) (fun b hb => Nat.lt_of_lt_of_le (hOV b hb) g7.size) HNX.out hc1 hm1
      with_reducible refine hs8.mono ?_
      rintro e8 w8 ⟨h8, b8⟩
      clear hs8
      rw [HBB.out] at h8
      obtain ⟨A8, c8, rfl, p3⟩ : ∃ A8 c8, e8 = .returned (.tuple #[.slice A8 (sizeL n) c8, .bool true]) ∧ Byt w8 (fun b => b < w8.heap.size) A8 bb := by
        rcases h8 with ⟨h0, -⟩ | ⟨s8, A8, c8, h0, h1, p3⟩
        · cases h0
        · obtain rfl := Option.some.inj h0
          rw [HBL.out] at h1
          exact ⟨A8, c8, h1, p3⟩
      clear h8
      refine hK.out _ _ (Arr.keep hK4 (b8.block _ (Arr.lt hK4))) (fun hHeld => ?_)
      clear hK K
      try simp only [Act.put, List.setIfInBounds_toArray, List.set_cons_zero, List.set_cons_succ]
      refine' wpAnyH_take (i := 5) (oi := { dst := some 28, op := Op.move (Operand.tmp 33), type := 29, pos := "law.go:84", after := #[{ on := 4, ground := Ground.data }], guard := none }) (v := _) rfl (by kernel_rfl) (by kernel_rfl) (by kernel_rfl) (fun _ _ _ h => h) (Or.inl ⟨by rfl, fun _ _ => rfl⟩) (by assumption) ?qz4
      try simp only [Act.put, List.setIfInBounds_toArray, List.set_cons_zero, List.set_cons_succ]
      refine' wpAnyH_take (i := 6) (oi := { dst := some 34, op := Op.extract (Operand.tmp 28) 0, type := 23, pos := "law.go:84", after := #[{ on := 5, ground := Ground.data }], guard := none }) (v := .slice A8 (sizeL n) c8) rfl (by kernel_rfl) (by kernel_rfl) (by kernel_rfl) (fun _ _ _ h => h) (Or.inl ⟨by rfl, fun _ _ => rfl⟩) (by assumption) ?qz5
      try simp only [Act.put, List.setIfInBounds_toArray, List.set_cons_zero, List.set_cons_succ]
      refine' wpAnyH_take (i := 7) (oi := { dst := some 35, op := Op.extract (Operand.tmp 28) 1, type := 4, pos := "law.go:84", after := #[{ on := 5, ground := Ground.data }, { on := 8, ground := Ground.gcOnly Departure.lateStores }], guard := none }) (v := .bool true) rfl (by kernel_rfl) (by kernel_rfl) (by kernel_rfl) (fun _ _ _ h => h) (Or.inl ⟨by rfl, fun _ _ => rfl⟩) (by assumption) ?qz6
      try simp only [Act.put, List.setIfInBounds_toArray, List.set_cons_zero, List.set_cons_succ]
      refine wpAnyH_ready (rs := [8]) (by kernel_rfl) (by simp) ?_
      refine AllReadyH.cons (o := { dst := some 10, op := Op.assign (Operand.tmp 34), type := 23, pos := "law.go:84", after := #[{ on := 6, ground := Ground.data }, { on := 4, ground := Ground.chain }, { on := 0, ground := Ground.phase }, { on := 1, ground := Ground.phase }, { on := 2, ground := Ground.phase }, { on := 3, ground := Ground.phase }, { on := 4, ground := Ground.phase }, { on := 5, ground := Ground.phase }, { on := 6, ground := Ground.phase }, { on := 7, ground := Ground.textOnly Departure.lateStores }], guard := none }) rfl (fun K hK => ?_) AllReadyH.nil
      rw [if_pos (by rfl)]
      go_simp
      refine hK.out _ _ hHeld (fun hHeld => ?_)
      clear hK K
      try simp only [Act.put, List.setIfInBounds_toArray, List.set_cons_zero, List.set_cons_succ]
      refine wpAnyH_ready (rs := [9]) (by kernel_rfl) (by simp) ?_
      refine AllReadyH.cons (o := { dst := some 11, op := Op.assign (Operand.tmp 35), type := 4, pos := "law.go:84", after := #[{ on := 7, ground := Ground.data }, { on := 8, ground := Ground.chain }, { on := 0, ground := Ground.phase }, { on := 1, ground := Ground.phase }, { on := 2, ground := Ground.phase }, { on := 3, ground := Ground.phase }, { on := 4, ground := Ground.phase }, { on := 5, ground := Ground.phase }, { on := 6, ground := Ground.phase }, { on := 7, ground := Ground.phase }, { on := 8, ground := Ground.phase }], guard := none }) rfl (fun K hK => ?_) AllReadyH.nil
      rw [if_pos (by rfl)]
      go_simp
      refine hK.out _ _ hHeld (fun hHeld => ?_)
      clear hK K
      try simp only [Act.put, List.setIfInBounds_toArray, List.set_cons_zero, List.set_cons_succ]
      refine wpAnyH_done (by kernel_rfl) ?_ _
      have K8 := Lib.hid (Arr.keep hK4 (b8.block _ (Arr.lt hK4)))
      have S8 := Lib.hid (C.Blk.keep hSV (b8.block _ hSV.lt))
      have M8 := Lib.hid (hMV.up (below_grown b8))
      have B8 := Lib.hid (hBV.trans (b8.mono hBV.size))
      have X8 := Lib.hid (byt_up hQV (fun _ h => h) b8)
      have hby := bytes_any (c := c6) (d := c8) X8.out p3
      rw [HBL.out, show decide (bb = bb) = true from decide_eq_true rfl] at hby
      clear hrs hs7 g7 b8 hK4 hBV hXV hOV hSV hMV hQV hHeld p3
      go_wp2_with fail
      go_at_call 9
      refine hby.mono ?_
      rintro _ w9 ⟨rfl, rfl⟩
      obtain ⟨w9, hw9⟩ : ∃ W, W = w8 := ⟨_, rfl⟩
      rw [← hw9] at K8 S8 M8 B8 X8 ⊢
      clear hby hw9
      have hsz := siz_any w9 n
      rw [sizeN_len n hn10, show (n / 16 + 2) * 16 = sizeL n from rfl] at hsz
      go_wp2_with fail
      go_at_call 10
      refine hsz.mono ?_
      rintro _ w10 ⟨rfl, g10⟩
      have K10 := Lib.hid (Arr.grown K8.out g10 (by simp))
      have S10 := Lib.hid (S8.out.grown g10 (by simp))
      have M10 := Lib.hid (M8.out.up g10)
      have B10 := Lib.hid (B8.out.trans ((grown_below g10).mono B8.out.size))
      have X10 := Lib.hid (byt_up X8.out (fun _ h => h) (grown_below g10))
      clear hsz g10 K8 S8 M8 B8 X8
      have hcs : w10.cell? ⟨gs, 0, none⟩ = some (.pointer P) := S10.out.get 0 _ rfl
      have hop : Calls Tryz.prog 11 #[.agg #[.pointer P], .agg (u8s ks).toArray, .slice A6 (sizeL n) c6] w10 (OpnE (More ok5 w5 w6) w10 σ1 ks bb) := by
        have h := open_any (c := c6) M10.out HL.out X10.out (fun _ h => h) HBL.out q1 q2 (by unfold sizeL; omega)
        rw [HV6.out] at h
        exact h
      go_wp2_with (refine wpList_load_ar ar25 rfl _ rfl g4 rfl ks K10.out HL.out ?_)
      go_at_call 11
      refine hop.mono ?_
      rintro _ w11 ⟨h11, -, b11⟩
      rw [HOP.out] at h11
      have B11 := Lib.hid (B10.out.trans (b11.mono B10.out.size))
      clear hop hcs b11 K10 S10 M10 B10 X10
      rcases h11 with ⟨h0, -⟩ | ⟨s, A11, c11, h0, rfl, r1, r2, r3⟩
      · cases h0
      obtain rfl := Option.some.inj h0
      have hby := bytes_any (c := c11) (d := c) r3 (byt_up HX.out HO.out B11.out)
      rw [HNX.out, show decide (xs = xs) = true from decide_eq_true rfl] at hby
      rw [HNX.out]
      clear h0 r1 r3
      go_wp2_with fail
      go_at_call 9
      refine hby.mono ?_
      rintro _ w12 ⟨rfl, rfl⟩
      clear hby
      go_wp2
      go_ret
      exact ⟨rfl, below_grown B11.out⟩
    · have hse : Calls Tryz.prog 6 #[.agg #[.pointer P], .agg (u8s ks).toArray, .slice A n c] w5 (SealE ok5 w5 σ ks xs) := by
        have h := seal_any (c := c) HS5.out HL.out (byt_up HX.out HO.out B5.out) (fun _ h => h) HNX.out hc1 hm1
        rw [HV.out] at h
        exact h
      go_at_call 6
      refine hse.mono ?_
      rintro _ w6 ⟨h6, m6, d6⟩
      have hra := HR.out ks xs HL.out
      have hbb : rsealR f ks xs = none := by unfold rsealR; rw [if_neg (by rw [HNX.out]; omega)]
      rw [hbb] at hra
      rw [hra] at h6
      have hv6 : val (sealF σ ks xs).2 = .agg #[.pointer P] := (val_seal σ ks xs).trans HV.out
      obtain ⟨σ1, hσ⟩ : ∃ s, (sealF σ ks xs).2 = s := ⟨_, rfl⟩
      rw [hσ] at m6 hv6
      have HV6 := Lib.hid hv6
      have M6 := Lib.hid m6
      have HBB := Lib.hid hbb
      have K6 := Lib.hid (Arr.keep K5.out (d6.block _ (Arr.lt K5.out) fun h => (O5.out _ h).2.1 rfl))
      have S6 := Lib.hid (C.Blk.keep S5.out (d6.block _ S5.out.lt fun h => (O5.out _ h).2.2 rfl))
      have B6 := Lib.hid (B5.out.trans (d6.below B5.out.size fun b _ h => (O5.out b h).1))
      clear hse m6 d6 hra hσ hv6 hbb HS5 K5 S5 B5 O5 HV HR
      rcases h6 with ⟨-, rfl⟩ | ⟨_, _, _, h0, -⟩
      rotate_left
      · cases h0
      go_wp2_with fail
      obtain ⟨v, hv⟩ : ∃ v, v = w6.drew := ⟨_, rfl⟩
      have hK4 : Arr v 22 g4 ks := by rw [hv]; exact K6.out
      have hBV : Below w.heap.size w v := by rw [hv]; exact B6.out.drew
      have hXV : Byt v ok A xs := HX.out.below hBV HO.out
      have hOV : ∀ b, ok b → b < v.heap.size := fun b hb => Nat.lt_of_lt_of_le (HO.out b hb) hBV.size
      have hSV : C.Blk v gs 27 [.pointer P] := by rw [hv]; exact S6.out
      have hMV : Sm (More ok5 w5 w6) v σ1 := by rw [hv]; exact M6.out.up (below_grown (Below.refl w6.heap.size w6).drew)
      have hrs := ref_seal (w := v) f
      refine wp_region_held_drew (S := fun W => Arr W 22 g4 ks) (by kernel_rfl) (by rw [← hv]; exact hK4) (fun hHeld => ?_)
      rw [← hv] at hHeld ⊢
      clear hv K6 B6 S6 M6
      refine' wpAnyH_take (i := 0) (oi := { dst := some 29, op := Op.move (Operand.tmp 0), type := 4, pos := "law.go:84", after := #[], guard := none }) (v := .bool f) rfl (by kernel_rfl) (by kernel_rfl) (by kernel_rfl) (fun _ _ _ h => h) (Or.inl ⟨by rfl, fun _ _ => rfl⟩) (by assumption) ?qz7
      try simp only [Act.put, List.setIfInBounds_toArray, List.set_cons_zero, List.set_cons_succ]
      refine' wpAnyH_take (i := 2) (oi := { dst := some 31, op := Op.load 22 (Operand.tmp 4), type := 22, pos := "law.go:84", after := #[], guard := none }) (v := .agg (u8s ks).toArray) rfl (by kernel_rfl) (by kernel_rfl) (by kernel_rfl) (fun _ _ _ h => h) (yieldsIf_load_ar ar25 (by rfl) _ rfl ⟨g4, 0, none⟩ rfl ks HL.out (fun W hW => arr_cells hW)) (by assumption) ?qz8
      try simp only [Act.put, List.setIfInBounds_toArray, List.set_cons_zero, List.set_cons_succ]
      refine' wpAnyH_take (i := 3) (oi := { dst := some 32, op := Op.move (Operand.tmp 2), type := 23, pos := "law.go:84", after := #[], guard := none }) (v := .slice A n c) rfl (by kernel_rfl) (by kernel_rfl) (by kernel_rfl) (fun _ _ _ h => h) (Or.inl ⟨by rfl, fun _ _ => rfl⟩) (by assumption) ?qz9
      try simp only [Act.put, List.setIfInBounds_toArray, List.set_cons_zero, List.set_cons_succ]
      refine wpAnyH_ready (rs := [1]) (by kernel_rfl) (by simp) ?_
      refine AllReadyH.cons (o := { dst := some 30, op := Op.call { callee := Callee.value (Operand.func 7), args := #[Operand.tmp 29], argTypes := #[4] }, type := 33, pos := "law.go:84", after := #[{ on := 0, ground := Ground.data }], guard := none }) rfl (fun K hK => ?_) AllReadyH.nil
      rw [if_pos (by rfl)]
      go_simp
      with_reducible refine hrs.mono ?_
      rintro _ w7 ⟨P7, rfl, g7, hs7⟩
      refine hK.out _ _ (Arr.grown hHeld g7 (by simp)) (fun hHeld => ?_)
      clear hK K
      try simp only [Act.put, List.setIfInBounds_toArray, List.set_cons_zero, List.set_cons_succ]
      refine wpAnyH_ready (rs := [4]) (by kernel_rfl) (by simp) ?_
      refine AllReadyH.cons (o := { dst := some 33, op := Op.call { callee := Callee.value (Operand.func 8), args := #[Operand.tmp 30, Operand.tmp 31, Operand.tmp 32], argTypes := #[33, 22, 23] }, type := 29, pos := "law.go:84", after := #[{ on := 1, ground := Ground.data }, { on := 2, ground := Ground.data }, { on := 3, ground := Ground.data }, { on := 1, ground := Ground.chain }], guard := none }) rfl (fun K hK => ?_) AllReadyH.nil
      rw [if_pos (by rfl)]
      go_simp
      have hs8 := hs7 ok A ks xs n c HL.out (hXV.grown g7 fun b hb => ⟨hOV b hb, by simp⟩) (fun b hb => Nat.lt_of_lt_of_le (hOV b hb) g7.size) HNX.out hc1 hm1
      with_reducible refine hs8.mono ?_
      rintro e8 w8 ⟨h8, b8⟩
      clear hs8
      rw [HBB.out] at h8
      obtain rfl : e8 = .returned (.tuple #[.slice none 0 0, .bool false]) := by
        rcases h8 with ⟨-, h1⟩ | ⟨_, _, _, h0, -⟩
        · exact h1
        · cases h0
      clear h8
      refine hK.out _ _ (Arr.keep hK4 (b8.block _ (Arr.lt hK4))) (fun hHeld => ?_)
      clear hK K
      try simp only [Act.put, List.setIfInBounds_toArray, List.set_cons_zero, List.set_cons_succ]
      refine' wpAnyH_take (i := 5) (oi := { dst := some 28, op := Op.move (Operand.tmp 33), type := 29, pos := "law.go:84", after := #[{ on := 4, ground := Ground.data }], guard := none }) (v := _) rfl (by kernel_rfl) (by kernel_rfl) (by kernel_rfl) (fun _ _ _ h => h) (Or.inl ⟨by rfl, fun _ _ => rfl⟩) (by assumption) ?qz10
      try simp only [Act.put, List.setIfInBounds_toArray, List.set_cons_zero, List.set_cons_succ]
      refine' wpAnyH_take (i := 6) (oi := { dst := some 34, op := Op.extract (Operand.tmp 28) 0, type := 23, pos := "law.go:84", after := #[{ on := 5, ground := Ground.data }], guard := none }) (v := .slice none 0 0) rfl (by kernel_rfl) (by kernel_rfl) (by kernel_rfl) (fun _ _ _ h => h) (Or.inl ⟨by rfl, fun _ _ => rfl⟩) (by assumption) ?qz11
      try simp only [Act.put, List.setIfInBounds_toArray, List.set_cons_zero, List.set_cons_succ]
      refine' wpAnyH_take (i := 7) (oi := { dst := some 35, op := Op.extract (Operand.tmp 28) 1, type := 4, pos := "law.go:84", after := #[{ on := 5, ground := Ground.data }, { on := 8, ground := Ground.gcOnly Departure.lateStores }], guard := none }) (v := .bool false) rfl (by kernel_rfl) (by kernel_rfl) (by kernel_rfl) (fun _ _ _ h => h) (Or.inl ⟨by rfl, fun _ _ => rfl⟩) (by assumption) ?qz12
      try simp only [Act.put, List.setIfInBounds_toArray, List.set_cons_zero, List.set_cons_succ]
      refine wpAnyH_ready (rs := [8]) (by kernel_rfl) (by simp) ?_
      refine AllReadyH.cons (o := { dst := some 10, op := Op.assign (Operand.tmp 34), type := 23, pos := "law.go:84", after := #[{ on := 6, ground := Ground.data }, { on := 4, ground := Ground.chain }, { on := 0, ground := Ground.phase }, { on := 1, ground := Ground.phase }, { on := 2, ground := Ground.phase }, { on := 3, ground := Ground.phase }, { on := 4, ground := Ground.phase }, { on := 5, ground := Ground.phase }, { on := 6, ground := Ground.phase }, { on := 7, ground := Ground.textOnly Departure.lateStores }], guard := none }) rfl (fun K hK => ?_) AllReadyH.nil
      rw [if_pos (by rfl)]
      go_simp
      refine hK.out _ _ hHeld (fun hHeld => ?_)
      clear hK K
      try simp only [Act.put, List.setIfInBounds_toArray, List.set_cons_zero, List.set_cons_succ]
      refine wpAnyH_ready (rs := [9]) (by kernel_rfl) (by simp) ?_
      refine AllReadyH.cons (o := { dst := some 11, op := Op.assign (Operand.tmp 35), type := 4, pos := "law.go:84", after := #[{ on := 7, ground := Ground.data }, { on := 8, ground := Ground.chain }, { on := 0, ground := Ground.phase }, { on := 1, ground := Ground.phase }, { on := 2, ground := Ground.phase }, { on := 3, ground := Ground.phase }, { on := 4, ground := Ground.phase }, { on := 5, ground := Ground.phase }, { on := 6, ground := Ground.phase }, { on := 7, ground := Ground.phase }, { on := 8, ground := Ground.phase }], guard := none }) rfl (fun K hK => ?_) AllReadyH.nil
      rw [if_pos (by rfl)]
      go_simp
      refine hK.out _ _ hHeld (fun hHeld => ?_)
      clear hK K
      try simp only [Act.put, List.setIfInBounds_toArray, List.set_cons_zero, List.set_cons_succ]
      refine wpAnyH_done (by kernel_rfl) ?_ _
      have K8 := Lib.hid (Arr.keep hK4 (b8.block _ (Arr.lt hK4)))
      have S8 := Lib.hid (C.Blk.keep hSV (b8.block _ hSV.lt))
      have M8 := Lib.hid (hMV.up (below_grown b8))
      have B8 := Lib.hid (hBV.trans (b8.mono hBV.size))
      have hby := bytes_any (c := 0) (d := 0) (w := w8) (xs := []) (ys := []) (ok := fun _ => True) (ok' := fun _ => True) (A := none) (B := none) Byt.nil Byt.nil
      rw [show decide (([] : List UInt8) = []) = true from rfl, show ([] : List UInt8).length = 0 from rfl] at hby
      clear hrs hs7 g7 b8 hK4 hBV hXV hOV hSV hMV hHeld
      go_wp2_with fail
      go_at_call 9
      refine hby.mono ?_
      rintro _ w9 ⟨rfl, rfl⟩
      obtain ⟨w9, hw9⟩ : ∃ W, W = w8 := ⟨_, rfl⟩
      rw [← hw9] at K8 S8 M8 B8 ⊢
      clear hby hw9
      have hsz := siz_any w9 n
      rw [show sizeN n = 0 from if_pos (.inr (by omega))] at hsz
      go_wp2_with fail
      go_at_call 10
      refine hsz.mono ?_
      rintro _ w10 ⟨rfl, g10⟩
      have K10 := Lib.hid (Arr.grown K8.out g10 (by simp))
      have S10 := Lib.hid (S8.out.grown g10 (by simp))
      have M10 := Lib.hid (M8.out.up g10)
      have B10 := Lib.hid (B8.out.trans ((grown_below g10).mono B8.out.size))
      clear hsz g10 K8 S8 M8 B8
      have hcs : w10.cell? ⟨gs, 0, none⟩ = some (.pointer P) := S10.out.get 0 _ rfl
      have hop : Calls Tryz.prog 11 #[.agg #[.pointer P], .agg (u8s ks).toArray, .slice none 0 0] w10 (OpnE (More ok5 w5 w6) w10 σ1 ks []) := by
        have h := open_any (c := 0) (b := []) (ok := fun _ => False) (A := none) M10.out HL.out Byt.nil (fun _ h => h.elim) rfl (Nat.le_refl _) (Nat.zero_le _) (Nat.zero_le _)
        rw [HV6.out] at h
        exact h
      go_wp2_with (refine wpList_load_ar ar25 rfl _ rfl g4 rfl ks K10.out HL.out ?_)
      go_at_call 11
      refine hop.mono ?_
      rintro _ w11 ⟨h11, -, b11⟩
      rw [open_nil] at h11
      have B11 := Lib.hid (B10.out.trans (b11.mono B10.out.size))
      clear hop hcs b11 K10 S10 M10 B10
      rcases h11 with ⟨-, rfl⟩ | ⟨_, _, _, h0, -⟩
      rotate_left
      · cases h0
      go_wp2
      go_ret
      exact ⟨rfl, below_grown B11.out⟩
  · have d0 : ((5000 : Int) < (n : Int)) = True := by simp; omega
    have d1 : decide ((5000 : Int) < (n : Int)) = true := by simp; omega
    go_wp2
    go_ret
    exact ⟨rfl, G3.out⟩
end Go.Proofs.YtkbffponemihoaaGreatDoor
