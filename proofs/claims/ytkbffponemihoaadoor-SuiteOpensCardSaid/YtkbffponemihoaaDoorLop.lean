/- The law of what is opened, walked through. Conditions: the tables of the hash lie where the program lays them. -/
import Derived.Test.YtkbffponemihoaaDoorV6
namespace Go.Proofs.YtkbffponemihoaaDoor
open Go.RowKit T
/-- A new suite of either kind. -/
def NewSE (w : World) (e : Ending) (w' : World) : Prop := ∃ (P : Option Addr) (σ : Sg) (ok : Nat → Prop), e = .returned (.agg #[.pointer P]) ∧ val σ = .agg #[.pointer P] ∧ Sm ok w' σ ∧ (∀ b, ok b → w.heap.size ≤ b ∧ b < w'.heap.size) ∧ w.grownBy w' none
theorem suite_any {w : World} (hT : S.Tab w) (f : Bool) : Calls Tryd.prog 8 #[.bool f] w (NewSE w) := by
  cases f
  · refine (suite_real w).mono ?_
    rintro e w' ⟨rfl, hg⟩
    exact ⟨none, none, fun _ => False, rfl, rfl, S.Tab.grown hT hg (by simp) (by simp), fun _ h => h.elim, hg⟩
  · refine (suite_free w).mono ?_
    rintro e w' ⟨tb, rfl, ht, hg⟩
    exact ⟨some ⟨tb, 0, none⟩, some (tb, []), fun b => w.heap.size ≤ b ∧ b < w'.heap.size, rfl, rfl, ht, fun _ h => h, hg⟩
/-- What lies there when the loop begins anew. -/
def OpC (w : World) (σ : Sg) (P : Option Addr) (g6 g7 gs : Nat) (ks ks2 : List UInt8) (V : World) : Prop :=
  ∃ ok : Nat → Prop, Sm ok V σ ∧ (∀ b, ok b → w.heap.size ≤ b ∧ b ≠ g6 ∧ b ≠ g7 ∧ b ≠ gs) ∧ Arr V 25 g6 ks ∧ Arr V 25 g7 ks2 ∧ C.Blk V gs 30 [.pointer P] ∧ Below w.heap.size w V
theorem OpC.up {w V V' : World} {σ : Sg} {P : Option Addr} {g6 g7 gs : Nat} {ks ks2 : List UInt8} (h : OpC w σ P g6 g7 gs ks ks2 V) (hg : V.grownBy V' none) : OpC w σ P g6 g7 gs ks ks2 V' := by
  obtain ⟨ok, h1, h2, h3, h4, h5, h6⟩ := h
  exact ⟨ok, h1.up hg, h2, Arr.grown h3 hg (by simp), Arr.grown h4 hg (by simp), h5.grown hg (by simp), h6.trans ((grown_below hg).mono h6.size)⟩
theorem OpC.md {w V V' : World} {σ' : Sg} {ok : Nat → Prop} {P : Option Addr} {g6 g7 gs : Nat} {ks ks2 : List UInt8} (h2 : ∀ b, ok b → w.heap.size ≤ b ∧ b ≠ g6 ∧ b ≠ g7 ∧ b ≠ gs) (h3 : Arr V 25 g6 ks) (h4 : Arr V 25 g7 ks2) (h5 : C.Blk V gs 30 [.pointer P]) (h6 : Below w.heap.size w V) (hs : Sm (More ok V V') V' σ') (hd : Md ok V V') : OpC w σ' P g6 g7 gs ks ks2 V' := by
  refine ⟨More ok V V', hs, fun b hb => ?_, h3.keep (hd.block _ h3.lt fun h => (h2 _ h).2.1 rfl), h4.keep (hd.block _ h4.lt fun h => (h2 _ h).2.2.1 rfl), h5.keep (hd.block _ h5.lt fun h => (h2 _ h).2.2.2 rfl), h6.trans (hd.below h6.size fun b _ h => (h2 b h).1)⟩
  rcases hb with hb | hb
  · exact h2 b hb
  · have := h3.lt; have := h4.lt; have := h5.lt; have := h6.size
    omega
set_option maxRecDepth 100000 in
set_option maxHeartbeats 4000000 in
theorem opens_walk {w : World} {ok : Nat → Prop} {A B : Option Addr} {ks ks2 xs ys : List UInt8} {c d : Nat} (f : Bool) (hk : ks.length = 32) (hk2 : ks2.length = 32) (hx : Byt w ok A xs) (hy : Byt w ok B ys) (hok : ∀ b, ok b → b < w.heap.size) (hc1 : xs.length ≤ c) (hm1 : c ≤ maxLen) (hc2 : ys.length ≤ d) (hm2 : d ≤ maxLen) (hT : S.Tab w) :
    Calls Tryd.prog 4 #[.bool f, .agg (u8s ks).toArray, .agg (u8s ks2).toArray, .slice A xs.length c, .slice B ys.length d] w fun e w' => e = .returned (.bool true) ∧ w.grownBy w' none := by
  obtain ⟨n, hn⟩ : ∃ n, xs.length = n := ⟨_, rfl⟩
  obtain ⟨m, hm⟩ : ∃ m, ys.length = m := ⟨_, rfl⟩
  rw [hn] at hc1 ⊢
  rw [hm] at hc2 ⊢
  have HL := Lib.hid hk
  have HL2 := Lib.hid hk2
  have HX := Lib.hid hx
  have HY := Lib.hid hy
  have HO := Lib.hid hok
  have HT := Lib.hid hT
  have HNX := Lib.hid hn
  have HNM := Lib.hid hm
  clear hk hk2 hx hy hok hT hn hm
  go_enter Tryd.func4, Tryd.ntmps4
  go_wp2_with (refine wpList_box32 i34 rfl _ rfl ks rfl HL.out ?_)
  intro w1 k1 b1 z1
  have K1 : Hid (Arr w1 25 w.heap.size ks) := k1
  have G1 := Lib.hid (below_grown b1)
  clear k1 b1 z1
  obtain ⟨g6, hg6⟩ : ∃ g, g = w.heap.size := ⟨_, rfl⟩
  rw [← hg6] at K1 ⊢
  clear hg6
  go_wp2_with (refine wpList_box32 i34 rfl _ rfl ks2 rfl HL2.out ?_)
  intro w2 k2 b2 z2
  have K2 : Hid (Arr w2 25 w1.heap.size ks2) := k2
  have K12 := Lib.hid (Arr.grown K1.out (below_grown b2) (by simp))
  have G2 := Lib.hid (World.grownBy.trans G1.out (below_grown b2))
  clear k2 b2 z2 K1 G1
  obtain ⟨g7, hg7⟩ : ∃ g, g = w1.heap.size := ⟨_, rfl⟩
  rw [← hg7] at K2 ⊢
  clear hg7
  have hal := alive_any (HT.out.grown G2.out (by simp) (by simp))
  go_wp2_with fail
  go_at_call 6
  refine hal.mono ?_
  rintro _ w3 ⟨rfl, g3⟩
  have K6 := Lib.hid (Arr.grown K12.out g3 (by simp))
  have K7 := Lib.hid (Arr.grown K2.out g3 (by simp))
  have G3 := Lib.hid (World.grownBy.trans G2.out g3)
  clear hal g3 K12 K2 G2
  by_cases hn : n ≤ 1024
  · have d0 : ((1024 : Int) < (n : Int)) = False := by simp; omega
    have d1 : decide ((1024 : Int) < (n : Int)) = false := by simp; omega
    by_cases hm : m ≤ 3000
    · have e0 : ((3000 : Int) < (m : Int)) = False := by simp; omega
      have e1 : decide ((3000 : Int) < (m : Int)) = false := by simp; omega
      have hsu := suite_any (HT.out.grown G3.out (by simp) (by simp)) f
      go_wp2_with fail
      go_at_call 8
      refine hsu.mono ?_
      rintro _ w4 ⟨P, σ, ok4, rfl, hv, m4, o4, g4⟩
      have HV := Lib.hid hv
      have M4 := Lib.hid m4
      have O4 := Lib.hid o4
      have K64 := Lib.hid (Arr.grown K6.out g4 (by simp))
      have K74 := Lib.hid (Arr.grown K7.out g4 (by simp))
      have NN : Hid (g6 < w3.heap.size ∧ g7 < w3.heap.size) := ⟨K6.out.lt, K7.out.lt⟩
      have G4 := Lib.hid (World.grownBy.trans G3.out g4)
      have NW : Hid (w.heap.size ≤ w3.heap.size) := G3.out.size
      clear hsu hv m4 o4 g4 K6 K7 G3
      have ga := World.grownBy_alloc w4 (.cells #[.pointer P] 30) none
      have K6a := Lib.hid (Arr.grown K64.out ga (by simp))
      go_wp2_with (refine wpList_load_ar ar25 rfl _ rfl g6 rfl ks K6a.out HL.out ?_)
      clear K6a
      have hb : C.Blk (w4.alloc (.cells #[.pointer P] 30)) w4.heap.size 30 [.pointer P] := C.Blk.of_alloc w4 _ 30
      obtain ⟨w5, hw5⟩ : ∃ w', w4.alloc (.cells #[.pointer P] 30) = w' := ⟨_, rfl⟩
      rw [hw5] at ga hb ⊢
      have hoc : OpC w σ P g6 g7 w4.heap.size ks ks2 w5 := ⟨ok4, M4.out.up ga, fun b hb => by have := O4.out b hb; have := NN.out; have := NW.out; omega, Arr.grown K64.out ga (by simp), Arr.grown K74.out ga (by simp), hb, (grown_below G4.out).trans ((grown_below ga).mono G4.out.size)⟩
      obtain ⟨gs, hgs⟩ : ∃ g, g = w4.heap.size := ⟨_, rfl⟩
      rw [← hgs] at hoc ⊢
      clear hb ga hw5 hgs M4 O4 K64 K74 NN G4 NW
      obtain ⟨ok5, m5, o5, k65, k75, s5, b5⟩ := hoc
      have hse : Calls Tryd.prog 12 #[.agg #[.pointer P], .agg (u8s ks).toArray, .slice A n c] w5 (SealE ok5 w5 σ ks xs) := by
        have h := seal_any (c := c) m5 HL.out (byt_up HX.out HO.out b5) (fun _ h => h) HNX.out hc1 hm1
        rw [HV.out] at h
        exact h
      have K65 := Lib.hid k65
      have K75 := Lib.hid k75
      have O5 := Lib.hid o5
      have S5 := Lib.hid s5
      have B5 := Lib.hid b5
      clear m5 o5 k65 k75 s5 b5
      go_at_call 12
      refine hse.mono ?_
      rintro e6 w6 ⟨h6, m6, d6⟩
      have OC6 := Lib.hid (OpC.md O5.out K65.out K75.out S5.out B5.out m6 d6)
      have HV6 : Hid (val (sealF σ ks xs).2 = .agg #[.pointer P]) := (val_seal σ ks xs).trans HV.out
      obtain ⟨σ1, hσ⟩ : ∃ s, (sealF σ ks xs).2 = s := ⟨_, rfl⟩
      rw [hσ] at OC6 HV6
      obtain ⟨v6, rfl⟩ : ∃ v, e6 = .returned v := by
        rcases h6 with ⟨-, rfl⟩ | ⟨s, A6, c6, -, rfl, -⟩
        · exact ⟨_, rfl⟩
        · exact ⟨_, rfl⟩
      clear hse h6 m6 d6 hσ K65 K75 O5 S5 B5 HX HV
      have HV := HV6
      clear HV6
      obtain ⟨σ, hσ⟩ : ∃ s, s = σ1 := ⟨_, rfl⟩
      rw [← hσ] at OC6 HV
      clear hσ
      go_wp2
      go_loopw [12] (fun i wr => ∃ k : Nat, k ≤ 2 ∧ i = .int .i64 k ∧ OpC w σ P g6 g7 gs ks ks2 wr) (fun i _ => 2 - (intOf i).toNat)
      case atStart => exact ⟨0, Nat.zero_le _, rfl, OC6.out⟩
      case round =>
        clear OC6
        obtain ⟨k, hk, rfl, hoc⟩ := hrel
        by_cases hlt : k < 2
        · by_cases h1 : k = 1
          · subst h1
            clear hlt hk
            have HOC := Lib.hid hoc
            obtain ⟨okh, -, -, k6, k7, hs0, -⟩ := hoc
            have K6 := Lib.hid k6
            have K7 := Lib.hid k7
            clear k6 k7 hs0
            go_wp2_with (first | (refine wpList_load_ar ar25 rfl _ rfl g6 rfl ks K6.out HL.out ?_) | (refine wpList_alloc_ar ar25 rfl rfl ?_))
            intro w1 k1 g1 z1
            obtain ⟨gq, hgq⟩ : ∃ g, g = wr.heap.size := ⟨_, rfl⟩
            rw [← hgq] at k1 ⊢
            have NQ : Hid (wr.heap.size ≤ gq) := by rw [hgq]; exact Nat.le_refl _
            have KQ := Lib.hid k1
            have G1 := Lib.hid g1
            have K71 := Lib.hid (Arr.grown K7.out g1 (by simp))
            have NE7 : Hid (g7 ≠ gq) := by
              have := K7.out.lt
              show g7 ≠ gq
              rw [hgq]
              omega
            clear k1 g1 z1 hgq K6 K7
            go_wp2_with (refine wpList_store_ar ar25 rfl _ _ rfl gq (zz 32) ks rfl rfl KQ.out (zz_length _) HL.out ?_)
            intro w2 k2 g2 z2
            have KQ2 := Lib.hid k2
            have G2 := Lib.hid (World.grownBy.andThen G1.out g2 (by rintro _ ⟨⟩; exact .inl NQ.out))
            have K72 := Lib.hid (Arr.grown K71.out g2 (by simpa using NE7.out))
            clear k2 g2 z2 KQ G1 K71
            go_wp2_with (first | (refine wpList_load_ar ar25 rfl _ rfl g7 rfl ks2 K72.out HL2.out ?_) | (refine wpList_store_ar ar25 rfl _ _ rfl gq ks ks2 rfl rfl KQ2.out HL.out HL2.out ?_))
            intro w3 k3 g3 z3
            have KK0 := Lib.hid k3
            have GG0 := Lib.hid (World.grownBy.andThen G2.out g3 (by rintro _ ⟨⟩; exact .inl NQ.out))
            clear k3 g3 z3 KQ2 G2 K72 NE7
            have KK := KK0
            have GG := GG0
            clear KK0 GG0
            obtain ⟨kk, hkk⟩ : ∃ x, x = ks2 := ⟨_, rfl⟩
            obtain ⟨W, hW⟩ : ∃ W, W = w3 := ⟨_, rfl⟩
            rw [← hkk] at KK
            rw [← hW] at KK GG ⊢
            have HKL : Hid (kk.length = 32) := by rw [hkk]; exact HL2.out
            clear hkk hW
            have OC2 := Lib.hid (HOC.out.up GG.out)
            clear HOC GG NQ
            have hoc2 := OC2.out
            obtain ⟨ok2, m2, o2, -, -, s2, b2⟩ := hoc2
            have hcs : W.cell? ⟨gs, 0, none⟩ = some (.pointer P) := s2.get 0 _ rfl
            have hop : Calls Tryd.prog 13 #[.agg #[.pointer P], .agg (u8s kk).toArray, .slice B m d] W (OpnE ok2 W σ kk ys) := by
              have h := open_any (c := d) m2 HKL.out (byt_up HY.out HO.out b2) (fun _ h => h) HNM.out hc2 hm2 (by omega)
              rw [HV.out] at h
              exact h
            clear m2 o2 s2 b2
            go_wp2_with (refine wpList_load_ar ar25 rfl _ rfl gq rfl kk KK.out HKL.out ?_)
            go_at_call 13
            refine hop.mono ?_
            rintro _ w4 ⟨h4, m4, b4⟩
            have OC4 := Lib.hid (OC2.out.up (below_grown b4))
            have KK4 := Lib.hid (Arr.keep KK.out (b4.block _ KK.out.lt))
            clear hop hcs m4 b4 OC2 KK
            rcases h4 with ⟨h0, rfl⟩ | ⟨p, A4, c4, h0, rfl, q1, q2, q3⟩
            · clear h0 KK4
              go_wp2
              go_roundw
              case rel => exact ⟨2, by omega, rfl, OC4.out⟩
              case measure => simp [intOf]
            · have hoc4 := OC4.out
              obtain ⟨ok4, m4, o4, k64, k74, s4, b4⟩ := hoc4
              have hcs : w4.cell? ⟨gs, 0, none⟩ = some (.pointer P) := s4.get 0 _ rfl
              have hsf := seal_openF HKL.out m4 h0
              obtain ⟨l, hl⟩ : ∃ l, p.length = l := ⟨_, rfl⟩
              rw [hl] at q1 ⊢
              have hse : Calls Tryd.prog 12 #[.agg #[.pointer P], .agg (u8s kk).toArray, .slice A4 l c4] w4 (SealE ok4 w4 σ kk p) := by
                have h := seal_any (c := c4) m4 HKL.out q3 (fun _ h => h) hl q1 q2
                rw [HV.out] at h
                exact h
              have HSF := Lib.hid hsf
              have O4 := Lib.hid o4
              have K64 := Lib.hid k64
              have K74 := Lib.hid k74
              have S4 := Lib.hid s4
              have B4 := Lib.hid b4
              clear hsf o4 k64 k74 s4 b4 h0 q1 q3 m4 OC4 hl
              go_wp2_with (refine wpList_load_ar ar25 rfl _ rfl gq rfl kk KK4.out HKL.out ?_)
              go_at_call 12
              refine hse.mono ?_
              rintro _ w5 ⟨h5, m5, d5⟩
              rw [HSF.out] at h5 m5
              have OC5 := Lib.hid (OpC.md O4.out K64.out K74.out S4.out B4.out m5 d5)
              clear hse hcs m5 d5 HSF O4 K64 K74 S4 B4 KK4
              rcases h5 with ⟨h0, -⟩ | ⟨s, A5, c5, h0, rfl, p1, p2, p3⟩
              · cases h0
              obtain rfl := Option.some.inj h0
              have hoc5 := OC5.out
              obtain ⟨ok5, -, -, -, -, -, b5⟩ := hoc5
              have hby := bytes_any (c := c5) (d := d) p3 (byt_up HY.out HO.out b5)
              rw [HNM.out] at hby
              rw [HNM.out]
              rw [show decide (ys = ys) = true from decide_eq_true rfl] at hby
              clear h0 p3 p1 b5
              go_wp2_with fail
              go_at_call 14
              refine hby.mono ?_
              rintro _ w6 ⟨rfl, rfl⟩
              clear hby
              go_wp2
              go_roundw
              case rel => exact ⟨2, by omega, rfl, OC5.out⟩
              case measure => simp [intOf]
          · obtain rfl : k = 0 := by omega
            clear h1
            clear hlt hk
            have HOC := Lib.hid hoc
            obtain ⟨okh, -, -, k6, k7, hs0, -⟩ := hoc
            have K6 := Lib.hid k6
            have K7 := Lib.hid k7
            clear k6 k7 hs0
            go_wp2_with (first | (refine wpList_load_ar ar25 rfl _ rfl g6 rfl ks K6.out HL.out ?_) | (refine wpList_alloc_ar ar25 rfl rfl ?_))
            intro w1 k1 g1 z1
            obtain ⟨gq, hgq⟩ : ∃ g, g = wr.heap.size := ⟨_, rfl⟩
            rw [← hgq] at k1 ⊢
            have NQ : Hid (wr.heap.size ≤ gq) := by rw [hgq]; exact Nat.le_refl _
            have KQ := Lib.hid k1
            have G1 := Lib.hid g1
            have K71 := Lib.hid (Arr.grown K7.out g1 (by simp))
            have NE7 : Hid (g7 ≠ gq) := by
              have := K7.out.lt
              show g7 ≠ gq
              rw [hgq]
              omega
            clear k1 g1 z1 hgq K6 K7
            go_wp2_with (refine wpList_store_ar ar25 rfl _ _ rfl gq (zz 32) ks rfl rfl KQ.out (zz_length _) HL.out ?_)
            intro w2 k2 g2 z2
            have KQ2 := Lib.hid k2
            have G2 := Lib.hid (World.grownBy.andThen G1.out g2 (by rintro _ ⟨⟩; exact .inl NQ.out))
            have K72 := Lib.hid (Arr.grown K71.out g2 (by simpa using NE7.out))
            clear k2 g2 z2 KQ G1 K71
            have KK := KQ2
            have GG := G2
            clear KQ2 G2 K72 NE7
            obtain ⟨kk, hkk⟩ : ∃ x, x = ks := ⟨_, rfl⟩
            obtain ⟨W, hW⟩ : ∃ W, W = w2 := ⟨_, rfl⟩
            rw [← hkk] at KK
            rw [← hW] at KK GG ⊢
            have HKL : Hid (kk.length = 32) := by rw [hkk]; exact HL.out
            clear hkk hW
            have OC2 := Lib.hid (HOC.out.up GG.out)
            clear HOC GG NQ
            have hoc2 := OC2.out
            obtain ⟨ok2, m2, o2, -, -, s2, b2⟩ := hoc2
            have hcs : W.cell? ⟨gs, 0, none⟩ = some (.pointer P) := s2.get 0 _ rfl
            have hop : Calls Tryd.prog 13 #[.agg #[.pointer P], .agg (u8s kk).toArray, .slice B m d] W (OpnE ok2 W σ kk ys) := by
              have h := open_any (c := d) m2 HKL.out (byt_up HY.out HO.out b2) (fun _ h => h) HNM.out hc2 hm2 (by omega)
              rw [HV.out] at h
              exact h
            clear m2 o2 s2 b2
            go_wp2_with (refine wpList_load_ar ar25 rfl _ rfl gq rfl kk KK.out HKL.out ?_)
            go_at_call 13
            refine hop.mono ?_
            rintro _ w4 ⟨h4, m4, b4⟩
            have OC4 := Lib.hid (OC2.out.up (below_grown b4))
            have KK4 := Lib.hid (Arr.keep KK.out (b4.block _ KK.out.lt))
            clear hop hcs m4 b4 OC2 KK
            rcases h4 with ⟨h0, rfl⟩ | ⟨p, A4, c4, h0, rfl, q1, q2, q3⟩
            · clear h0 KK4
              go_wp2
              go_roundw
              case rel => exact ⟨1, by omega, rfl, OC4.out⟩
              case measure => simp [intOf]
            · have hoc4 := OC4.out
              obtain ⟨ok4, m4, o4, k64, k74, s4, b4⟩ := hoc4
              have hcs : w4.cell? ⟨gs, 0, none⟩ = some (.pointer P) := s4.get 0 _ rfl
              have hsf := seal_openF HKL.out m4 h0
              obtain ⟨l, hl⟩ : ∃ l, p.length = l := ⟨_, rfl⟩
              rw [hl] at q1 ⊢
              have hse : Calls Tryd.prog 12 #[.agg #[.pointer P], .agg (u8s kk).toArray, .slice A4 l c4] w4 (SealE ok4 w4 σ kk p) := by
                have h := seal_any (c := c4) m4 HKL.out q3 (fun _ h => h) hl q1 q2
                rw [HV.out] at h
                exact h
              have HSF := Lib.hid hsf
              have O4 := Lib.hid o4
              have K64 := Lib.hid k64
              have K74 := Lib.hid k74
              have S4 := Lib.hid s4
              have B4 := Lib.hid b4
              clear hsf o4 k64 k74 s4 b4 h0 q1 q3 m4 OC4 hl
              go_wp2_with (refine wpList_load_ar ar25 rfl _ rfl gq rfl kk KK4.out HKL.out ?_)
              go_at_call 12
              refine hse.mono ?_
              rintro _ w5 ⟨h5, m5, d5⟩
              rw [HSF.out] at h5 m5
              have OC5 := Lib.hid (OpC.md O4.out K64.out K74.out S4.out B4.out m5 d5)
              clear hse hcs m5 d5 HSF O4 K64 K74 S4 B4 KK4
              rcases h5 with ⟨h0, -⟩ | ⟨s, A5, c5, h0, rfl, p1, p2, p3⟩
              · cases h0
              obtain rfl := Option.some.inj h0
              have hoc5 := OC5.out
              obtain ⟨ok5, -, -, -, -, -, b5⟩ := hoc5
              have hby := bytes_any (c := c5) (d := d) p3 (byt_up HY.out HO.out b5)
              rw [HNM.out] at hby
              rw [HNM.out]
              rw [show decide (ys = ys) = true from decide_eq_true rfl] at hby
              clear h0 p3 p1 b5
              go_wp2_with fail
              go_at_call 14
              refine hby.mono ?_
              rintro _ w6 ⟨rfl, rfl⟩
              clear hby
              go_wp2
              go_roundw
              case rel => exact ⟨1, by omega, rfl, OC5.out⟩
              case measure => simp [intOf]
        · obtain rfl : k = 2 := by omega
          clear hlt hk
          obtain ⟨ok9, -, -, -, -, -, b9⟩ := hoc
          have B9 := Lib.hid b9
          clear b9
          go_wp2
          go_ret
          exact ⟨rfl, below_grown B9.out⟩
    · have e0 : ((3000 : Int) < (m : Int)) = True := by simp; omega
      have e1 : decide ((3000 : Int) < (m : Int)) = true := by simp; omega
      go_wp2
      go_ret
      exact ⟨rfl, G3.out⟩
  · have d0 : ((1024 : Int) < (n : Int)) = True := by simp; omega
    have d1 : decide ((1024 : Int) < (n : Int)) = true := by simp; omega
    go_wp2
    go_ret
    exact ⟨rfl, G3.out⟩
end Go.Proofs.YtkbffponemihoaaDoor
