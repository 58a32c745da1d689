/- missiveref17.Skip. Conditions: the list has no more than 900 keys; there is room for 32 more terms. -/
import Derived.Test.YtdnkeaokgkiloaaDoorS2
namespace Go.Proofs.YtdnkeaokgkiloaaDoor
open Go.RowKit T
/-- What the reference's Skip answers. -/
def RSkipE (w : World) (ok okL0 : Nat → Prop) (p : Option Nat) (τ : Sg) (k : List UInt8) (n : Nat) (L : List Kep) (E : Int) (e : Ending) (w' : World) : Prop :=
  ∃ okX okL A c, e = .returned (.tuple #[.agg (rv k n).toArray, .slice A L.length c, .int .i64 E]) ∧ Rrg w w' ok okX p τ ∧ Kps w' okL A L ∧ ∀ b, okL b → okL0 b ∨ (w.heap.size ≤ b ∧ b < w'.heap.size)
/-- The loop's state. -/
def LoR (w4 wr : World) (ok : Nat → Prop) (p : Option Nat) (q g13 : Nat) (r : List UInt8) (GR : GoR) (v : Value) (mi ni : Nat) : Prop :=
  ∃ σi ki Li okX, ORow w4.heap.size wr v mi Li ∧ ki.length = 32 ∧ ni ≤ q ∧ mi + (q - ni) ≤ 16 ∧ Room (58932 - 2 * (q - ni)) σi ∧ goF r (q - ni) σi ki ni Li = GR ∧ Rrg w4 wr ok okX p σi ∧
    (∀ g, v.ownBlock = some g → ¬ okX g ∧ g ≠ g13) ∧ C.Blk wr g13 40 (rv ki ni) ∧ ¬ okX g13 ∧ w4.heap.size ≤ g13
set_option maxRecDepth 100000 in
set_option maxHeartbeats 16000000 in
theorem rskip_any {w : World} {ok okL : Nat → Prop} {p : Option Nat} {σ : Sg} {k r : List UInt8} {n q m c : Nat} {A : Option Addr} {L : List Kep} (h : Rui w ok p σ) (hro : Room 58900 σ) (hk : k.length = 32) (hn : n < 65536) (hq : q < 65536) (hr : r.length = 32) (hL : Kps w okL A L) (hK : KAll L) (hm : L.length = m) (hle : m ≤ 900) (hd : ∀ b, okL b → b < w.heap.size ∧ ¬ ok b) (hw2 : 2 ≤ w.heap.size) :
    Calls Tryd.prog 22 #[tab p, .agg (rv k n).toArray, .agg (u8s r).toArray, .int .u16 (q : Int), .slice A m c] w (RSkipE w ok okL p (skipF r σ k n q L).1 (skipF r σ k n q L).2.1 (skipF r σ k n q L).2.2.1 (skipF r σ k n q L).2.2.2.1 (skipF r σ k n q L).2.2.2.2) := by
  obtain ⟨RR, hRR⟩ : ∃ R, R = skipF r σ k n q L := ⟨_, rfl⟩
  rw [← hRR]
  obtain ⟨GR, hGR⟩ : ∃ R, R = goF r (q - n) σ k n L := ⟨_, rfl⟩
  unfold skipF at hRR
  rw [← hGR] at hRR
  obtain ⟨σr, kr, nr, Lr, er⟩ := RR
  dsimp only
  obtain ⟨pv, hpv⟩ : ∃ v, v = Value.pointer (p.map fun b => (⟨b, 0, none⟩ : Addr)) := ⟨_, rfl⟩
  have htab : tab p = .agg [pv].toArray := by rw [hpv]; rfl
  obtain ⟨z, hz⟩ : ∃ z, z = rv k n := ⟨_, rfl⟩
  obtain ⟨y, hy⟩ : ∃ y, y = u8s r := ⟨_, rfl⟩
  have HRR := Lib.hid hRR
  have HGR := Lib.hid hGR
  have HS := Lib.hid h
  have HRO := Lib.hid hro
  have HK := Lib.hid hk
  have HR := Lib.hid hr
  have HL := Lib.hid hL
  have HKA := Lib.hid hK
  have HM := Lib.hid hm
  have HD := Lib.hid hd
  have HZ := Lib.hid hz
  have HY := Lib.hid hy
  have HTAB := Lib.hid htab
  have HN := Lib.hid hn
  have HQ := Lib.hid hq
  have HLE := Lib.hid hle
  have HW2 := Lib.hid hw2
  rw [htab, ← hz, ← hy]
  clear hRR hGR h hro hk hr hL hK hm hd hz hy htab hpv hw2
  go_enter Tryd.func22, Tryd.ntmps22
  go_wp2_with (first | (refine wpList_boxG rfl _ rfl (vs := [pv]) rfl ?_) | fail)
  intro g5 w1 e5 k5 q5
  go_wp2_with (first | (refine wpList_boxG rfl _ rfl (vs := z) rfl ?_) | fail)
  intro g6 w2 e6 k6 q6
  go_wp2_with (first | (refine wpList_boxG rfl _ rfl (vs := y) rfl ?_) | fail)
  intro g7 w3 e7 k7 q7
  go_wp2_with (first | (refine wpList_allocG zeC rfl rfl ?_) | fail)
  intro g10 w4 e10 k10 q10
  have G4 := Lib.hid (((q5.out.trans q6.out).trans q7.out).trans q10.out)
  have B5 := Lib.hid (((k5.out.grown q6.out (by simp)).grown q7.out (by simp)).grown q10.out (by simp))
  have B6 : Hid (C.Blk w4 g6 40 (rv k n)) := by have hh := (k6.out.grown q7.out (by simp)).grown q10.out (by simp); rw [HZ.out] at hh; exact hh
  have B7 : Hid (C.Blk w4 g7 22 (u8s r)) := by have hh := k7.out.grown q10.out (by simp); rw [HY.out] at hh; exact hh
  have B10 := Lib.hid k10.out
  have NE : Hid (w.heap.size ≤ g5 ∧ g5 < g6 ∧ g6 < g7 ∧ g7 < g10 ∧ g10 < w4.heap.size) := by
    have a1 := e5.out; have a2 := e6.out; have a3 := e7.out; have a4 := e10.out; have b1 := k5.out.lt; have b2 := k6.out.lt; have b3 := k7.out.lt; have b4 := k10.out.lt
    show _ ∧ _
    omega
  have NOK : Hid (∀ g, w.heap.size ≤ g → ¬ ok g) := fun g hg hb => by have := HS.out.lt g hb; omega
  have S4 := Lib.hid (HS.out.grown G4.out)
  have L4 := Lib.hid (HL.out.grown G4.out)
  have hc := blk_n B6.out HK.out
  clear e5 k5 q5 e6 k6 q6 e7 k7 q7 e10 k10 q10
  by_cases h1 : q < n
  · have d1 : (q : Int) < (n : Int) := by omega
    have HEQ : Hid (σr = σ ∧ kr = k ∧ nr = n ∧ Lr = L ∧ er = 180) := by
      have h := HRR.out
      rw [show far n q L.length = 180 by unfold far; rw [if_pos h1], if_pos (by decide)] at h
      exact (by simpa using h : σr = σ ∧ kr = k ∧ nr = n ∧ Lr = L ∧ er = 180)
    clear h1
    go_wp2_with (first | (refine wpList_loadG agC rfl (.tmp 6) rfl g6 rfl B6.out (rv_length HK.out) ?_) | (refine wpList_storeG agC rfl _ _ rfl g10 rfl rfl B10.out (rv_length z32_length) (rv_length HK.out) (rv_one _ _) ?_) | fail)
    intro w5 k5 q5 z5
    go_wp2_with fail
    refine bodyPost_ret (res_css rfl agC rfl rfl rfl k5.out (rv_length HK.out)) rfl ?_
    have R5 := ((Rrg.start0 HS.out).alloc G4.out).store q5.out (NOK.out g10 (by have := NE.out; omega)) (by have := NE.out; omega)
    obtain ⟨e1, e2, e3, e4, e5⟩ := HEQ.out
    refine ⟨ok, okL, A, c, by rw [e2, e3, e4, e5, HM.out]; rfl, by rw [e1]; exact R5, ?_, fun b hb => .inl hb⟩
    rw [e4]
    exact HL.out.keep fun b hb hlt => R5.md.block b hlt (HD.out b hb).2
  · have d1 : ¬ (q : Int) < (n : Int) := by omega
    by_cases h2 : 16 < q - n + m
    · have d2 : (16 : Int) < (q : Int) - (n : Int) + (m : Int) := by omega
      have HEQ : Hid (σr = σ ∧ kr = k ∧ nr = n ∧ Lr = L ∧ er = 181) := by
        have h := HRR.out
        rw [show far n q L.length = 181 by unfold far; rw [if_neg h1, if_pos (by rw [HM.out]; exact h2)], if_pos (by decide)] at h
        exact (by simpa using h : σr = σ ∧ kr = k ∧ nr = n ∧ Lr = L ∧ er = 181)
      clear h1 h2
      go_wp2_with (first | (refine wpList_loadG agC rfl (.tmp 6) rfl g6 rfl B6.out (rv_length HK.out) ?_) | (refine wpList_storeG agC rfl _ _ rfl g10 rfl rfl B10.out (rv_length z32_length) (rv_length HK.out) (rv_one _ _) ?_) | fail)
      intro w5 k5 q5 z5
      go_wp2_with fail
      refine bodyPost_ret (res_css rfl agC rfl rfl rfl k5.out (rv_length HK.out)) rfl ?_
      have R5 := ((Rrg.start0 HS.out).alloc G4.out).store q5.out (NOK.out g10 (by have := NE.out; omega)) (by have := NE.out; omega)
      obtain ⟨e1, e2, e3, e4, e5⟩ := HEQ.out
      refine ⟨ok, okL, A, c, by rw [e2, e3, e4, e5, HM.out]; rfl, by rw [e1]; exact R5, ?_, fun b hb => .inl hb⟩
      rw [e4]
      exact HL.out.keep fun b hb hlt => R5.md.block b hlt (HD.out b hb).2
    · have d2 : ¬ (16 : Int) < (q : Int) - (n : Int) + (m : Int) := by omega
      have FAR : Hid (n ≤ q ∧ m + (q - n) ≤ 16) := by show _ ∧ _; omega
      have HRR2 : Hid ((σr, kr, nr, Lr, er) = if GR.2.2.2.2 = 0 then GR else (GR.1, k, n, L, GR.2.2.2.2)) := by
        have h := HRR.out
        rw [show far n q L.length = 0 by unfold far; rw [if_neg h1, if_neg (by rw [HM.out]; exact h2)], if_neg (by simp)] at h
        exact h
      have R0 : Hid (ORow w4.heap.size w4 (.slice none 0 0) 0 []) := ORow.nil _ _
      have MLE : Hid (m ≤ 1000) := by have := HLE.out; show m ≤ 1000; omega
      have MZ : 0 + m = m := Nat.zero_add m
      clear h1 h2 HRR
      go_wp2_with (first | (refine wpList_loadG agC rfl (.tmp 6) rfl g6 rfl B6.out (rv_length HK.out) ?_) | (refine wpList_allocG zeC rfl rfl ?_) | fail)
      intro g13 w5 e13 k13 q13
      go_wp2_with (first | (refine wpList_storeG agC rfl _ _ rfl g13 rfl rfl k13.out (rv_length z32_length) (rv_length HK.out) (rv_one _ _) ?_) | fail)
      intro w6 k13b q13b z13
      have G6 : Hid (w4.grownBy w6 none) := World.grownBy.andThen q13.out q13b.out (by rintro _ ⟨⟩; exact .inl (by rw [e13.out]; exact Nat.le_refl _))
      have R6 : Hid (ORow w4.heap.size w6 (.slice none 0 0) 0 []) := ORow.nil _ _
      have L6 := Lib.hid (L4.out.grown G6.out)
      have Z6 : Hid (w4.heap.size ≤ w6.heap.size) := G6.out.size
      go_wp2_with (first | (at_builtin; refine wpList_appO rfl (.tmp 37) (.tmp 38) rfl (v := .slice none 0 0) (c2 := c) (k := m) rfl rfl R6.out HKA.out L6.out HM.out MZ MLE.out Z6.out ?_) | fail)
      intro A7 c7 w7 r7 g7x o7
      have G7 : Hid (w6.grownBy w7 none) := g7x.out
      have BL13 := Lib.hid (k13b.out.grown G7.out (by simp))
      have W13 : Hid (w4.heap.size ≤ g13 ∧ g13 < w6.heap.size) := by have := e13.out; have := k13b.out.lt; show _ ∧ _; omega
      have LS : Hid (LoR w4 w7 ok p q g13 r GR (.slice A7 m c7) m n) := by
        refine ⟨σ, k, L, ok, r7.out, HK.out, FAR.out.1, FAR.out.2, HRO.out.mono (by have := FAR.out.2; omega), HGR.out.symm, ((Rrg.start0 S4.out).alloc G6.out).alloc G7.out, fun g hg => ?_, BL13.out, fun hb => by have := S4.out.lt g13 hb; have := W13.out.1; omega, W13.out.1⟩
        rcases o7.out with h | h
        · rw [hg] at h
          exact absurd h (by simp [Value.ownBlock])
        · rw [hg] at h
          have h' : g = w6.heap.size := Option.some.inj h
          refine ⟨fun hb => ?_, by have := W13.out.2; omega⟩
          have := S4.out.lt g hb
          have := Z6.out
          omega
      have NQ := Lib.hid FAR.out.1
      clear e13 k13 q13 k13b q13b z13 r7 g7x o7 BL13 R0 R6 L6 hc
      go_wp2_with fail
      go_loopg [14] (q - n) (fun G v wr => ∃ (A : Option Addr) (mi c ni : Nat), v = .slice A mi c ∧ ni ≤ q ∧ q - ni ≤ G ∧ Hid (LoR w4 wr ok p q g13 r GR (.slice A mi c) mi ni))
      case atStart => exact ⟨A7, m, c7, n, rfl, NQ.out, Nat.le_refl _, LS.out⟩
      case round =>
        obtain ⟨Ai, mi, ci, ni, rfl, hnq, hgk, hls⟩ := hrel
        obtain ⟨σi, ki, Li, okX, l1, l3, l4, l5, l6, l7, l8, l10, l11, l12, l13⟩ := hls.out
        have HGK := Lib.hid hgk
        have Q1 := Lib.hid l1
        have Q3 := Lib.hid l3
        have Q5 := Lib.hid l5
        have Q6 := Lib.hid l6
        have Q7 := Lib.hid l7
        have Q8 := Lib.hid l8
        have Q10 := Lib.hid l10
        have Q11 := Lib.hid l11
        have Q12 := Lib.hid l12
        have Q13 := Lib.hid l13
        have hcn := blk_n l11 l3
        have B5r := Lib.hid (l8.blk B5.out (NOK.out g5 (by have := NE.out; omega)))
        have B6r := Lib.hid (l8.blk B6.out (NOK.out g6 (by have := NE.out; omega)))
        have B7r := Lib.hid (l8.blk B7.out (NOK.out g7 (by have := NE.out; omega)))
        have B10r := Lib.hid (l8.blk B10.out (NOK.out g10 (by have := NE.out; omega)))
        clear hls LS hgk l1 l3 l4 l5 l6 l7 l8 l10 l11 l12 l13
        by_cases hlt : ni < q
        · have d3 : (ni : Int) < (q : Int) := by omega
          have HLT := Lib.hid hlt
          have N65 : Hid (ni < 65535) := by have := HQ.out; show ni < 65535; omega
          obtain ⟨x, hx⟩ : ∃ x, x = nextL σi ki := ⟨_, rfl⟩
          obtain ⟨b2, hb2⟩ : ∃ b, b = nextK σi ki := ⟨_, rfl⟩
          obtain ⟨σ2, h2⟩ : ∃ s, s = nextS σi ki := ⟨_, rfl⟩
          have hbl2 : b2.length = 32 := by rw [hb2]; exact nextK_length _ _
          have hxl : x.length = 32 := by rw [hx]; exact nextL_length _ _
          have MN := Lib.hid (rnext_yes Q8.out.sui (Q6.out.mono (by omega)) Q3.out N65.out (Nat.le_trans HW2.out (Nat.le_trans G4.out.size Q8.out.md.size)))
          rw [HTAB.out, ← hx, ← hb2, ← h2] at MN
          obtain ⟨pl, hpl⟩ : ∃ l, l = plc Li r ni := ⟨_, rfl⟩
          have HX := Lib.hid hx
          have HB2 := Lib.hid hb2
          have H2 := Lib.hid h2
          have HBL2 := Lib.hid hbl2
          have HXL := Lib.hid hxl
          have HPL := Lib.hid hpl
          have OWN := Lib.hid Q1.out.2.lt
          obtain ⟨A0, c0, e0, k1, k2, k3⟩ := Q1.out.krow.kps
          cases e0
          have KP := Lib.hid k3
          clear hx hb2 h2 hbl2 hxl hpl hlt k1 k2 k3
          go_wp2_with (first | (refine wpList_loadG agR rfl (.tmp 5) rfl g5 rfl B5r.out rfl ?_) | (refine wpList_loadG agC rfl (.tmp 13) rfl g13 rfl Q11.out (rv_length Q3.out) ?_) | (go_at_call 15; refine MN.out.mono ?_; rintro _ w8 ⟨rfl, hn8⟩; have N8 := Lib.hid hn8; clear hn8) | (refine wpList_allocG zeC rfl rfl ?_) | fail)
          intro g15 w9 e15 k15 q15
          go_wp2_with (first | (refine wpList_allocG zeA rfl rfl ?_) | fail)
          intro g16 w10 e16 k16 q16
          have B15a := Lib.hid (k15.out.grown q16.out (by simp))
          go_wp2_with (first | (refine wpList_storeG agC rfl _ _ rfl g15 rfl rfl B15a.out (rv_length z32_length) (rv_length HBL2.out) (rv_one _ _) ?_) | fail)
          intro w11 k15b q15b z15
          have NE15 : Hid (w8.heap.size ≤ g15 ∧ g15 < g16 ∧ wr.heap.size ≤ w8.heap.size) := by have a1 := e15.out; have a2 := e16.out; have a3 := k15.out.lt; have a4 := N8.out.2.size; show _ ∧ _; omega
          have B16a := Lib.hid (k16.out.grown q15b.out (by have := NE15.out; simp; omega))
          go_wp2_with (first | (refine wpList_storeG agA rfl _ _ rfl g16 rfl rfl B16a.out (by rw [u8s_length, z32_length]) (by rw [u8s_length, HXL.out]) (u8s_one _) ?_) | fail)
          intro w12 k16b q16b z16
          have R8 := Lib.hid (Q8.out.call N8.out)
          have NX : ∀ g, w8.heap.size ≤ g → ¬ More okX wr w8 g := fun g hg => R8.out.not_new hg
          have W8 : Hid (w4.heap.size ≤ w8.heap.size) := R8.out.md.size
          have R12 := Lib.hid ((((R8.out.alloc q15.out).alloc q16.out).store q15b.out (NX g15 NE15.out.1) (by have := W8.out; have := NE15.out; omega)).store q16b.out (NX g16 (by have := NE15.out; omega)) (by have := W8.out; have := NE15.out; omega))
          have BLK : ∀ g t vs, C.Blk wr g t vs → ¬ okX g → C.Blk w12 g t vs := fun g t vs hb hn => by
            refine hb.keep ?_
            have h0 := hb.lt
            have h3 := NE15.out
            have a1 := N8.out.2.block g h0 hn
            have a2 := q15.out.block g (by omega) (by simp)
            have a3 := q16.out.block g (Nat.lt_of_lt_of_le (by omega) q15.out.size) (by simp)
            have a4 := q15b.out.block g (Nat.lt_of_lt_of_le (Nat.lt_of_lt_of_le (by omega) q15.out.size) q16.out.size) (fun e => by have e' : g = g15 := Option.some.inj e; omega)
            have a5 := q16b.out.block g (Nat.lt_of_lt_of_le (Nat.lt_of_lt_of_le (Nat.lt_of_lt_of_le (by omega) q15.out.size) q16.out.size) q15b.out.size) (fun e => by have e' : g = g16 := Option.some.inj e; omega)
            exact a5.trans (a4.trans (a3.trans (a2.trans a1)))
          have HPS : ∀ g, g < wr.heap.size → ¬ okX g → w12.heap[g]? = wr.heap[g]? := fun g h0 hn => by
            have h3 := NE15.out
            have a1 := N8.out.2.block g h0 hn
            have a2 := q15.out.block g (by omega) (by simp)
            have a3 := q16.out.block g (Nat.lt_of_lt_of_le (by omega) q15.out.size) (by simp)
            have a4 := q15b.out.block g (Nat.lt_of_lt_of_le (Nat.lt_of_lt_of_le (by omega) q15.out.size) q16.out.size) (fun e => by have e' : g = g15 := Option.some.inj e; omega)
            have a5 := q16b.out.block g (Nat.lt_of_lt_of_le (Nat.lt_of_lt_of_le (Nat.lt_of_lt_of_le (by omega) q15.out.size) q16.out.size) q15b.out.size) (fun e => by have e' : g = g16 := Option.some.inj e; omega)
            exact a5.trans (a4.trans (a3.trans (a2.trans a1)))
          have B13s := Lib.hid (BLK g13 _ _ Q11.out Q12.out)
          have NX13 : Hid (¬ More okX wr w8 g13) := More.not Q12.out Q11.out.lt
          have B6s := Lib.hid (R12.out.blk B6.out (NOK.out g6 (by have := NE.out; omega)))
          have B7s := Lib.hid (R12.out.blk B7.out (NOK.out g7 (by have := NE.out; omega)))
          have B10s := Lib.hid (R12.out.blk B10.out (NOK.out g10 (by have := NE.out; omega)))
          have B15 := Lib.hid (k15b.out.grown q16b.out (by have := NE15.out; simp; omega))
          have B16 := Lib.hid k16b.out
          have O12 := Lib.hid (Q1.out.keep (w' := w12) fun g hg => HPS g (OWN.out g hg).2 (Q10.out g hg).1)
          have ON12 : Hid (∀ g, (Value.slice Ai mi ci).ownBlock = some g → ¬ More okX wr w8 g ∧ g ≠ g13 ∧ g ≠ g15 ∧ g < w12.heap.size) := fun g hg => ⟨More.not (Q10.out g hg).1 (OWN.out g hg).2, (Q10.out g hg).2, by have := (OWN.out g hg).2; have := NE15.out; omega, (O12.out.2.lt g hg).2⟩
          obtain ⟨A1, c1, e1, k1, k2, k3⟩ := O12.out.krow.kps
          cases e1
          have KP12 := Lib.hid k3
          have hc2 := blk_n B13s.out Q3.out
          have MA := Lib.hid (at_any (n := ni) (c := ci) KP12.out Q1.out.1.1 Q1.out.1.2 (by have := Q5.out; omega) HR.out)
          rw [← HPL.out] at MA
          have NE16 : Hid (g13 ≠ g15 ∧ g10 ≠ g13) := by have := Q11.out.lt; have := NE15.out; have := NE.out; have := Q13.out; show _ ∧ _; omega
          clear BLK HPS NX e15 k15 q15 e16 k16 q16 k15b q15b z15 k16b q16b z16 B15a B16a k1 k2 k3 hcn
          by_cases hp0 : 0 ≤ pl
          · have d4 : (0 : Int) ≤ pl := hp0
            have HEQ : Hid (σr = σ2 ∧ kr = k ∧ nr = n ∧ Lr = L ∧ er = 3) := by
              have h7 := Q7.out
              have hlt := HLT.out
              have hke : keepE Li (r, ni, nextL σi ki) = 3 := by unfold keepE; dsimp only; rw [← HPL.out, if_pos hp0]
              rw [show q - ni = (q - (ni + 1)) + 1 by omega] at h7
              unfold goF at h7
              rw [if_neg (by rw [hke]; simp), ← H2.out, hke] at h7
              have h := HRR2.out
              rw [← h7] at h
              dsimp only at h
              rw [if_neg (by simp)] at h
              exact (by simpa using h : σr = σ2 ∧ kr = k ∧ nr = n ∧ Lr = L ∧ er = 3)
            have HNB : Hid (¬ More okX wr w8 g10) := R12.out.not_old B10.out.lt (NOK.out g10 (by have := NE.out; omega))
            clear hp0
            go_wp2_with (first | (refine wpList_loadG agA rfl (.tmp 7) rfl g7 rfl B7s.out (by rw [u8s_length, HR.out]) ?_) | (go_at_call 17; refine MA.out.mono ?_; rintro _ w13 ⟨rfl, hg13⟩; have G13 := Lib.hid hg13; clear hg13; have B6t := Lib.hid (B6s.out.grown G13.out (by simp)); have B10t := Lib.hid (B10s.out.grown G13.out (by simp))) | (refine wpList_loadG agC rfl (.tmp 6) rfl g6 rfl B6t.out (rv_length HK.out) ?_) | (refine wpList_storeG agC rfl _ _ rfl g10 rfl rfl B10t.out (rv_length z32_length) (rv_length HK.out) (rv_one _ _) ?_) | fail)
            intro w14 k14 q14 z14
            go_wp2_with fail
            refine bodyPost_ret (res_css rfl agC rfl rfl rfl k14.out (rv_length HK.out)) rfl ?_
            have R14 := ((R12.out.alloc G13.out).base G4.out).store q14.out HNB.out (by have := NE.out; omega)
            obtain ⟨e1, e2, e3, e4, e5⟩ := HEQ.out
            refine ⟨_, okL, A, c, by rw [e2, e3, e4, e5, HM.out]; rfl, by rw [e1]; exact R14, ?_, fun b hb => .inl hb⟩
            rw [e4]
            exact HL.out.keep fun b hb hlt => R14.md.block b hlt (HD.out b hb).2
          · have d4 : ¬ (0 : Int) ≤ pl := hp0
            have hke : keepE Li (r, ni, nextL σi ki) = 0 := by unfold keepE; dsimp only; rw [← HPL.out, if_neg hp0, if_neg (by rw [Q1.out.1.2]; have := Q5.out; have := HLT.out; omega)]
            have HKE := Lib.hid hke
            have KX : Hid (KOk (r, ni, x)) := ⟨HR.out, by have := HQ.out; have := HLT.out; show ni < 65536; omega, HXL.out⟩
            clear hp0 hke
            go_wp2_with (first | (refine wpList_loadG agA rfl (.tmp 7) rfl g7 rfl B7s.out (by rw [u8s_length, HR.out]) ?_) | (go_at_call 17; refine MA.out.mono ?_; rintro _ w13 ⟨rfl, hg13⟩; have G13 := Lib.hid hg13; clear hg13; have B7t := Lib.hid (B7s.out.grown G13.out (by simp)); have B16t := Lib.hid (B16.out.grown G13.out (by simp)); have B13t := Lib.hid (B13s.out.grown G13.out (by simp)); have hc3 := blk_n B13t.out Q3.out) | (refine wpList_loadG agA rfl (.tmp 7) rfl g7 rfl B7t.out (by rw [u8s_length, HR.out]) ?_) | (refine wpList_loadG agA rfl (.tmp 16) rfl g16 rfl B16t.out (by rw [u8s_length, HXL.out]) ?_) | (refine wpList_buildK rfl (.tmp 65) (.tmp 67) (.tmp 68) rfl ni HR.out HXL.out rfl rfl rfl ?_) | (refine wpList_sliceK rfl (.tmp 69) rfl KX.out rfl ?_) | fail)
            intro gs w14 hgs hks hg14
            have G14 := Lib.hid (G13.out.trans hg14.out)
            have O14 := Lib.hid (O12.out.keep (w' := w14) fun g hg => G14.out.block g (O12.out.2.lt g hg).2 (by simp))
            have MI : Hid (mi + 1 ≤ 1000) := by have := Q5.out; show mi + 1 ≤ 1000; omega
            have Z14 : Hid (w4.heap.size ≤ w14.heap.size) := Nat.le_trans R12.out.md.size G14.out.size
            go_wp2_with (first | (at_builtin; refine wpList_appO rfl (.tmp 64) (.tmp 70) rfl (v := .slice Ai mi ci) (c2 := 1) (k := mi + 1) rfl rfl O14.out (KAll.one KX.out) hks.out rfl rfl MI.out Z14.out ?_) | fail)
            intro A15 c15 w15 r15 g15x o15
            have B15t := B15.out.grown G14.out (by simp)
            have B13u := B13s.out.grown G14.out (by simp)
            have B15u := Lib.hid (B15t.grown g15x.out (fun e => (ON12.out g15 e.symm).2.2.1 rfl))
            have B13v := Lib.hid (B13u.grown g15x.out (fun e => (ON12.out g13 e.symm).2.1 rfl))
            have R15 : Hid (Rrg w4 w15 ok (More okX wr w8) p σ2) := by
              have hR := R12.out.alloc G14.out
              cases ho : (Value.slice Ai mi ci).ownBlock with
              | none => have h := g15x.out; rw [ho] at h; exact hR.alloc h
              | some g => have h := g15x.out; rw [ho] at h; exact hR.store h (ON12.out g ho).1 (OWN.out g ho).1
            have O15 := Lib.hid r15.out
            have ON15 : Hid (∀ g, (Value.slice A15 (mi + 1) c15).ownBlock = some g → ¬ More okX wr w8 g ∧ g ≠ g13) := fun g hg => by
              rcases o15.out with h | h
              · rw [hg] at h
                exact ⟨(ON12.out g h.symm).1, (ON12.out g h.symm).2.1⟩
              · rw [hg] at h
                have h' : g = w14.heap.size := Option.some.inj h
                refine ⟨fun hb => ?_, ?_⟩
                · have := (R12.out.alloc G14.out).sui.lt g hb
                  omega
                · have := B13u.lt
                  omega
            clear hgs hks hg14 r15 g15x o15 B15t B13u
            go_wp2_with (first | (refine wpList_loadG agC rfl (.tmp 15) rfl g15 rfl B15u.out (rv_length HBL2.out) ?_) | (refine wpList_storeG agC rfl _ _ rfl g13 rfl rfl B13v.out (rv_length Q3.out) (rv_length HBL2.out) (rv_one _ _) ?_) | fail)
            intro w16 k16 q16 z16
            have LS9 : Hid (LoR w4 w16 ok p q g13 r GR (.slice A15 (mi + 1) c15) (mi + 1) (ni + 1)) := by
              refine ⟨σ2, b2, Li ++ [(r, ni, x)], More okX wr w8, O15.out.keep fun g hg => q16.out.block g (O15.out.2.lt g hg).2 (fun e => (ON15.out g hg).2 (Option.some.inj e)), HBL2.out, HLT.out, by have := Q5.out; have := HLT.out; omega, ?_, ?_, R15.out.store q16.out NX13.out Q13.out, ON15.out, k16.out, NX13.out, Q13.out⟩
              · rw [H2.out]
                exact (Q6.out.next Q3.out (by omega)).mono (by have := Q5.out; have := HLT.out; omega)
              · have h7 := Q7.out
                have hlt := HLT.out
                rw [show q - ni = (q - (ni + 1)) + 1 by omega] at h7
                unfold goF at h7
                rw [if_pos HKE.out, ← H2.out, ← HB2.out, ← HX.out] at h7
                exact h7
            clear k16 q16 z16
            go_wp2_with fail
            go_roundg (q - (ni + 1))
            case measure => have := HGK.out; have := HLT.out; omega
            case rel => exact ⟨A15, mi + 1, c15, ni + 1, rfl, HLT.out, Nat.le_refl _, LS9.out⟩
        · have d3 : ¬ (ni : Int) < (q : Int) := by omega
          have HEQ : Hid (σr = σi ∧ kr = ki ∧ nr = ni ∧ Lr = Li ∧ er = 0) := by
            have h7 := Q7.out
            rw [show q - ni = 0 by omega] at h7
            unfold goF at h7
            have h := HRR2.out
            rw [← h7] at h
            dsimp only at h
            rw [if_pos rfl] at h
            exact (by simpa using h : σr = σi ∧ kr = ki ∧ nr = ni ∧ Lr = Li ∧ er = 0)
          have HNB : Hid (¬ okX g10) := Q8.out.not_old B10.out.lt (NOK.out g10 (by have := NE.out; omega))
          clear hlt
          go_wp2_with (first | (refine wpList_loadG agC rfl (.tmp 13) rfl g13 rfl Q11.out (rv_length Q3.out) ?_) | (refine wpList_storeG agC rfl _ _ rfl g10 rfl rfl B10r.out (rv_length z32_length) (rv_length Q3.out) (rv_one _ _) ?_) | fail)
          intro w8 k8 q8 z8
          go_wp2_with fail
          refine bodyPost_ret (res_css rfl agC rfl rfl rfl k8.out (rv_length Q3.out)) rfl ?_
          have R8 := (Q8.out.base G4.out).store q8.out HNB.out (by have := NE.out; omega)
          obtain ⟨e1, e2, e3, e4, e5⟩ := HEQ.out
          obtain ⟨A0, c0, e0, k1, k2, k3⟩ := Q1.out.krow.kps
          cases e0
          refine ⟨okX, fun b => w4.heap.size ≤ b ∧ b < wr.heap.size, Ai, ci, by rw [e2, e3, e4, e5, Q1.out.1.2]; rfl, by rw [e1]; exact R8, ?_, fun b hb => .inr ⟨Nat.le_trans G4.out.size hb.1, Nat.lt_of_lt_of_le hb.2 q8.out.size⟩⟩
          rw [e4]
          refine k3.keep fun b hb hlt => q8.out.block b hlt ?_
          rintro ⟨⟩
          have := hb.1
          have := B10.out.lt
          omega
end Go.Proofs.YtdnkeaokgkiloaaDoor
