/- ChainNexts' walk: each next key of a row is the document's. Conditions: the tables of the hash lie where the program lays them. -/
import Derived.Test.YtdnkeaokgkiloaaDoorT2
import Derived.Deep.LoopGhost
namespace Go.Proofs.YtdnkeaokgkiloaaDoor
open Go.RowKit T
theorem next_end {w : World} {ok : Nat → Prop} {p : Option Nat} {σ : Sg} {k : List UInt8} {n : Nat} (h : Sui w ok p σ) (hr : Room 59900 σ) (hk : k.length = 32) (hn : n = 65535) :
    Calls Tryd.prog 14 #[tab p, .agg (rv k n).toArray] w fun e w' => e = .returned (.tuple #[.agg (rv z32 0).toArray, .agg (u8s z32).toArray, .int .i64 7]) ∧ w.grownBy w' none :=
  (next_any h hr hk (by omega)).mono fun e w' he => by
    rcases he with ⟨_, h2⟩ | ⟨h1, _⟩
    · exact h2
    · omega
theorem rnext_end {w : World} {ok : Nat → Prop} {p : Option Nat} {σ : Sg} {k : List UInt8} {n : Nat} (h : Rui w ok p σ) (hr : Room 59900 σ) (hk : k.length = 32) (hn : n = 65535) (hw2 : 2 ≤ w.heap.size) :
    Calls Tryd.prog 15 #[tab p, .agg (rv k n).toArray] w fun e w' => e = .returned (.tuple #[.agg (rv z32 0).toArray, .agg (u8s z32).toArray, .int .i64 7]) ∧ w.grownBy w' none :=
  (rnext_any h hr hk (by omega) hw2).mono fun e w' he => by
    rcases he with ⟨_, h2⟩ | ⟨h1, _⟩
    · exact h2
    · omega
/-- A suite of the code and one of the reference beside each other; the blocks K are neither's. -/
structure Duo (w0 w : World) (K : List Nat) (p : Option Nat) (σ : Sg) (p2 : Option Nat) (τ : Sg) (ok1 ok2 : Nat → Prop) : Prop where
  s : Sui w ok1 p σ
  r : Rui w ok2 p2 τ
  dis : ∀ b, ok1 b → ¬ ok2 b
  k : ∀ b ∈ K, b < w.heap.size ∧ ¬ ok1 b ∧ ¬ ok2 b ∧ w0.heap.size ≤ b
  new : ∀ b, ok1 b ∨ ok2 b → w0.heap.size ≤ b
  g : w0.grownBy w none
  two : 2 ≤ w0.heap.size
section
variable {w0 w w' : World} {K K' : List Nat} {p p2 : Option Nat} {σ τ σ' τ' : Sg} {ok1 ok2 : Nat → Prop} {b : Nat}
theorem Duo.less (h : Duo w0 w K p σ p2 τ ok1 ok2) (hk : ∀ b ∈ K', b ∈ K) : Duo w0 w K' p σ p2 τ ok1 ok2 := ⟨h.s, h.r, h.dis, fun b hb => h.k b (hk b hb), h.new, h.g, h.two⟩
theorem Duo.alloc (h : Duo w0 w K p σ p2 τ ok1 ok2) (hg : w.grownBy w' none) : Duo w0 w' K p σ p2 τ ok1 ok2 :=
  ⟨h.s.grown hg, h.r.grown hg, h.dis, fun b hb => ⟨Nat.lt_of_lt_of_le (h.k b hb).1 hg.size, (h.k b hb).2⟩, h.new, h.g.trans hg, h.two⟩
theorem Duo.box (h : Duo w0 w K p σ p2 τ ok1 ok2) (hg : w.grownBy w' none) (hb : b = w.heap.size) (hl : b < w'.heap.size) : Duo w0 w' (b :: K) p σ p2 τ ok1 ok2 := by
  refine ⟨h.s.grown hg, h.r.grown hg, h.dis, fun x hx => ?_, h.new, h.g.trans hg, h.two⟩
  rcases List.mem_cons.1 hx with rfl | hx
  · exact ⟨hl, fun e => by have := h.s.lt _ e; omega, fun e => by have := h.r.lt _ e; omega, by rw [hb]; exact h.g.size⟩
  · exact ⟨Nat.lt_of_lt_of_le (h.k x hx).1 hg.size, (h.k x hx).2⟩
theorem Duo.store (h : Duo w0 w K p σ p2 τ ok1 ok2) (hg : w.grownBy w' (some b)) (hb : b ∈ K) : Duo w0 w' K p σ p2 τ ok1 ok2 :=
  ⟨h.s.own hg (h.k b hb).2.1 (Nat.le_trans h.two (h.k b hb).2.2.2), h.r.own hg (h.k b hb).2.2.1, h.dis, fun x hx => ⟨Nat.lt_of_lt_of_le (h.k x hx).1 hg.size, (h.k x hx).2⟩, h.new,
    World.grownBy.andThen h.g hg (by rintro _ ⟨⟩; exact .inl (h.k b hb).2.2.2), h.two⟩
theorem Duo.code (h : Duo w0 w K p σ p2 τ ok1 ok2) (hn : Nx w ok1 p σ' w') : Duo w0 w' K p σ' p2 τ (More ok1 w w') ok2 :=
  ⟨hn.1, h.r.md hn.2 (fun b hb hb1 => h.dis b hb1 hb), fun b hb hb2 => hb.elim (fun h1 => h.dis b h1 hb2) fun h1 => by have := h.r.lt b hb2; omega,
    fun b hb => ⟨Nat.lt_of_lt_of_le (h.k b hb).1 hn.2.size, More.not (h.k b hb).2.1 (h.k b hb).1, (h.k b hb).2.2⟩,
    fun b hb => hb.elim (fun h1 => h1.elim (fun h2 => h.new b (.inl h2)) fun h2 => Nat.le_trans h.g.size h2.1) fun h1 => h.new b (.inr h1), md_grown hn.2 h.g fun b hb => h.new b (.inl hb), h.two⟩
theorem Duo.ref (h : Duo w0 w K p σ p2 τ ok1 ok2) (hn : Rx w ok2 p2 τ' w') : Duo w0 w' K p σ p2 τ' ok1 (More ok2 w w') :=
  ⟨h.s.md hn.2 (fun b hb hb1 => h.dis b hb hb1) (fun b hb => Nat.le_trans h.two (h.new b (.inr hb))), hn.1, fun b hb hb2 => hb2.elim (fun h1 => h.dis b hb h1) fun h1 => by have := h.s.lt b hb; omega,
    fun b hb => ⟨Nat.lt_of_lt_of_le (h.k b hb).1 hn.2.size, (h.k b hb).2.1, More.not (h.k b hb).2.2.1 (h.k b hb).1, (h.k b hb).2.2.2⟩,
    fun b hb => hb.elim (fun h1 => h.new b (.inl h1)) fun h1 => h1.elim (fun h2 => h.new b (.inr h2)) fun h2 => Nat.le_trans h.g.size h2.1, md_grown hn.2 h.g fun b hb => h.new b (.inr hb), h.two⟩
theorem Duo.blk1 {t : TypeId} {vs : List Value} (h : Duo w0 w K p σ p2 τ ok1 ok2) (hn : Nx w ok1 p σ' w') (hb : C.Blk w b t vs) (hk : b ∈ K) : C.Blk w' b t vs := hn.blk hb (h.k b hk).2.1
theorem Duo.blk2 {t : TypeId} {vs : List Value} (h : Duo w0 w K p σ p2 τ ok1 ok2) (hn : Rx w ok2 p2 τ' w') (hb : C.Blk w b t vs) (hk : b ∈ K) : C.Blk w' b t vs := hn.blk hb (h.k b hk).2.2.1
end
/-- The loop's state. -/
def LoN (w wr : World) (g4 g7 g8 g9 : Nat) (p p2 : Option Nat) (i : Nat) : Prop :=
  ∃ σ k n ok1 ok2, Duo w wr [g4, g7, g8, g9] p σ p2 σ ok1 ok2 ∧ C.Blk wr g4 40 (rv k n) ∧ C.Blk wr g9 40 (rv k n) ∧ C.Blk wr g7 29 [.pointer (p.map fun b => ⟨b, 0, none⟩)] ∧ C.Blk wr g8 35 [.pointer (p2.map fun b => ⟨b, 0, none⟩)] ∧ k.length = 32 ∧ n < 65536 ∧ Room (2 * i) σ
set_option maxRecDepth 100000 in
set_option maxHeartbeats 16000000 in
theorem nexts_walk {w : World} (hT : S.Tab w) (f : Bool) {k : List UInt8} {n m : Nat} (hk : k.length = 32) (hn : n < 65536) (hm : m < 256) :
    Calls Tryd.prog 4 #[.bool f, .agg (rv k n).toArray, .int .u8 (m : Int)] w fun e w' => e = .returned (.bool true) ∧ w.grownBy w' none := by
  obtain ⟨z, hz⟩ : ∃ z, z = rv k n := ⟨_, rfl⟩
  have HT := Lib.hid hT
  have HK := Lib.hid hk
  have HZ := Lib.hid hz
  have HN := Lib.hid hn
  rw [← hz]
  clear hT hk hz hn
  go_enter Tryd.func4, Tryd.ntmps4
  go_wp2_with (first | (refine wpList_boxG rfl _ rfl (vs := z) rfl ?_) | fail)
  intro g4 w1 e4 k4 q4
  have G1 := Lib.hid q4.out
  have B4a : Hid (C.Blk w1 g4 40 (rv k n)) := by have hh := k4.out; rw [HZ.out] at hh; exact hh
  have E4 : Hid (w.heap.size ≤ g4) := by have := e4.out; show w.heap.size ≤ g4; omega
  have T1 := Lib.hid (HT.out.grown G1.out (by simp) (by simp))
  have MA := Lib.hid (alive_any T1.out)
  clear e4 k4 q4
  go_wp2_with (first | (go_at_call 9; refine MA.out.mono ?_; rintro _ w2 ⟨rfl, hg2⟩; have G2 := Lib.hid hg2; clear hg2; have MS := Lib.hid (suite_any w2 (T1.out.grown G2.out (by simp) (by simp)) f)) | (go_at_call 11; refine MS.out.mono ?_; rintro _ w3 ⟨p, ok1, rfl, hs3, hn3, hg3⟩; have S3 := Lib.hid hs3; have N3 := Lib.hid hn3; have G3 := Lib.hid hg3; clear hs3 hn3 hg3) | (go_at_call 13; refine (rsuite_any w3 f).mono ?_; rintro _ w4 ⟨p2, ok2, rfl, hs4, hn4, hg4⟩; have S4 := Lib.hid hs4; have N4 := Lib.hid hn4; have G4 := Lib.hid hg4; clear hs4 hn4 hg4) | (refine wpList_allocG zeS rfl rfl ?_) | fail)
  intro g7 w5 e7 k7 q7
  go_wp2_with (first | (refine wpList_allocG zeR rfl rfl ?_) | fail)
  intro g8 w6 e8 k8 q8
  obtain ⟨pv, hpv⟩ : ∃ v, v = Value.pointer (p.map fun b => (⟨b, 0, none⟩ : Addr)) := ⟨_, rfl⟩
  obtain ⟨pw, hpw⟩ : ∃ v, v = Value.pointer (p2.map fun b => (⟨b, 0, none⟩ : Addr)) := ⟨_, rfl⟩
  have htab : tab p = .agg [pv].toArray := by rw [hpv]; rfl
  have htab2 : tab p2 = .agg [pw].toArray := by rw [hpw]; rfl
  have HO : Hid (∀ u ∈ [pv], u.oneCell' = true) := fun u hu => by obtain rfl := List.mem_singleton.1 hu; rw [hpv]; rfl
  have HO2 : Hid (∀ u ∈ [pw], u.oneCell' = true) := fun u hu => by obtain rfl := List.mem_singleton.1 hu; rw [hpw]; rfl
  rw [htab, htab2]
  have HTAB := Lib.hid htab
  have HTAB2 := Lib.hid htab2
  have HPV := Lib.hid hpv
  have HPW := Lib.hid hpw
  clear htab htab2 hpv hpw
  have D6 : Hid (Duo w w6 [g8, g7, g4] p (sg0 f) p2 (sg0 f) ok1 ok2) := by
    have d4 : Duo w w4 [g4] p (sg0 f) p2 (sg0 f) ok1 ok2 := by
      refine ⟨S3.out.grown G4.out, S4.out, fun b h1 h2 => ?_, fun b hb => ?_, fun b hb => ?_, ((G1.out.trans G2.out).trans G3.out).trans G4.out, HT.out.lt⟩
      · have := S3.out.lt b h1; have := N4.out b h2; omega
      · obtain rfl := List.mem_singleton.1 hb
        have hl := B4a.out.lt
        have s2 := G2.out.size; have s3 := G3.out.size; have s4 := G4.out.size
        exact ⟨by omega, fun h => by have := N3.out _ h; omega, fun h => by have := N4.out _ h; omega, E4.out⟩
      · have s1 := G1.out.size; have s2 := G2.out.size; have s3 := G3.out.size
        rcases hb with hb | hb
        · have := N3.out b hb; omega
        · have := N4.out b hb; omega
    exact (d4.box q7.out e7.out k7.out.lt).box q8.out e8.out k8.out.lt
  have B7a := Lib.hid (k7.out.grown q8.out (by simp))
  go_wp2_with (first | (refine wpList_storeG agS rfl _ _ rfl g7 (vs := [pv]) rfl rfl B7a.out rfl rfl HO.out ?_) | fail)
  intro w7 k7b q7b z7
  have B8a := Lib.hid (k8.out.grown q7b.out (by have h1 := k7.out.lt; have h2 := e8.out; simp; omega))
  go_wp2_with (first | (refine wpList_storeG agR rfl _ _ rfl g8 (vs := [pw]) rfl rfl B8a.out rfl rfl HO2.out ?_) | fail)
  intro w8 k8b q8b z8
  have D8 := Lib.hid ((D6.out.store q7b.out (by simp)).store q8b.out (by simp))
  have NE78 : Hid (g7 ≠ g8 ∧ g4 ≠ g7 ∧ g4 ≠ g8) := by have h1 := k7.out.lt; have h2 := e8.out; have h3 := B4a.out.lt; have h4 := e7.out; have s2 := G2.out.size; have s3 := G3.out.size; have s4 := G4.out.size; show _ ∧ _; omega
  have B7 := Lib.hid (k7b.out.grown q8b.out (by have := NE78.out; simp; omega))
  have B8 := Lib.hid k8b.out
  have B4 := Lib.hid ((((((((B4a.out.grown G2.out (by simp)).grown G3.out (by simp)).grown G4.out (by simp)).grown q7.out (by simp)).grown q8.out (by simp)).grown q7b.out (by have := NE78.out; simp; omega)).grown q8b.out (by have := NE78.out; simp; omega)) : C.Blk w8 g4 40 (rv k n))
  clear e7 k7 q7 e8 k8 q8 k7b q7b z7 k8b q8b z8 B7a B8a MA MS
  go_wp2_with (first | (refine wpList_loadG agC rfl (.tmp 4) rfl g4 rfl B4.out (rv_length HK.out) ?_) | (refine wpList_allocG zeC rfl rfl ?_) | fail)
  intro g9 w9 e9 k9 q9
  go_wp2_with (first | (refine wpList_storeG agC rfl _ _ rfl g9 rfl rfl k9.out (rv_length z32_length) (rv_length HK.out) (rv_one _ _) ?_) | fail)
  intro w10 k9b q9b z9
  have D10 := Lib.hid (((D8.out.box q9.out e9.out k9.out.lt).store q9b.out (by simp)).less (K' := [g4, g7, g8, g9]) (by simp))
  have N9x : Hid (g4 ≠ g9 ∧ g7 ≠ g9 ∧ g8 ≠ g9) := by have h1 := B4.out.lt; have h2 := B7.out.lt; have h3 := B8.out.lt; have h4 := e9.out; show _ ∧ _; omega
  have LN : Hid (LoN w w10 g4 g7 g8 g9 p p2 0) := ⟨_, k, n, _, _, D10.out, (B4.out.grown q9.out (by simp)).grown q9b.out (by have := N9x.out; simp; omega), k9b.out, by rw [← HPV.out]; exact (B7.out.grown q9.out (by simp)).grown q9b.out (by have := N9x.out; simp; omega), by rw [← HPW.out]; exact (B8.out.grown q9.out (by simp)).grown q9b.out (by have := N9x.out; simp; omega), HK.out, HN.out, sg0_room f 0⟩
  have NEQ : Hid (g4 ≠ g9) := N9x.out.1
  have hmod : (m : Int).tmod 12 = ((m % 12 : Nat) : Int) := by rw [Int.tmod_eq_emod_of_nonneg (by omega)]; omega
  have hmod2 : (m : Int) % 12 = ((m % 12 : Nat) : Int) := by omega
  obtain ⟨t, ht⟩ : ∃ t, m % 12 = t := ⟨_, rfl⟩
  rw [ht] at hmod hmod2
  have ht12 : t < 12 := by omega
  clear e9 k9 q9 k9b q9b z9 D6 D8 D10 ht
  go_wp2_with fail
  go_loopg [10] t (fun G v wr => ∃ i : Nat, v = .int .i64 (i : Int) ∧ i ≤ t ∧ t - i ≤ G ∧ Hid (LoN w wr g4 g7 g8 g9 p p2 i))
  case atStart => exact ⟨0, rfl, Nat.zero_le _, Nat.le_refl _, LN.out⟩
  case round =>
    obtain ⟨i, rfl, hit, hgk, hln⟩ := hrel
    obtain ⟨σ, ki, ni, ok1, ok2, d0, b4, b9, b7, b8, hkl, hn6, hro⟩ := hln.out
    rw [← HPV.out] at b7
    rw [← HPW.out] at b8
    have HGK := Lib.hid hgk
    have D0 := Lib.hid d0
    have B4r := Lib.hid b4
    have B9r := Lib.hid b9
    have B7r := Lib.hid b7
    have B8r := Lib.hid b8
    have KL := Lib.hid hkl
    have N6 := Lib.hid hn6
    have RO := Lib.hid hro
    clear hln LN hgk d0 b4 b9 b7 b8 hkl hn6 hro B4 B7 B8
    by_cases hlt : i < t
    · have d1 : (i : Int) < (t : Int) := by omega
      have HLT := Lib.hid hlt
      have TWO : Hid (2 ≤ wr.heap.size) := Nat.le_trans D0.out.two D0.out.g.size
      by_cases h65 : ni = 65535
      · have M14 := Lib.hid (next_end D0.out.s (RO.out.mono (by omega)) KL.out h65)
        rw [HTAB.out] at M14
        have H65 := Lib.hid h65
        clear h65
        go_wp2_with (first | (refine wpList_loadG agS rfl (.tmp 7) rfl g7 rfl B7r.out rfl ?_) | (refine wpList_loadG agC rfl (.tmp 4) rfl g4 rfl B4r.out (rv_length KL.out) ?_) | (go_at_call 14; refine M14.out.mono ?_; rintro _ v1 ⟨rfl, hg1⟩; have V1 := Lib.hid hg1; clear hg1) | (refine wpList_allocG zeC rfl rfl ?_) | fail)
        intro g11 v2 e11 k11 q11
        go_wp2_with (first | (refine wpList_allocG zeY rfl rfl ?_) | fail)
        intro g12 v3 e12 k12 q12
        have N1112 : Hid (g11 ≠ g12) := by have := k11.out.lt; have := e12.out; show g11 ≠ g12; omega
        go_wp2_with (first | (refine wpList_storeG agC rfl _ _ rfl g11 rfl rfl (k11.out.grown q12.out (by simp)) (rv_length z32_length) (rv_length z32_length) (rv_one _ _) ?_) | fail)
        intro v4 k11b q11b z11
        go_wp2_with (first | (refine wpList_storeG agY rfl _ _ rfl g12 rfl rfl (k12.out.grown q11b.out (by have := N1112.out; simp; omega)) (by rw [u8s_length, z32_length]) (by rw [u8s_length, z32_length]) (u8s_one _) ?_) | fail)
        intro v5 k12b q12b z12
        have D5 := Lib.hid (((((D0.out.alloc V1.out).box q11.out e11.out k11.out.lt).box q12.out e12.out k12.out.lt).store q11b.out (by simp)).store q12b.out (by simp))
        have N411 : Hid (g9 ≠ g11 ∧ g9 ≠ g12 ∧ g8 ≠ g11 ∧ g8 ≠ g12) := by have h1 := B9r.out.lt; have h2 := B8r.out.lt; have h3 := V1.out.size; have h4 := e11.out; have h5 := e12.out; have h6 := q11.out.size; show _ ∧ _; omega
        have B9s := Lib.hid (((((B9r.out.grown V1.out (by simp)).grown q11.out (by simp)).grown q12.out (by simp)).grown q11b.out (by have := N411.out; simp; omega)).grown q12b.out (by have := N411.out; simp; omega))
        have B8s := Lib.hid (((((B8r.out.grown V1.out (by simp)).grown q11.out (by simp)).grown q12.out (by simp)).grown q11b.out (by have := N411.out; simp; omega)).grown q12b.out (by have := N411.out; simp; omega))
        have B11 := Lib.hid (k11b.out.grown q12b.out (by have := N1112.out; simp; omega))
        have B12 := Lib.hid k12b.out
        have M15 := Lib.hid (rnext_end D5.out.r (RO.out.mono (by omega)) KL.out H65.out (Nat.le_trans D5.out.two D5.out.g.size))
        rw [HTAB2.out] at M15
        clear e11 k11 q11 e12 k12 q12 k11b q11b z11 k12b q12b z12 M14
        go_wp2_with (first | (refine wpList_loadG agR rfl (.tmp 8) rfl g8 rfl B8s.out rfl ?_) | (refine wpList_loadG agC rfl (.tmp 9) rfl g9 rfl B9s.out (rv_length KL.out) ?_) | (go_at_call 15; refine M15.out.mono ?_; rintro _ v6 ⟨rfl, hg1⟩; have V6 := Lib.hid hg1; clear hg1) | (refine wpList_allocG zeC rfl rfl ?_) | fail)
        intro g14 v7 e14 k14 q14
        go_wp2_with (first | (refine wpList_allocG zeA rfl rfl ?_) | fail)
        intro g15 v8 e15 k15 q15
        have N1415 : Hid (g14 ≠ g15) := by have := k14.out.lt; have := e15.out; show g14 ≠ g15; omega
        go_wp2_with (first | (refine wpList_storeG agC rfl _ _ rfl g14 rfl rfl (k14.out.grown q15.out (by simp)) (rv_length z32_length) (rv_length z32_length) (rv_one _ _) ?_) | fail)
        intro v9 k14b q14b z14
        go_wp2_with (first | (refine wpList_storeG agA rfl _ _ rfl g15 rfl rfl (k15.out.grown q14b.out (by have := N1415.out; simp; omega)) (by rw [u8s_length, z32_length]) (by rw [u8s_length, z32_length]) (u8s_one _) ?_) | fail)
        intro v10 k15b q15b z15
        have D10 := Lib.hid (((((D5.out.alloc V6.out).box q14.out e14.out k14.out.lt).box q15.out e15.out k15.out.lt).store q14b.out (by simp)).store q15b.out (by simp))
        have N114 : Hid (g11 ≠ g14 ∧ g11 ≠ g15 ∧ g12 ≠ g14 ∧ g12 ≠ g15) := by have h1 := B11.out.lt; have h2 := B12.out.lt; have h3 := V6.out.size; have h4 := e14.out; have h5 := e15.out; have h6 := q14.out.size; show _ ∧ _; omega
        have B11s := Lib.hid (((((B11.out.grown V6.out (by simp)).grown q14.out (by simp)).grown q15.out (by simp)).grown q14b.out (by have := N114.out; simp; omega)).grown q15b.out (by have := N114.out; simp; omega))
        have B12s := Lib.hid (((((B12.out.grown V6.out (by simp)).grown q14.out (by simp)).grown q15.out (by simp)).grown q14b.out (by have := N114.out; simp; omega)).grown q15b.out (by have := N114.out; simp; omega))
        have B14 := Lib.hid (k14b.out.grown q15b.out (by have := N1415.out; simp; omega))
        have B15 := Lib.hid k15b.out
        clear e14 k14 q14 e15 k15 q15 k14b q14b z14 k15b q15b z15 M15
        go_wp2_with (first | (refine wpList_loadGw agC (by rfl) (.tmp 11) rfl g11 rfl B11s.out (rv_length z32_length) ?_) | (refine wpList_loadGw agC (by rfl) (.tmp 14) rfl g14 rfl B14.out (rv_length z32_length) ?_) | (refine wpList_neqs (eqsC z32_length 0) (by rfl) (.tmp 49) (.tmp 50) rfl rfl rfl ?_) | (refine wpList_loadGw agY (by rfl) (.tmp 12) rfl g12 rfl B12s.out (by rw [u8s_length, z32_length]) ?_) | (refine wpList_loadGw agA (by rfl) (.tmp 15) rfl g15 rfl B15.out (by rw [u8s_length, z32_length]) ?_) | (refine wpList_neqs (eqsY z32_length) (by rfl) (.tmp 54) (.tmp 55) rfl rfl rfl ?_) | fail)
        go_ret
        exact ⟨rfl, D10.out.g⟩
      · have H65 : Hid (ni < 65535) := by have := N6.out; show ni < 65535; omega
        clear h65
        obtain ⟨x, hx⟩ : ∃ x, x = nextL σ ki := ⟨_, rfl⟩
        obtain ⟨b2, hb2⟩ : ∃ b, b = nextK σ ki := ⟨_, rfl⟩
        obtain ⟨σ2, h2⟩ : ∃ s, s = nextS σ ki := ⟨_, rfl⟩
        have hbl2 : b2.length = 32 := by rw [hb2]; exact nextK_length _ _
        have hxl : x.length = 32 := by rw [hx]; exact nextL_length _ _
        have hro2 : Room (2 * (i + 1)) σ2 := by rw [h2]; exact RO.out.next KL.out (by omega)
        have M14 := Lib.hid (next_yes D0.out.s (RO.out.mono (by omega)) KL.out H65.out)
        rw [HTAB.out, ← hx, ← hb2, ← h2] at M14
        have HX := Lib.hid hx
        have HB2 := Lib.hid hb2
        have H2 := Lib.hid h2
        have HBL2 := Lib.hid hbl2
        have HXL := Lib.hid hxl
        have RO2 := Lib.hid hro2
        clear hx hb2 h2 hbl2 hxl hro2
        go_wp2_with (first | (refine wpList_loadG agS rfl (.tmp 7) rfl g7 rfl B7r.out rfl ?_) | (refine wpList_loadG agC rfl (.tmp 4) rfl g4 rfl B4r.out (rv_length KL.out) ?_) | (go_at_call 14; refine M14.out.mono ?_; rintro _ v1 ⟨rfl, hg1⟩; have V1 := Lib.hid hg1; clear hg1) | (refine wpList_allocG zeC rfl rfl ?_) | fail)
        intro g11 v2 e11 k11 q11
        go_wp2_with (first | (refine wpList_allocG zeY rfl rfl ?_) | fail)
        intro g12 v3 e12 k12 q12
        have N1112 : Hid (g11 ≠ g12) := by have := k11.out.lt; have := e12.out; show g11 ≠ g12; omega
        go_wp2_with (first | (refine wpList_storeG agC rfl _ _ rfl g11 rfl rfl (k11.out.grown q12.out (by simp)) (rv_length z32_length) (rv_length HBL2.out) (rv_one _ _) ?_) | fail)
        intro v4 k11b q11b z11
        go_wp2_with (first | (refine wpList_storeG agY rfl _ _ rfl g12 rfl rfl (k12.out.grown q11b.out (by have := N1112.out; simp; omega)) (by rw [u8s_length, z32_length]) (by rw [u8s_length, HXL.out]) (u8s_one _) ?_) | fail)
        intro v5 k12b q12b z12
        have D5 := Lib.hid (((((D0.out.code V1.out).box q11.out e11.out k11.out.lt).box q12.out e12.out k12.out.lt).store q11b.out (by simp)).store q12b.out (by simp))
        have C4 := Lib.hid (D0.out.blk1 V1.out B4r.out (by simp))
        have C9 := Lib.hid (D0.out.blk1 V1.out B9r.out (by simp))
        have C7 := Lib.hid (D0.out.blk1 V1.out B7r.out (by simp))
        have C8 := Lib.hid (D0.out.blk1 V1.out B8r.out (by simp))
        have N411 : Hid (g9 ≠ g11 ∧ g9 ≠ g12 ∧ g8 ≠ g11 ∧ g8 ≠ g12 ∧ g4 ≠ g11 ∧ g4 ≠ g12 ∧ g7 ≠ g11 ∧ g7 ≠ g12) := by have h1 := C9.out.lt; have h2 := C8.out.lt; have h3 := C4.out.lt; have h7 := C7.out.lt; have h4 := e11.out; have h5 := e12.out; have h6 := q11.out.size; show _ ∧ _; omega
        have UP : ∀ g t vs, C.Blk v1 g t vs → g ≠ g11 → g ≠ g12 → C.Blk v5 g t vs := fun g t vs hb h1 h2 => (((hb.grown q11.out (by simp)).grown q12.out (by simp)).grown q11b.out (by simpa using h1)).grown q12b.out (by simpa using h2)
        have B9s := Lib.hid (UP _ _ _ C9.out N411.out.1 N411.out.2.1)
        have B8s := Lib.hid (UP _ _ _ C8.out N411.out.2.2.1 N411.out.2.2.2.1)
        have B4s := Lib.hid (UP _ _ _ C4.out N411.out.2.2.2.2.1 N411.out.2.2.2.2.2.1)
        have B7s := Lib.hid (UP _ _ _ C7.out N411.out.2.2.2.2.2.2.1 N411.out.2.2.2.2.2.2.2)
        have B11 := Lib.hid (k11b.out.grown q12b.out (by have := N1112.out; simp; omega))
        have B12 := Lib.hid k12b.out
        have M15 := Lib.hid (rnext_yes D5.out.r (RO.out.mono (by omega)) KL.out H65.out (Nat.le_trans D5.out.two D5.out.g.size))
        rw [HTAB2.out, ← HX.out, ← HB2.out, ← H2.out] at M15
        clear UP e11 k11 q11 e12 k12 q12 k11b q11b z11 k12b q12b z12 M14 C4 C9 C7 C8
        go_wp2_with (first | (refine wpList_loadG agR rfl (.tmp 8) rfl g8 rfl B8s.out rfl ?_) | (refine wpList_loadG agC rfl (.tmp 9) rfl g9 rfl B9s.out (rv_length KL.out) ?_) | (go_at_call 15; refine M15.out.mono ?_; rintro _ v6 ⟨rfl, hg1⟩; have V6 := Lib.hid hg1; clear hg1) | (refine wpList_allocG zeC rfl rfl ?_) | fail)
        intro g14 v7 e14 k14 q14
        go_wp2_with (first | (refine wpList_allocG zeA rfl rfl ?_) | fail)
        intro g15 v8 e15 k15 q15
        have N1415 : Hid (g14 ≠ g15) := by have := k14.out.lt; have := e15.out; show g14 ≠ g15; omega
        go_wp2_with (first | (refine wpList_storeG agC rfl _ _ rfl g14 rfl rfl (k14.out.grown q15.out (by simp)) (rv_length z32_length) (rv_length HBL2.out) (rv_one _ _) ?_) | fail)
        intro v9 k14b q14b z14
        go_wp2_with (first | (refine wpList_storeG agA rfl _ _ rfl g15 rfl rfl (k15.out.grown q14b.out (by have := N1415.out; simp; omega)) (by rw [u8s_length, z32_length]) (by rw [u8s_length, HXL.out]) (u8s_one _) ?_) | fail)
        intro v10 k15b q15b z15
        have D10 := Lib.hid (((((D5.out.ref V6.out).box q14.out e14.out k14.out.lt).box q15.out e15.out k15.out.lt).store q14b.out (by simp)).store q15b.out (by simp))
        have C11 := Lib.hid (D5.out.blk2 V6.out B11.out (by simp))
        have C12 := Lib.hid (D5.out.blk2 V6.out B12.out (by simp))
        have C4 := Lib.hid (D5.out.blk2 V6.out B4s.out (by simp))
        have C9 := Lib.hid (D5.out.blk2 V6.out B9s.out (by simp))
        have C7 := Lib.hid (D5.out.blk2 V6.out B7s.out (by simp))
        have C8 := Lib.hid (D5.out.blk2 V6.out B8s.out (by simp))
        have N114 : Hid (∀ g, g < v6.heap.size → g ≠ g14 ∧ g ≠ g15) := fun g hg => by have h4 := e14.out; have h5 := e15.out; have h6 := q14.out.size; omega
        have UP : ∀ g t vs, C.Blk v6 g t vs → C.Blk v10 g t vs := fun g t vs hb => (((hb.grown q14.out (by simp)).grown q15.out (by simp)).grown q14b.out (by simpa using (N114.out g hb.lt).1)).grown q15b.out (by simpa using (N114.out g hb.lt).2)
        have B11s := Lib.hid (UP _ _ _ C11.out)
        have B12s := Lib.hid (UP _ _ _ C12.out)
        have B4t := Lib.hid (UP _ _ _ C4.out)
        have B9t := Lib.hid (UP _ _ _ C9.out)
        have B7t := Lib.hid (UP _ _ _ C7.out)
        have B8t := Lib.hid (UP _ _ _ C8.out)
        have B14 := Lib.hid (k14b.out.grown q15b.out (by have := N1415.out; simp; omega))
        have B15 := Lib.hid k15b.out
        have N479 : Hid (g11 ≠ g4 ∧ g14 ≠ g4 ∧ g11 ≠ g9 ∧ g14 ≠ g9 ∧ g7 ≠ g4 ∧ g8 ≠ g4 ∧ g7 ≠ g9 ∧ g8 ≠ g9) := by
          have h1 := N411.out
          have h2 := (N114.out g4 C4.out.lt).1
          have h3 := (N114.out g9 C9.out.lt).1
          have h4 := N9x.out
          have h5 := NE78.out
          show _ ∧ _
          omega
        clear UP e14 k14 q14 e15 k15 q15 k14b q14b z14 k15b q15b z15 M15 C11 C12 C4 C9 C7 C8 N114
        go_wp2_with (first | (refine wpList_loadGw agC (by rfl) (.tmp 11) rfl g11 rfl B11s.out (rv_length HBL2.out) ?_) | (refine wpList_loadGw agC (by rfl) (.tmp 14) rfl g14 rfl B14.out (rv_length HBL2.out) ?_) | (refine wpList_neqs (eqsC HBL2.out (ni + 1)) (by rfl) (.tmp 49) (.tmp 50) rfl rfl rfl ?_) | (refine wpList_loadGw agY (by rfl) (.tmp 12) rfl g12 rfl B12s.out (by rw [u8s_length, HXL.out]) ?_) | (refine wpList_loadGw agA (by rfl) (.tmp 15) rfl g15 rfl B15.out (by rw [u8s_length, HXL.out]) ?_) | (refine wpList_neqs (eqsY HXL.out) (by rfl) (.tmp 54) (.tmp 55) rfl rfl rfl ?_) | fail)
        refine wp_region_held_drew (S := fun W => W.rangeAt g11 0 (rv b2 (ni + 1)) ∧ W.rangeAt g14 0 (rv b2 (ni + 1))) (by kernel_rfl) ⟨range_of B11s.out, range_of B14.out⟩ (fun hHeld => ?_)
        refine' wpAnyH_take (i := 0) (oi := { dst := some 60, op := Op.load 40 (Operand.tmp 11), type := 40, pos := "law.go:45", after := #[], guard := none }) (v := .agg (rv b2 (ni + 1)).toArray) rfl (by kernel_rfl) (by kernel_rfl) (by kernel_rfl) (fun _ _ _ h => h) (yieldsIf_loadR agC (by rfl) (.tmp 11) rfl g11 0 rfl (rv_length HBL2.out) (fun _ h => h.1)) (by assumption) ?qz1
        try simp only [Act.put, List.setIfInBounds_toArray, List.set_cons_zero, List.set_cons_succ]
        refine' wpAnyH_take (i := 1) (oi := { dst := some 61, op := Op.load 40 (Operand.tmp 14), type := 40, pos := "law.go:45", after := #[{ on := 2, ground := Ground.gcOnly Departure.lateStores }], guard := none }) (v := .agg (rv b2 (ni + 1)).toArray) rfl (by kernel_rfl) (by kernel_rfl) (by kernel_rfl) (fun _ _ _ h => h) (yieldsIf_loadR agC (by rfl) (.tmp 14) rfl g14 0 rfl (rv_length HBL2.out) (fun _ h => h.2)) (by assumption) ?qz2
        try simp only [Act.put, List.setIfInBounds_toArray, List.set_cons_zero, List.set_cons_succ]
        refine wpAnyH_ready (rs := [2]) (by kernel_rfl) (by simp) ?_
        refine AllReadyH.cons (o := { dst := none, op := Op.store 40 (Operand.tmp 4) (Operand.tmp 60), type := 0, pos := "law.go:45", after := #[{ on := 0, ground := Ground.data }, { on := 0, ground := Ground.phase }, { on := 1, ground := Ground.textOnly Departure.lateStores }], guard := none }) rfl (fun K hK => ?_) AllReadyH.nil
        rw [if_pos (by rfl)]
        refine wp_storeG agC _ _ rfl g4 rfl rfl (B4t.out.grown (grown_drew v10) (by simp)) (rv_length KL.out) (rv_length HBL2.out) (rv_one _ _) (fun v11 k4z q4z z4z => ?_)
        refine hK.out _ _ ⟨range_keep hHeld.1 fun hlt => q4z.out.block g11 hlt (by have := N479.out; simp; omega), range_keep hHeld.2 fun hlt => q4z.out.block g14 hlt (by have := N479.out; simp; omega)⟩ (fun hHeld => ?_)
        clear hK K
        dsimp only [Act.put]
        refine wpAnyH_ready (rs := [3]) (by kernel_rfl) (by simp) ?_
        refine AllReadyH.cons (o := { dst := none, op := Op.store 40 (Operand.tmp 9) (Operand.tmp 61), type := 0, pos := "law.go:45", after := #[{ on := 1, ground := Ground.data }, { on := 2, ground := Ground.chain }, { on := 0, ground := Ground.phase }, { on := 1, ground := Ground.phase }, { on := 2, ground := Ground.phase }], guard := none }) rfl (fun K hK => ?_) AllReadyH.nil
        rw [if_pos (by rfl)]
        refine wp_storeG agC _ _ rfl g9 rfl rfl ((B9t.out.grown (grown_drew v10) (by simp)).grown q4z.out (by have := NEQ.out; simp; omega)) (rv_length KL.out) (rv_length HBL2.out) (rv_one _ _) (fun v12 k9z q9z z9z => ?_)
        refine hK.out _ _ ⟨range_keep hHeld.1 fun hlt => q9z.out.block g11 hlt (by have := N479.out; simp; omega), range_keep hHeld.2 fun hlt => q9z.out.block g14 hlt (by have := N479.out; simp; omega)⟩ (fun hHeld => ?_)
        clear hK K
        dsimp only [Act.put]
        refine wpAnyH_done (by kernel_rfl) ?_ _
        have LN9 : Hid (LoN w v12 g4 g7 g8 g9 p p2 (i + 1)) := by
          refine ⟨σ2, b2, ni + 1, _, _, (((D10.out.alloc (grown_drew v10)).store q4z.out (by simp)).store q9z.out (by simp)).less (by simp), k4z.out.grown q9z.out (by simpa using NEQ.out), k9z.out, ?_, ?_, HBL2.out, by have := H65.out; omega, RO2.out⟩
          · rw [← HPV.out]
            exact ((B7t.out.grown (grown_drew v10) (by simp)).grown q4z.out (by have := N479.out; simp; omega)).grown q9z.out (by have := N479.out; simp; omega)
          · rw [← HPW.out]
            exact ((B8t.out.grown (grown_drew v10) (by simp)).grown q4z.out (by have := N479.out; simp; omega)).grown q9z.out (by have := N479.out; simp; omega)
        clear k4z q4z z4z k9z q9z z9z
        go_wp2_with fail
        go_roundg (t - (i + 1))
        case measure => have := HGK.out; have := HLT.out; omega
        case rel => exact ⟨i + 1, by go_num, HLT.out, Nat.le_refl _, LN9.out⟩
    · have d1 : ¬ (i : Int) < (t : Int) := by omega
      go_wp2_with fail
      go_ret
      exact ⟨rfl, D0.out.g⟩
end Go.Proofs.YtdnkeaokgkiloaaDoor
