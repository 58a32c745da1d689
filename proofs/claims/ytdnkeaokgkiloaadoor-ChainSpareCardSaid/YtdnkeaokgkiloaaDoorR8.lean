/- chain.pass; how a row goes on, in plain mathematics. Conditions: there is room for two more terms; the row isn't at its end. -/
import Derived.Test.YtdnkeaokgkiloaaDoorR5
import Derived.Test.YtdnkeaokgkiloaaDoorR6
namespace Go.Proofs.YtdnkeaokgkiloaaDoor
open Go.RowKit T
theorem next_yes {w : World} {ok : Nat → Prop} {p : Option Nat} {σ : Sg} {k : List UInt8} {n : Nat} (h : Sui w ok p σ) (hr : Room 59900 σ) (hk : k.length = 32) (hn : n < 65535) :
    Calls Tryd.prog 14 #[tab p, .agg (rv k n).toArray] w fun e w' => e = .returned (.tuple #[.agg (rv (nextK σ k) (n + 1)).toArray, .agg (u8s (nextL σ k)).toArray, .int .i64 0]) ∧ Nx w ok p (nextS σ k) w' :=
  (next_any h hr hk (by omega)).mono fun e w' he => by
    rcases he with ⟨h1, _⟩ | ⟨_, h2⟩
    · omega
    · exact h2
theorem rnext_yes {w : World} {ok : Nat → Prop} {p : Option Nat} {σ : Sg} {k : List UInt8} {n : Nat} (h : Rui w ok p σ) (hr : Room 59900 σ) (hk : k.length = 32) (hn : n < 65535) (hw2 : 2 ≤ w.heap.size) :
    Calls Tryd.prog 15 #[tab p, .agg (rv k n).toArray] w fun e w' => e = .returned (.tuple #[.agg (rv (nextK σ k) (n + 1)).toArray, .agg (u8s (nextL σ k)).toArray, .int .i64 0]) ∧ Rx w ok p (nextS σ k) w' :=
  (rnext_any h hr hk (by omega) hw2).mono fun e w' he => by
    rcases he with ⟨h1, _⟩ | ⟨_, h2⟩
    · omega
    · exact h2
/-- What a row's going on answers: the suite, the row's key and number, the list, an error's number. -/
abbrev GoR := Sg × List UInt8 × Nat × List Kep × Int
/-- So many letters on. -/
def goF (r : List UInt8) : Nat → Sg → List UInt8 → Nat → List Kep → GoR
  | 0, σ, k, n, L => (σ, k, n, L, 0)
  | m + 1, σ, k, n, L => if keepE L (r, n, nextL σ k) = 0 then goF r m (nextS σ k) (nextK σ k) (n + 1) (L ++ [(r, n, nextL σ k)]) else (nextS σ k, k, n, L, keepE L (r, n, nextL σ k))
/-- What Skip answers. -/
def skipF (r : List UInt8) (σ : Sg) (k : List UInt8) (n q : Nat) (L : List Kep) : GoR :=
  if far n q L.length ≠ 0 then (σ, k, n, L, far n q L.length)
  else if (goF r (q - n) σ k n L).2.2.2.2 = 0 then goF r (q - n) σ k n L else ((goF r (q - n) σ k n L).1, k, n, L, (goF r (q - n) σ k n L).2.2.2.2)
theorem KOk.made {r : List UInt8} {n : Nat} {σ : Sg} {k : List UInt8} (hr : r.length = 32) (hn : n < 65536) : KOk (r, n, nextL σ k) := ⟨hr, hn, nextL_length _ _⟩
/-- A list that is none of the suite's. -/
def Apart (w w' : World) (okX okL : Nat → Prop) : Prop := ∀ b, okL b → w.heap.size ≤ b ∧ b < w'.heap.size ∧ ¬ okX b
/-- What pass answers. -/
def PassE (w : World) (ok : Nat → Prop) (p : Option Nat) (τ : Sg) (k : List UInt8) (n : Nat) (L : List Kep) (E : Int) (e : Ending) (w' : World) : Prop :=
  ∃ okX okL A c, e = .returned (.tuple #[.agg (rv k n).toArray, .slice A L.length c, .int .i64 E]) ∧ Reg w w' ok okX p τ ∧ Kps w' okL A L ∧ Apart w w' okX okL ∧ L.length ≤ c ∧ c ≤ maxLen
set_option maxRecDepth 100000 in
set_option maxHeartbeats 4000000 in
theorem pass_any {w : World} {ok okL : Nat → Prop} {p : Option Nat} {σ : Sg} {k r : List UInt8} {n m c : Nat} {A : Option Addr} {L : List Kep} (h : Sui w ok p σ) (hro : Room 59900 σ) (hk : k.length = 32) (hn : n < 65535) (hr : r.length = 32) (hL : Kps w okL A L) (hK : KAll L) (hm : L.length = m) (hle : m ≤ 900) (hd : ∀ b, okL b → b < w.heap.size ∧ ¬ ok b) :
    Calls Tryd.prog 31 #[tab p, .agg (rv k n).toArray, .agg (u8s r).toArray, .slice A m c] w (PassE w ok p (nextS σ k) (nextK σ k) (n + 1) (keepL L (r, n, nextL σ k)) (keepE L (r, n, nextL σ k))) := by
  obtain ⟨x, hx⟩ : ∃ x, x = nextL σ k := ⟨_, rfl⟩
  obtain ⟨b, hb⟩ : ∃ b, b = nextK σ k := ⟨_, rfl⟩
  obtain ⟨σ2, h2⟩ : ∃ s, s = nextS σ k := ⟨_, rfl⟩
  have hxl : x.length = 32 := by rw [hx]; exact nextL_length _ _
  have hbl : b.length = 32 := by rw [hb]; exact nextK_length _ _
  rw [← hx, ← hb, ← h2]
  obtain ⟨LL, hLL⟩ : ∃ l, l = keepL L (r, n, x) := ⟨_, rfl⟩
  obtain ⟨E, hE⟩ : ∃ l, l = keepE L (r, n, x) := ⟨_, rfl⟩
  rw [← hLL, ← hE]
  obtain ⟨pv, hpv⟩ : ∃ v, v = Value.pointer (p.map fun b => (⟨b, 0, none⟩ : Addr)) := ⟨_, rfl⟩
  have htab : tab p = .agg [pv].toArray := by rw [hpv]; rfl
  obtain ⟨z, hz⟩ : ∃ z, z = rv k n := ⟨_, rfl⟩
  obtain ⟨y, hy⟩ : ∃ y, y = u8s r := ⟨_, rfl⟩
  have HX := Lib.hid hx
  have HB := Lib.hid hb
  have H2 := Lib.hid h2
  have HXL := Lib.hid hxl
  have HBL := Lib.hid hbl
  have HLL := Lib.hid hLL
  have HE := Lib.hid hE
  have HS := Lib.hid h
  have HRO := Lib.hid hro
  have HK := Lib.hid hk
  have HR := Lib.hid hr
  have HL := Lib.hid hL
  have HKA := Lib.hid hK
  have HM := Lib.hid hm
  have HD := Lib.hid hd
  have HZ := Lib.hid hz
  have HY := Lib.hid hy
  have HTAB := Lib.hid htab
  have HN := Lib.hid hn
  have HLE := Lib.hid hle
  rw [htab, ← hz, ← hy]
  clear hx hb h2 hxl hbl hLL hE h hro hk hr hL hK hm hd hz hy htab hpv hn hle
  go_enter Tryd.func31, Tryd.ntmps31
  go_wp2_with (first | (refine wpList_boxG rfl _ rfl (vs := [pv]) rfl ?_) | fail)
  intro g4 w1 e4 k4 q4
  go_wp2_with (first | (refine wpList_boxG rfl _ rfl (vs := z) rfl ?_) | fail)
  intro g5 w2 e5 k5 q5
  go_wp2_with (first | (refine wpList_boxG rfl _ rfl (vs := y) rfl ?_) | fail)
  intro g6 w3 e6 k6 q6
  go_wp2_with (first | (refine wpList_allocG zeC rfl rfl ?_) | fail)
  intro g8 w4 e8 k8 q8
  have G4 := Lib.hid (((q4.out.trans q5.out).trans q6.out).trans q8.out)
  have B4 := Lib.hid (((k4.out.grown q5.out (by simp)).grown q6.out (by simp)).grown q8.out (by simp))
  have B5 : Hid (C.Blk w4 g5 40 (rv k n)) := by have hh := (k5.out.grown q6.out (by simp)).grown q8.out (by simp); rw [HZ.out] at hh; exact hh
  have B6 : Hid (C.Blk w4 g6 24 (u8s r)) := by have hh := k6.out.grown q8.out (by simp); rw [HY.out] at hh; exact hh
  have B8 := Lib.hid k8.out
  have NE : Hid (w.heap.size ≤ g4 ∧ g4 < g5 ∧ g5 < g6 ∧ g6 < g8 ∧ g8 < w4.heap.size) := by
    have a1 := e4.out; have a2 := e5.out; have a3 := e6.out; have a4 := e8.out; have b1 := k4.out.lt; have b2 := k5.out.lt; have b3 := k6.out.lt; have b4 := k8.out.lt
    show _ ∧ _
    omega
  have NOK : Hid (∀ g, w.heap.size ≤ g → ¬ ok g) := fun g hg hb => by have := HS.out.lt g hb; omega
  have S4 := Lib.hid (HS.out.grown G4.out)
  have MN : Hid (Calls Tryd.prog 14 #[.agg [pv].toArray, .agg (rv k n).toArray] w4 fun e w' => e = .returned (.tuple #[.agg (rv b (n + 1)).toArray, .agg (u8s x).toArray, .int .i64 0]) ∧ Nx w4 ok p σ2 w') := by
    have hm := next_yes S4.out HRO.out HK.out HN.out
    rw [HTAB.out] at hm
    refine hm.mono fun e w' ⟨he, hn⟩ => ⟨?_, by rw [H2.out]; exact hn⟩
    rw [HB.out, HX.out]
    exact he
  clear e4 k4 q4 e5 k5 q5 e6 k6 q6 e8 k8 q8
  go_wp2_with (first | (refine wpList_loadG agS rfl (.tmp 4) rfl g4 rfl B4.out rfl ?_) | (refine wpList_loadG agC rfl (.tmp 5) rfl g5 rfl B5.out (rv_length HK.out) ?_) | (go_at_call 14; refine MN.out.mono ?_; rintro _ w5 ⟨rfl, hn5⟩; have N5 := Lib.hid hn5; clear hn5) | (refine wpList_allocG zeC rfl rfl ?_) | fail)
  intro g11 w6 e11 k11 q11
  go_wp2_with (first | (refine wpList_allocG zeY rfl rfl ?_) | fail)
  intro g12 w7 e12 k12 q12
  have B11a := Lib.hid (k11.out.grown q12.out (by simp))
  go_wp2_with (first | (refine wpList_storeG agC rfl _ _ rfl g11 rfl rfl B11a.out (rv_length z32_length) (rv_length HBL.out) (rv_one _ _) ?_) | fail)
  intro w8 k11b q11b z11
  have NE11 : Hid (w5.heap.size ≤ g11 ∧ g11 < g12) := by have a1 := e11.out; have a2 := e12.out; have a3 := k11.out.lt; show _ ∧ _; omega
  have B12a := Lib.hid (k12.out.grown q11b.out (by have := NE11.out; simp; omega))
  go_wp2_with (first | (refine wpList_storeG agY rfl _ _ rfl g12 rfl rfl B12a.out (by rw [u8s_length, z32_length]) (by rw [u8s_length, HXL.out]) (u8s_one _) ?_) | fail)
  intro w9 k12b q12b z12
  -- what lies there behind the call
  have R5 := Lib.hid ((Reg.start0 S4.out).call N5.out)
  have NX : ∀ g, w5.heap.size ≤ g → ¬ More ok w4 w5 g := fun g hg => R5.out.not_new hg
  have R9 := Lib.hid ((((R5.out.alloc q11.out).alloc q12.out).store q11b.out (NX g11 NE11.out.1) (by have := R5.out.md.size; have := NE11.out; omega) S4.out.two).store q12b.out (NX g12 (by have := NE11.out; omega)) (by have := R5.out.md.size; have := NE11.out; omega) S4.out.two)
  have B5b := Lib.hid (R9.out.blk B5.out (NOK.out g5 (by have := NE.out; omega)))
  have B6b := Lib.hid (R9.out.blk B6.out (NOK.out g6 (by have := NE.out; omega)))
  have B8b := Lib.hid (R9.out.blk B8.out (NOK.out g8 (by have := NE.out; omega)))
  have B11 := Lib.hid (k11b.out.grown q12b.out (by have := NE11.out; simp; omega))
  have B12 := Lib.hid k12b.out
  have L4 := Lib.hid (HL.out.grown G4.out)
  have L9 : Hid (Kps w9 okL A L) := L4.out.keep fun b hb hlt => R9.out.md.block b hlt (HD.out b hb).2
  have hc := blk_n B5b.out HK.out
  have KX : Hid (KOk (r, n, x)) := ⟨HR.out, by have := HN.out; show n < 65536; omega, HXL.out⟩
  have MK := Lib.hid (keep_any (c := c) L9.out HKA.out HM.out HLE.out KX.out)
  rw [← HLL.out, ← HE.out] at MK
  clear e11 k11 q11 e12 k12 q12 k11b q11b z11 k12b q12b z12 B11a B12a B4 B5 B6 B8 MN
  go_wp2_with (first | (refine wpList_loadG agY rfl (.tmp 6) rfl g6 rfl B6b.out (by rw [u8s_length, HR.out]) ?_) | (refine wpList_loadG agY rfl (.tmp 12) rfl g12 rfl B12.out (by rw [u8s_length, HXL.out]) ?_) | (refine wpList_buildK rfl (.tmp 28) (.tmp 30) (.tmp 31) rfl n HR.out HXL.out rfl rfl rfl ?_) | (go_at_call 16; refine MK.out.mono ?_; rintro _ w10 ⟨A5, c5, rfl, hl1, hl2, hl3, hl4⟩; have HR1 := Lib.hid hl1; have HR2 := Lib.hid hl2; have HR3 := Lib.hid hl3; have HR4 := Lib.hid hl4; clear hl1 hl2 hl3 hl4; have B11b := Lib.hid (B11.out.grown HR4.out (by simp)); have B8c := Lib.hid (B8b.out.grown HR4.out (by simp))) | (refine wpList_loadG agC rfl (.tmp 11) rfl g11 rfl B11b.out (rv_length HBL.out) ?_) | (refine wpList_storeG agC rfl _ _ rfl g8 rfl rfl B8c.out (rv_length z32_length) (rv_length HBL.out) (rv_one _ _) ?_) | fail)
  intro w11 k8 q8 z8
  go_wp2_with fail
  refine bodyPost_ret (res_css rfl agC rfl rfl rfl k8.out (rv_length HBL.out)) rfl ?_
  have R10 := R9.out.alloc HR4.out
  have NX8 : ¬ More ok w4 w5 g8 := More.not (NOK.out g8 (by have := NE.out; omega)) (by have := NE.out; omega)
  have R11 : Reg w w11 ok (More ok w4 w5) p σ2 := (R10.base G4.out).store q8.out NX8 (by have := NE.out; omega) HS.out.two
  refine ⟨More ok w4 w5, fun b => w9.heap.size ≤ b ∧ b < w10.heap.size, A5, c5, rfl, R11, HR3.out.keep fun b hb hlt => q8.out.block b hlt (by rintro ⟨⟩; have := B8b.out.lt; omega), fun b hb => ⟨Nat.le_trans (Nat.le_trans G4.out.size R9.out.md.size) hb.1, by rw [z8.out]; exact hb.2, fun hbb => ?_⟩, HR1.out, HR2.out⟩
  have := R9.out.sui.lt b hbb
  omega
end Go.Proofs.YtdnkeaokgkiloaaDoor
