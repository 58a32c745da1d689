/- chain.mixes. Conditions: there is room for two more terms; the parts are such as may be mixed. -/
import Derived.Test.YtdnkeaokgkiloaaDoorR1
namespace Go.Proofs.YtdnkeaokgkiloaaDoor
open Go.RowKit T
theorem Nx.blk {w w' : World} {ok : Nat → Prop} {p : Option Nat} {τ : Sg} {g : Nat} {t : TypeId} {vs : List Value} (h : Nx w ok p τ w') (hb : C.Blk w g t vs) (hn : ¬ ok g) : C.Blk w' g t vs := hb.keep (h.2.block g hb.lt hn)
theorem Rx.blk {w w' : World} {ok : Nat → Prop} {p : Option Nat} {τ : Sg} {g : Nat} {t : TypeId} {vs : List Value} (h : Rx w ok p τ w') (hb : C.Blk w g t vs) (hn : ¬ ok g) : C.Blk w' g t vs := hb.keep (h.2.block g hb.lt hn)
/-- A list that the caller keeps: the blocks are none of the suite's. -/
theorem lst_md {w w' : World} {ok ok' : Nat → Prop} {A : Option Addr} {ps : List (List UInt8)} (h : Lst w ok' A ps) (hd : ∀ b, ok' b → b < w.heap.size ∧ ¬ ok b) (hm : Md ok w w') : Lst w' ok' A ps := h.keep fun b hb => hm.block b (hd b hb).1 (hd b hb).2
set_option maxRecDepth 100000 in
set_option maxHeartbeats 1600000 in
theorem mixes_any {w : World} {ok ok' : Nat → Prop} {p : Option Nat} {σ : Sg} {A : Option Addr} {ps : List (List UInt8)} {n c : Nat} (x y : UInt8) (h : Sui w ok p σ) (hr : Room 59900 σ) (hx : Lst w ok' A ps) (hd : ∀ b, ok' b → b < w.heap.size ∧ ¬ ok b) (hn : ps.length = n) (hmo : MixOk ps) :
    Calls Tryd.prog 23 #[tab p, .int .u8 (x.toNat : Int), .int .u8 (y.toNat : Int), .slice A n c] w fun e w' => e = .returned (.tuple #[.agg (u8s (mixV σ x ps)).toArray, .agg (u8s (mixV (mixS σ x ps) y ps)).toArray, .bool true]) ∧ Nx w ok p (mixS (mixS σ x ps) y ps) w' := by
  obtain ⟨a, ha⟩ : ∃ a, a = mixV σ x ps := ⟨_, rfl⟩
  obtain ⟨σ1, h1⟩ : ∃ s, s = mixS σ x ps := ⟨_, rfl⟩
  have hr1 : Room 60000 σ1 := by rw [h1]; exact (hr.mix hmo (by omega)).mono (by omega)
  rw [← ha, ← h1]
  obtain ⟨b, hb⟩ : ∃ b, b = mixV σ1 y ps := ⟨_, rfl⟩
  obtain ⟨σ2, h2⟩ : ∃ s, s = mixS σ1 y ps := ⟨_, rfl⟩
  rw [← hb, ← h2]
  have hal : a.length = 32 := by rw [ha]; exact mixV_length _ _ _
  have hbl : b.length = 32 := by rw [hb]; exact mixV_length _ _ _
  obtain ⟨pv, hpv⟩ : ∃ v, v = Value.pointer (p.map fun b => (⟨b, 0, none⟩ : Addr)) := ⟨_, rfl⟩
  have htab : tab p = .agg [pv].toArray := by rw [hpv]; rfl
  have HA := Lib.hid ha
  have H1 := Lib.hid h1
  have HB := Lib.hid hb
  have H2 := Lib.hid h2
  have HAL := Lib.hid hal
  have HBL := Lib.hid hbl
  have HS := Lib.hid h
  have HR := Lib.hid (hr.mono (show 59900 ≤ 60000 by omega))
  have HR1 := Lib.hid hr1
  have HX := Lib.hid hx
  have HD := Lib.hid hd
  have HN := Lib.hid hn
  have HMO := Lib.hid hmo
  have HTAB := Lib.hid htab
  rw [htab]
  clear ha h1 hb h2 hal hbl h hr hr1 hx hd hn hmo htab hpv
  go_enter Tryd.func23, Tryd.ntmps23
  go_wp2_with (first | (refine wpList_boxG rfl _ rfl (vs := [pv]) rfl ?_) | fail)
  intro g4 w1 e4 k4 q4
  go_wp2_with (first | (refine wpList_allocG zeY rfl rfl ?_) | fail)
  intro g8 w2 e8 k8 q8
  go_wp2_with (first | (refine wpList_allocG zeY rfl rfl ?_) | fail)
  intro g9 w3 e9 k9 q9
  have G3 := Lib.hid ((q4.out.trans q8.out).trans q9.out)
  have B4 := Lib.hid ((k4.out.grown q8.out (by simp)).grown q9.out (by simp))
  have B8 := Lib.hid (k8.out.grown q9.out (by simp))
  have B9 := Lib.hid k9.out
  have NE : Hid (w.heap.size ≤ g4 ∧ g4 < g8 ∧ g8 < g9 ∧ g9 < w3.heap.size) := by
    have a1 := e4.out; have a2 := e8.out; have a3 := e9.out; have a4 := k4.out.lt; have a5 := k8.out.lt; have a6 := k9.out.lt
    show _ ∧ _
    omega
  have NOK : Hid (∀ g, w.heap.size ≤ g → ¬ ok g) := fun g hg hb => by have := HS.out.lt g hb; omega
  have S3 := Lib.hid (HS.out.grown G3.out)
  have X3 := Lib.hid (HX.out.keep (w' := w3) fun b hb => G3.out.block b (HD.out b hb).1 (by simp))
  have M1 : Hid (Calls Tryd.prog 32 #[.agg [pv].toArray, .int .u8 (x.toNat : Int), .slice A n c] w3 fun e w' => e = .returned (.tuple #[.agg (u8s a).toArray, .bool true]) ∧ Nx w3 ok p σ1 w') := by
    have hm := mix_any (c := c) x S3.out HR.out X3.out (fun b hb => Nat.lt_of_lt_of_le (HD.out b hb).1 G3.out.size) HN.out HMO.out
    rw [HTAB.out] at hm
    refine hm.mono fun e w' ⟨he, hn⟩ => ⟨?_, by rw [H1.out]; exact hn⟩
    rw [HA.out]
    exact he
  clear e4 k4 q4 e8 k8 q8 e9 k9 q9
  go_wp2_with (first | (refine wpList_loadG agS rfl (.tmp 4) rfl g4 rfl B4.out rfl ?_) | (go_at_call 32; refine M1.out.mono ?_; rintro _ w4 ⟨rfl, hn4⟩; have N4 := Lib.hid hn4; clear hn4) | (refine wpList_allocG zeY rfl rfl ?_) | fail)
  intro g11 w5 e11 k11 q11
  go_wp2_with (first | (refine wpList_storeG agY rfl _ _ rfl g11 rfl rfl k11.out (by rw [u8s_length, z32_length]) (by rw [u8s_length, HAL.out]) (u8s_one _) ?_) | fail)
  intro w6 k11b q11b z6
  -- the suite and the blocks behind the first one
  have L3 : Hid (∀ b, ok b → b < w3.heap.size) := S3.out.lt
  have NE6 : Hid (w4.heap.size ≤ g11 ∧ g11 < w6.heap.size ∧ w3.heap.size ≤ w4.heap.size) := by
    have a1 := e11.out; have a2 := k11b.out.lt; have a3 := N4.out.2.size
    show _ ∧ _
    omega
  have S4 := Lib.hid N4.out.1
  have S5 := Lib.hid (S4.out.grown q11.out)
  have NM11 : Hid (¬ More ok w3 w4 g11) := fun hb => by have := More.lt L3.out N4.out.2.size g11 hb; have := NE6.out.1; omega
  have S6 := Lib.hid (S5.out.own q11b.out NM11.out (by have := S4.out.two; have := NE6.out.1; omega))
  have NK : ∀ g, w.heap.size ≤ g → g < w3.heap.size → w6.heap[g]? = w3.heap[g]? := fun g h1 h2 => by
    have a1 := N4.out.2.block g h2 (NOK.out g h1)
    have a2 := q11.out.block g (Nat.lt_of_lt_of_le h2 N4.out.2.size) (by simp)
    have a3 := q11b.out.block g (Nat.lt_of_lt_of_le (Nat.lt_of_lt_of_le h2 N4.out.2.size) q11.out.size) (fun e => by have e' : g = g11 := Option.some.inj e; have := NE6.out; omega)
    exact a3.trans (a2.trans a1)
  have B4b := Lib.hid (B4.out.keep (NK g4 NE.out.1 B4.out.lt))
  have B8b := Lib.hid (B8.out.keep (NK g8 (by have := NE.out; omega) B8.out.lt))
  have B9b := Lib.hid (B9.out.keep (NK g9 (by have := NE.out; omega) B9.out.lt))
  have B11 := Lib.hid k11b.out
  have X6 := Lib.hid (X3.out.keep (w' := w6) fun b hb => by
    have h1 := HD.out b hb
    have h2 := Nat.lt_of_lt_of_le h1.1 G3.out.size
    have a1 := N4.out.2.block b h2 h1.2
    have a2 := q11.out.block b (Nat.lt_of_lt_of_le h2 N4.out.2.size) (by simp)
    have a3 := q11b.out.block b (Nat.lt_of_lt_of_le (Nat.lt_of_lt_of_le h2 N4.out.2.size) q11.out.size) (fun e => by have e' : b = g11 := Option.some.inj e; have := NE6.out; omega)
    exact a3.trans (a2.trans a1))
  have D6 : Hid (Md ok w3 w6) := md_own (N4.out.2.trans (Md.of_below (grown_below q11.out))) q11b.out (by have := NE6.out; omega)
  have M2 : Hid (Calls Tryd.prog 32 #[.agg [pv].toArray, .int .u8 (y.toNat : Int), .slice A n c] w6 fun e w' => e = .returned (.tuple #[.agg (u8s b).toArray, .bool true]) ∧ Nx w6 (More ok w3 w4) p σ2 w') := by
    have hm := mix_any (c := c) y S6.out HR1.out X6.out (fun b hb => Nat.lt_of_lt_of_le (HD.out b hb).1 (Nat.le_trans G3.out.size D6.out.size)) HN.out HMO.out
    rw [HTAB.out] at hm
    refine hm.mono fun e w' ⟨he, hn⟩ => ⟨?_, by rw [H2.out]; exact hn⟩
    rw [HB.out]
    exact he
  clear NK e11 k11 q11 k11b q11b z6 B4 B8 B9 S3 S4 S5 X3 M1 HX
  go_wp2_with (first | (refine wpList_loadG agS rfl (.tmp 4) rfl g4 rfl B4b.out rfl ?_) | (go_at_call 32; refine M2.out.mono ?_; rintro _ w7 ⟨rfl, hn7⟩; have N7 := Lib.hid hn7; clear hn7) | (refine wpList_allocG zeY rfl rfl ?_) | fail)
  intro g13 w8 e13 k13 q13
  go_wp2_with (first | (refine wpList_storeG agY rfl _ _ rfl g13 rfl rfl k13.out (by rw [u8s_length, z32_length]) (by rw [u8s_length, HBL.out]) (u8s_one _) ?_) | fail)
  intro w9 k13b q13b z9
  have S7 := Lib.hid N7.out.1
  have NE9 : Hid (w7.heap.size ≤ g13 ∧ g13 < w9.heap.size ∧ w6.heap.size ≤ w7.heap.size ∧ w7.heap.size ≤ w9.heap.size) := by
    have a1 := e13.out; have a2 := k13b.out.lt; have a3 := N7.out.2.size; have a4 := q13.out.size; have a5 := z9.out
    show _ ∧ _
    omega
  have NK : ∀ g, g < w6.heap.size → ¬ More ok w3 w4 g → w9.heap[g]? = w6.heap[g]? := fun g h2 h1 => by
    have a1 := N7.out.2.block g h2 h1
    have a2 := q13.out.block g (Nat.lt_of_lt_of_le h2 N7.out.2.size) (by simp)
    have a3 := q13b.out.block g (Nat.lt_of_lt_of_le (Nat.lt_of_lt_of_le h2 N7.out.2.size) q13.out.size) (fun e => by have e' : g = g13 := Option.some.inj e; have := NE9.out; omega)
    exact a3.trans (a2.trans a1)
  have B8c := Lib.hid (B8b.out.keep (NK g8 B8b.out.lt (More.not (NOK.out g8 (by have := NE.out; omega)) (by have := NE.out; omega))))
  have B9c := Lib.hid (B9b.out.keep (NK g9 B9b.out.lt (More.not (NOK.out g9 (by have := NE.out; omega)) (by have := NE.out; omega))))
  have B11c := Lib.hid (B11.out.keep (NK g11 B11.out.lt NM11.out))
  have B13 := Lib.hid k13b.out
  have D9 : Hid (Md ok w3 w9) := by
    have hm7 : Md ok w3 w7 := ⟨N7.out.2.os.trans D6.out.os, N7.out.2.tape.trans D6.out.tape, N7.out.2.output.trans D6.out.output, Nat.le_trans D6.out.size N7.out.2.size, fun k hk hn => (N7.out.2.block k (Nat.lt_of_lt_of_le hk D6.out.size) (fun hb => hb.elim hn fun h => by have := h.1; omega)).trans (D6.out.block k hk hn)⟩
    exact md_own (hm7.trans (Md.of_below (grown_below q13.out))) q13b.out (by have := NE6.out; have := NE9.out; have := D6.out.size; omega)
  have NM13 : Hid (¬ More (More ok w3 w4) w6 w7 g13) := fun hb => by have := S7.out.lt g13 hb; have := NE9.out.1; omega
  have S9 := Lib.hid ((S7.out.grown q13.out).own q13b.out NM13.out (by have := S7.out.two; have := NE9.out.1; omega))
  clear NK e13 k13 q13 k13b q13b z9 B8b B9b B11 B4b S7 S6 X6 M2
  go_wp2_with fail
  have NE89 : Hid (g9 ≠ g8) := by have := NE.out; show g9 ≠ g8; omega
  have NE98 : Hid (g8 ≠ g9) := by have := NE.out; show g8 ≠ g9; omega
  have NX1 : Hid (g11 ≠ g8 ∧ g13 ≠ g8) := by have := NE.out; have := NE6.out; have := NE9.out; have := D6.out.size; show _ ∧ _; omega
  have NX2 : Hid (g11 ≠ g9 ∧ g13 ≠ g9) := by have := NE.out; have := NE6.out; have := NE9.out; have := D6.out.size; show _ ∧ _; omega
  have NMQ : ∀ g, w.heap.size ≤ g → g < w3.heap.size → ¬ More (More ok w3 w4) w6 w7 g := fun g h1 h2 hb => by
    have d6 := D6.out.size
    rcases hb with (hb | hb) | hb
    · exact NOK.out g h1 hb
    · omega
    · omega
  have NM8 := Lib.hid (NMQ g8 (by have := NE.out; omega) (by have := NE.out; omega))
  have NM9 := Lib.hid (NMQ g9 (by have := NE.out; omega) (by have := NE.out; omega))
  clear NMQ
  refine wp_region_held_drew (S := fun W => W.rangeAt g11 0 (u8s a) ∧ W.rangeAt g13 0 (u8s b)) (by kernel_rfl) ⟨range_of B11c.out, range_of B13.out⟩ (fun hHeld => ?_)
  refine' wpAnyH_take (i := 0) (oi := { dst := some 37, op := Op.load 24 (Operand.tmp 11), type := 24, pos := "chain.go:100", after := #[], guard := none }) (v := .agg (u8s a).toArray) rfl (by kernel_rfl) (by kernel_rfl) (by kernel_rfl) (fun _ _ _ h => h) (yieldsIf_loadR agY (by rfl) (.tmp 11) rfl g11 0 rfl (by rw [u8s_length, HAL.out]) (fun _ h => h.1)) (by assumption) ?qz1
  try simp only [Act.put, List.setIfInBounds_toArray, List.set_cons_zero, List.set_cons_succ]
  refine' wpAnyH_take (i := 1) (oi := { dst := some 38, op := Op.load 24 (Operand.tmp 13), type := 24, pos := "chain.go:100", after := #[{ on := 2, ground := Ground.gcOnly Departure.lateStores }], guard := none }) (v := .agg (u8s b).toArray) rfl (by kernel_rfl) (by kernel_rfl) (by kernel_rfl) (fun _ _ _ h => h) (yieldsIf_loadR agY (by rfl) (.tmp 13) rfl g13 0 rfl (by rw [u8s_length, HBL.out]) (fun _ h => h.2)) (by assumption) ?qz2
  try simp only [Act.put, List.setIfInBounds_toArray, List.set_cons_zero, List.set_cons_succ]
  refine wpAnyH_ready (rs := [2]) (by kernel_rfl) (by simp) ?_
  refine AllReadyH.cons (o := { dst := none, op := Op.store 24 (Operand.tmp 8) (Operand.tmp 37), type := 0, pos := "chain.go:100", after := #[{ on := 0, ground := Ground.data }, { on := 0, ground := Ground.phase }, { on := 1, ground := Ground.textOnly Departure.lateStores }], guard := none }) rfl (fun K hK => ?_) AllReadyH.nil
  rw [if_pos (by rfl)]
  refine wp_storeG agY _ _ rfl g8 rfl rfl B8c.out (by rw [u8s_length, z32_length]) (by rw [u8s_length, HAL.out]) (u8s_one _) (fun w10 k10 qk10 zk10 => ?_)
  have B9d := Lib.hid ((B9c.out.grown (grown_drew w9) (by simp)).grown qk10.out (by simpa using NE89.out))
  refine hK.out _ _ ⟨range_keep hHeld.1 fun hlt => qk10.out.block g11 hlt (by simpa using NX1.out.1), range_keep hHeld.2 fun hlt => qk10.out.block g13 hlt (by simpa using NX1.out.2)⟩ (fun hHeld => ?_)
  clear hK K
  dsimp only [Act.put]
  refine wpAnyH_ready (rs := [3]) (by kernel_rfl) (by simp) ?_
  refine AllReadyH.cons (o := { dst := none, op := Op.store 24 (Operand.tmp 9) (Operand.tmp 38), type := 0, pos := "chain.go:100", after := #[{ on := 1, ground := Ground.data }, { on := 2, ground := Ground.chain }, { on := 0, ground := Ground.phase }, { on := 1, ground := Ground.phase }, { on := 2, ground := Ground.phase }], guard := none }) rfl (fun K hK => ?_) AllReadyH.nil
  rw [if_pos (by rfl)]
  refine wp_storeG agY _ _ rfl g9 rfl rfl B9d.out (by rw [u8s_length, z32_length]) (by rw [u8s_length, HBL.out]) (u8s_one _) (fun w11 k11 qk11 zk11 => ?_)
  refine hK.out _ _ ⟨range_keep hHeld.1 fun hlt => qk11.out.block g11 hlt (by simpa using NX2.out.1), range_keep hHeld.2 fun hlt => qk11.out.block g13 hlt (by simpa using NX2.out.2)⟩ (fun hHeld => ?_)
  clear hK K
  dsimp only [Act.put]
  refine wpAnyH_ready (rs := [4]) (by kernel_rfl) (by simp) ?_
  refine AllReadyH.cons (o := { dst := some 10, op := Op.assign (Operand.const (Value.bool true)), type := 4, pos := "chain.go:100", after := #[{ on := 3, ground := Ground.chain }, { on := 0, ground := Ground.phase }, { on := 1, ground := Ground.phase }, { on := 2, ground := Ground.phase }, { on := 3, ground := Ground.phase }], guard := none }) rfl (fun K hK => ?_) AllReadyH.nil
  rw [if_pos (by rfl)]
  go_simp
  refine hK.out _ _ hHeld (fun hHeld => ?_)
  clear hK K
  try simp only [Act.put, List.setIfInBounds_toArray, List.set_cons_zero, List.set_cons_succ]
  refine wpAnyH_done (by kernel_rfl) ?_ _
  go_wp2_with fail
  refine bodyPost_ret (res_ccs rfl agY agY rfl rfl rfl (k10.out.grown qk11.out (by simpa using NE98.out)) k11.out (by rw [u8s_length, HAL.out]) (by rw [u8s_length, HBL.out])) rfl ⟨rfl, ?_⟩
  have S11 := (((S9.out.grown (grown_drew w9)).own qk10.out NM8.out (by have := HS.out.two; have := NE.out; omega)).own qk11.out NM9.out (by have := HS.out.two; have := NE.out; omega))
  have hz : w9.heap.size ≤ w11.heap.size := Nat.le_trans qk10.out.size qk11.out.size
  have D11 : Md ok w w11 := md_own (md_own ((⟨D9.out.os.trans G3.out.os, D9.out.tape.trans G3.out.tape, D9.out.output.trans G3.out.output, Nat.le_trans G3.out.size D9.out.size, fun k hk hn => (D9.out.block k (Nat.lt_of_lt_of_le hk G3.out.size) hn).trans (G3.out.block k hk (by simp))⟩ : Md ok w w9).trans (Md.of_below (grown_below (grown_drew w9)))) qk10.out (by have := NE.out; omega)) qk11.out (by have := NE.out; omega)
  refine ⟨S11.imp (fun q hq => ?_) (More.lt HS.out.lt D11.size), D11⟩
  have n9 := NE9.out
  have n6 := NE6.out
  have n3 := G3.out.size
  have d6 := D6.out.size
  rcases hq with (hq | hq) | hq
  · exact .inl hq
  · exact .inr ⟨by omega, by omega⟩
  · exact .inr ⟨by omega, by omega⟩
end Go.Proofs.YtdnkeaokgkiloaaDoor
