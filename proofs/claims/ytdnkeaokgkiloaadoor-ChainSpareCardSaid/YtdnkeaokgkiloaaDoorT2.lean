/- missivelaw17.alive. Conditions: the tables of the hash lie where the program lays them. -/
import Derived.Test.YtdnkeaokgkiloaaDoorT1
namespace Go.Proofs.YtdnkeaokgkiloaaDoor
open Go.RowKit T
theorem kall_nil : KAll [] := KAll.nil
theorem skip_24 {w : World} {ok : Nat → Prop} {p : Option Nat} {σ : Sg} (h : Sui w ok p σ) (hr : Room 100 σ) :
    Calls Tryd.prog 21 #[tab p, .agg (rv z32 2).toArray, .agg (u8s key1).toArray, .int .u16 4, .slice none 0 0] w fun e w' => ∃ okX b o c kk τ, e = .returned (.tuple #[.agg (rv kk 4).toArray, .slice (some ⟨b, o, none⟩) 2 c, .int .i64 0]) ∧ kk.length = 32 ∧ Room 104 τ ∧ Reg w w' ok okX p τ ∧ w'.cell? ⟨b, o + 65 + 32, none⟩ = some (.int .u16 3) ∧ ¬ okX b := by
  refine (skip_any (c := 0) (m := 0) (n := 2) (q := 4) (k := z32) (r := key1) (okL := fun _ => False) h (hr.mono (by omega)) z32_length (by omega) (by omega) key1_length Kps.nil KAll.nil rfl (by omega) (fun b hb => hb.elim)).mono fun e w' he => ?_
  obtain ⟨okX, okL, A, c, he, hR, hK, hA, _, _⟩ := he
  have hs : skipF key1 σ z32 2 4 [] = _ := skip_clean (m := 2) (L := []) (fun y hy => by cases hy) (by simp)
  rw [hs] at he hR hK
  dsimp only at he hR hK
  have hl : ([] ++ goM key1 2 σ z32 2).length = 2 := by rw [List.nil_append, goM_length]
  have hK2 := hK
  rw [hl] at he
  obtain ⟨b, o, rfl, hb, hrg⟩ := hK 1 (by rw [hl]; omega)
  refine ⟨okX, b, o, c, _, _, he, goK_length 2 _ _ z32_length, goS_room (n := 100) 2 σ z32 z32_length hr (by omega), hR, ?_, (hA b hb).2.2⟩
  have hk : KOk (key1, 3, nextL (nextS σ z32) (nextK σ z32)) := KOk.made key1_length (by omega)
  have := kv_n hk hrg
  exact this
set_option maxRecDepth 100000 in
set_option maxHeartbeats 1000000 in
theorem alive_any {w : World} (hT : S.Tab w) : Calls Tryd.prog 9 #[] w fun e w' => e = .returned (.bool true) ∧ w.grownBy w' none := by
  have HT := Lib.hid hT
  have MS := Lib.hid (suite_any w hT true)
  clear hT
  go_enter Tryd.func9, Tryd.ntmps9
  go_wp2_with (first | (go_at_call 11; refine MS.out.mono ?_; rintro _ w1 ⟨p, ok, rfl, hs, hn, hg⟩; have S1 := Lib.hid hs; have N1 := Lib.hid hn; have G1 := Lib.hid hg; clear hs hn hg) | (refine wpList_allocG zeS rfl rfl ?_) | fail)
  intro g1 w2 e1 k1 q1
  obtain ⟨pv, hpv⟩ : ∃ v, v = Value.pointer (p.map fun b => (⟨b, 0, none⟩ : Addr)) := ⟨_, rfl⟩
  have htab : tab p = .agg [pv].toArray := by rw [hpv]; rfl
  have HTAB := Lib.hid htab
  have HO : Hid (∀ u ∈ [pv], u.oneCell' = true) := fun u hu => by obtain rfl := List.mem_singleton.1 hu; rw [hpv]; rfl
  rw [htab]
  clear htab hpv
  go_wp2_with (first | (refine wpList_storeG agS rfl _ _ rfl g1 (vs := [pv]) rfl rfl k1.out rfl rfl HO.out ?_) | fail)
  intro w3 k1b q1b z1
  have G3 : Hid (w.grownBy w3 none) := World.grownBy.andThen (G1.out.trans q1.out) q1b.out (by rintro _ ⟨⟩; exact .inl (by rw [e1.out]; exact G1.out.size))
  have NG1 : ¬ ok g1 := fun hb => by have := S1.out.lt g1 hb; have := e1.out; omega
  have S3 := Lib.hid ((S1.out.grown q1.out).own q1b.out NG1 (by rw [e1.out]; exact S1.out.two))
  have B1 := Lib.hid k1b.out
  have NG := Lib.hid NG1
  have M1 := Lib.hid (skip_24 S3.out (sg0_room true 100))
  rw [HTAB.out] at M1
  clear e1 k1 q1 k1b q1b z1 MS NG1
  go_wp2_with (first | (refine wpList_loadG agS rfl (.tmp 1) rfl g1 rfl B1.out rfl ?_) | (refine wpList_rowN rfl _ rfl 2 rfl ?_) | (refine wpList_key1 rfl rfl ?_) | (go_at_call 21; refine M1.out.mono ?_; rintro _ w4 ⟨okX, b, o, c, kk, τ, rfl, hkk, hro, hR, hc3, hnb⟩; have KK := Lib.hid hkk; have RO := Lib.hid hro; have R4 := Lib.hid hR; have C4 := Lib.hid hc3; have NB := Lib.hid hnb; clear hkk hro hR hc3 hnb) | (refine wpList_allocG zeC rfl rfl ?_) | fail)
  intro g2 w5 e2 k2 q2
  go_wp2_with (first | (refine wpList_storeG agC rfl _ _ rfl g2 rfl rfl k2.out (rv_length z32_length) (rv_length KK.out) (rv_one _ _) ?_) | fail)
  intro w6 k2b q2b z2
  have NG2 : Hid (¬ okX g2) := R4.out.not_new (by rw [e2.out]; exact Nat.le_refl _)
  have R6 := Lib.hid ((R4.out.alloc q2.out).store q2b.out NG2.out (by rw [e2.out]; exact R4.out.md.size) S3.out.two)
  have B1b := Lib.hid (R6.out.blk B1.out NG.out)
  have B2 := Lib.hid k2b.out
  have C6 : Hid (w6.cell? ⟨b, o + 65 + 32, none⟩ = some (.int .u16 3)) := q2b.out.cell (q2.out.cell C4.out (by simp)) (fun e => by have e' : b = g2 := Option.some.inj e; have := World.block_lt_of_cell? w4 _ C4.out; have := e2.out; have e3 : (⟨b, o + 65 + 32, none⟩ : Addr).block = b := rfl; omega)
  have M2 : Hid (Calls Tryd.prog 21 #[.agg [pv].toArray, .agg (rv z32 2).toArray, .agg (u8s key1).toArray, .int .u16 1, .slice none 0 0] w6 fun e w' => ∃ okX2 A2 c2, e = .returned (.tuple #[.agg (rv z32 2).toArray, .slice A2 0 c2, .int .i64 180]) ∧ Reg w6 w' okX okX2 p τ) := by
    have hk := skip_any (A := none) (c := 0) (m := 0) (n := 2) (q := 1) (k := z32) (r := key1) (okL := fun _ => False) R6.out.sui (RO.out.mono (by omega)) z32_length (by omega) (by omega) key1_length Kps.nil KAll.nil rfl (by omega) (fun b hb => hb.elim)
    rw [HTAB.out] at hk
    refine hk.mono fun e w' he => ?_
    obtain ⟨okX2, okL2, A2, c2, he, hR, _, _, _, _⟩ := he
    have hs : skipF key1 τ z32 2 1 [] = _ := skip_back (by omega)
    rw [hs] at he hR
    exact ⟨okX2, A2, c2, he, hR⟩
  have NG2b := Lib.hid NG2.out
  clear e2 k2 q2 k2b q2b z2 M1 C4
  go_wp2_with (first | (refine wpList_loadG agS rfl (.tmp 1) rfl g1 rfl B1b.out rfl ?_) | (refine wpList_rowN rfl _ rfl 2 rfl ?_) | (refine wpList_key1 rfl rfl ?_) | (go_at_call 21; refine M2.out.mono ?_; rintro _ w7 ⟨okX2, A2, c2, rfl, hR⟩; have R7 := Lib.hid hR; clear hR) | (refine wpList_allocG zeC rfl rfl ?_) | fail)
  intro g5 w8 e5 k5 q5
  go_wp2_with (first | (refine wpList_storeG agC rfl _ _ rfl g5 rfl rfl k5.out (rv_length z32_length) (rv_length z32_length) (rv_one _ _) ?_) | fail)
  intro w9 k5b q5b z5
  have hlt5 : w6.heap.size ≤ g5 := by rw [e5.out]; exact R7.out.md.size
  have B2c := (R7.out.blk B2.out NG2b.out).grown q5.out (by simp)
  have B2d : C.Blk w9 g2 40 (rv kk 4) := B2c.grown q5b.out (by have := B2.out.lt; simp; omega)
  have hcn : w9.cell? ⟨g2, 32, none⟩ = some (.int .u16 4) := blk_n B2d KK.out
  have hcl : w9.cell? ⟨b, o + 65 + 32, none⟩ = some (.int .u16 3) := by
    have hb6 := World.block_lt_of_cell? w6 _ C6.out
    have c7 := (World.cell?_of_block (R7.out.md.block b hb6 NB.out)).trans C6.out
    exact q5b.out.cell (q5.out.cell c7 (by simp)) (fun e => by have e' : b = g5 := Option.some.inj e; have e3 : (⟨b, o + 65 + 32, none⟩ : Addr).block = b := rfl; omega)
  have G9 : Hid (w.grownBy w9 none) := by
    have n3 : ∀ b, ok b → w.heap.size ≤ b := N1.out
    have g6 : w.grownBy w6 none := md_grown R6.out.md G3.out n3
    have n6 := R6.out.new (w0 := w) G3.out.size n3
    have g7 : w.grownBy w7 none := md_grown R7.out.md g6 n6
    exact World.grownBy.andThen (g7.trans q5.out) q5b.out (by rintro _ ⟨⟩; exact .inl (Nat.le_trans g6.size hlt5))
  clear e5 k5 q5 k5b q5b z5 B2c B2d hlt5 M2 C6
  go_wp2_with (first | (refine wpList_indexKw (by rfl) (.tmp 38) _ rfl b o 2 c 1 rfl rfl (by omega) ?_) | fail)
  go_ret
  exact ⟨rfl, G9.out⟩
end Go.Proofs.YtdnkeaokgkiloaaDoor
