/- HMAC of a key and a text, as the program tells it. Conditions: none. -/
import Derived.Test.YtgphopahlgfogaaDoorMac2
namespace Go.Proofs.YtgphopahlgfogaaDoor
open Go.RowKit
theorem Blk.bytes {w : World} {g : Nat} {ty : TypeId} {x : List UInt8} (h : Blk w g ty (u8s x)) : Byt w (fun b => b < w.heap.size) (some ⟨g, 0, none⟩) x :=
  ((h.to (by rw [List.append_nil]; rfl)).byt (pre := []) (post := []) rfl).imp fun b hb => by rw [hb]; exact h.lt
theorem msum_one {w : World} {c2 gi go : Nat} {ok : Nat → Prop} {A2 : Option Addr} {fi fo x : List UInt8} (hi : Blk w gi 32 (u8s fi)) (ho : Blk w go 32 (u8s fo)) (hli : fi.length = 64) (hlo : fo.length = 64) (hp : Lst w ok A2 [x]) (hok : ∀ b, ok b → b < w.heap.size)
    (hs : 64 + x.length < 2305843009213693952) (hT : Tab w) :
    Calls Tryd.prog 16 #[.pointer (some ⟨gi, 0, none⟩), .pointer (some ⟨go, 0, none⟩), .slice A2 1 c2] w fun e w' => e = .returned (.agg (u8s (sha256 (fo ++ sha256 (fi ++ x)))).toArray) ∧ w.grownBy w' none := by
  have h := msum_any (c2 := c2) hi ho hli hlo hp hok rfl (by simp) (by simpa using hs) hT
  simpa using h
theorem size32a (x : List UInt8) (n : UInt8) : (Tryd.prog.info? 32).map (·.size) = some (u8s (xr n (kpad x))).toArray.size := by rw [size32, List.size_toArray, u8s_length, xr_length, kpad_length]
set_option maxRecDepth 100000 in
set_option maxHeartbeats 1600000 in
theorem mac_any {w : World} {c1 c2 n m : Nat} {ok : Nat → Prop} {A1 A2 : Option Addr} {key text : List UInt8} (hk : Byt w ok A1 key) (ht : Byt w ok A2 text) (hok : ∀ b, ok b → b < w.heap.size) (hn : key.length = n) (hm : text.length = m) (hc1 : n ≤ c1) (hcm1 : c1 ≤ maxLen) (hc2 : m ≤ c2) (hcm2 : c2 ≤ maxLen) (hs1 : n < 1152921504606846976) (hs3 : m < 1152921504606846976) (hT : Tab w) :
    Calls Tryd.prog 8 #[.slice A1 n c1, .slice A2 m c2] w fun e w' => e = .returned (.agg (u8s (hmac key text)).toArray) ∧ w.grownBy w' none := by
  have hs2 : 64 + text.length < 2305843009213693952 := by omega
  have HK := Lib.hid hk
  have HX := Lib.hid ht
  have HN := Lib.hid hn
  have HM := Lib.hid hm
  have HS2 := Lib.hid hs2
  have HT := Lib.hid hT
  clear hk ht hn hm hT hs2
  go_enter Tryd.func8, Tryd.ntmps8
  go_wp2_with (refine wpList_alloc24 rfl rfl ?_)
  intro w1 hb1 hg1 hz1
  have hk1 := HK.out.grown hg1 (fun b hb => ⟨hok b hb, by simp⟩)
  have hT1 := HT.out.grown hg1 (by simp) (by simp)
  have ho1 : ∀ b, ok b → b < w1.heap.size := fun b hb => by have := hok b hb; omega
  have HB1 := Lib.hid hb1
  have HG1 := Lib.hid hg1
  have HZ1 := Lib.hid hz1
  have HK1 := Lib.hid hk1
  have HT1 := Lib.hid hT1
  have HO1 := Lib.hid ho1
  clear hb1 hg1 hz1 hk1 hT1 ho1
  go_wp2_with (first
    | (go_at_call 15; refine (forms_any HK1.out HO1.out HN.out hc1 hcm1 (by omega) HT1.out).mono ?_; rintro _ w2 ⟨rfl, hg2⟩)
    | (refine wpList_alloc32 rfl rfl ?_))
  intro w3 hb3 hg3 hz3
  go_wp2_with (refine wpList_alloc32 rfl rfl ?_)
  intro w4 hb4 hg4 hz4
  obtain ⟨fi, hfi⟩ : ∃ l, l = xr 54 (kpad key) := ⟨_, rfl⟩
  obtain ⟨fo, hfo⟩ : ∃ l, l = xr 92 (kpad key) := ⟨_, rfl⟩
  have hli : fi.length = 64 := by rw [hfi, xr_length, kpad_length]
  have hlo : fo.length = 64 := by rw [hfo, xr_length, kpad_length]
  obtain ⟨g5, hg5⟩ : ∃ g, g = w2.heap.size := ⟨_, rfl⟩
  obtain ⟨g6, hg6⟩ : ∃ g, g = w2.heap.size + 1 := ⟨_, rfl⟩
  rw [← hfi, ← hfo, ← hg6, ← hg5]
  rw [← hg6] at hb4
  rw [← hg5] at hb3
  have hb34 := hb3.grown hg4 (by simp)
  have hg24 := World.grownBy.trans hg3 hg4
  have hg14 := World.grownBy.trans hg2 hg24
  have hne : g5 ≠ g6 := by omega
  have hz2 := hg2.size
  have hz11 := HZ1.out
  have hw5 : w.heap.size < g5 := by omega
  have hw6 : w.heap.size < g6 := by omega
  have HB3 := Lib.hid hb34
  have HB4 := Lib.hid hb4
  have HG14 := Lib.hid hg14
  have HFI := Lib.hid hfi
  have HFO := Lib.hid hfo
  have HLI := Lib.hid hli
  have HLO := Lib.hid hlo
  clear hg2 hg3 hg4 hz3 hz4 hb3 hb34 hb4 hg24 hg14 hz2 hz11 hfi hfo hli hlo hg5 hg6
  go_upto_region 2 with (first
    | (refine wpList_store_row rfl 32 _ _ rfl g5 (u8s fi).toArray rfl rfl 32 _ HB3.out (by rw [size32, List.size_toArray, u8s_length, HLI.out]) (by simp [u8s_length, HLI.out, zs_length]) (all_oneCell_toArray (u8s_one _)) ?_)
    | (refine wpList_store_row rfl 32 _ _ rfl g6 (u8s fo).toArray rfl rfl 32 _ (HB4.out.grown (grown_setRow _ g5 _) (fun e => hne (Option.some.inj e).symm)) (by rw [size32, List.size_toArray, u8s_length, HLO.out]) (by simp [u8s_length, HLO.out, zs_length]) (all_oneCell_toArray (u8s_one _)) ?_))
  obtain ⟨w5, hw5e⟩ : ∃ w', w' = (w4.setRow g5 (u8s fi).toArray).setRow g6 (u8s fo).toArray := ⟨_, rfl⟩
  rw [← hw5e]
  have hbi : Blk w5 g5 32 (u8s fi) := by rw [hw5e]; exact Blk.grown (Blk.setRow HB3.out) (grown_setRow _ g6 _) (fun e => hne (Option.some.inj e))
  have hbo : Blk w5 g6 32 (u8s fo) := by rw [hw5e]; exact Blk.setRow (HB4.out.grown (grown_setRow _ g5 _) (fun e => hne (Option.some.inj e).symm))
  have hz11 := HZ1.out
  have hg15 : w1.grownBy w5 none := by
    rw [hw5e]
    exact World.grownBy.andThen (World.grownBy.andThen HG14.out (grown_setRow _ g5 _) (by rintro _ ⟨⟩; exact .inl (by omega))) (grown_setRow _ g6 _) (by rintro _ ⟨⟩; exact .inl (by omega))
  obtain ⟨W, hW⟩ : ∃ W, W = w5.alloc (.cells #[.slice A2 m c2] 22) := ⟨_, rfl⟩
  have hg5W : w5.grownBy W none := by rw [hW]; exact World.grownBy_alloc w5 _ none
  have hg1W := World.grownBy.trans hg15 hg5W
  have hgW := World.grownBy.trans HG1.out hg1W
  have hbl : Blk W w5.heap.size 22 [.slice A2 m c2] := by rw [hW]; exact Blk.of_alloc w5 #[.slice A2 m c2] 22
  have hx7 : Byt W (fun b => b < W.heap.size) A2 text := (HX.out.grown hgW (fun b hb => ⟨hok b hb, by simp⟩)).imp fun b hb => Nat.lt_of_lt_of_le (hok b hb) hgW.size
  have hps7 : Lst W (fun b => b < W.heap.size) (some ⟨w5.heap.size, 0, none⟩) [text] := lst_one hbl hbl.lt HM.out hc2 hcm2 hx7
  have hiW := hbi.grown hg5W (by simp)
  have hoW := hbo.grown hg5W (by simp)
  have hTW := HT1.out.grown hg1W (by simp) (by simp)
  have hbW := HB1.out.grown hg1W (by simp)
  have HGW := Lib.hid hgW
  have HPS := Lib.hid hps7
  have HIW := Lib.hid hiW
  have HOW := Lib.hid hoW
  have HTW := Lib.hid hTW
  have HBW := Lib.hid hbW
  have HWE := Lib.hid hW
  have hend : sha256 (fo ++ sha256 (fi ++ text)) = hmac key text := by rw [HFI.out, HFO.out]; rfl
  have HEND := Lib.hid hend
  clear hw5e hbi hbo hz11 hg15 hW hg5W hg1W hgW hbl hx7 hps7 hiW hoW hTW hbW hend
  go_wp2_with (first
    | (go_at_call 16; rw [← HWE.out]; refine (msum_one HIW.out HOW.out HLI.out HLO.out HPS.out (fun b hb => hb) HS2.out HTW.out).mono ?_; rintro _ w6 ⟨rfl, hg6⟩)
    | (refine wpList_store_row rfl 24 _ _ rfl w.heap.size (u8s (sha256 (fo ++ sha256 (fi ++ text)))).toArray rfl rfl 24 _ (HBW.out.grown hg6 (by simp)) (by rw [size24, List.size_toArray, u8s_length, sha256_length]) (by simp [u8s_length, sha256_length, zs_length]) (all_oneCell_toArray (u8s_one _)) ?_))
  have hb6 := HBW.out.grown hg6 (by simp)
  refine bodyPost_ret (results_cell_row rfl _ _ w.heap.size 24 (u8s (sha256 (fo ++ sha256 (fi ++ text)))).toArray (0, 0) _ rfl (setRow_heap w6 w.heap.size _ _ 24 (0, 0) hb6) Tryd.underlying24 rfl (by rw [size24, List.size_toArray, u8s_length, sha256_length])) rfl ⟨by rw [HEND.out], ?_⟩
  exact World.grownBy.andThen (World.grownBy.trans HGW.out hg6) (grown_setRow _ _ _) (by rintro _ ⟨⟩; exact .inl (Nat.le_refl _))
end Go.Proofs.YtgphopahlgfogaaDoor
