/- The document's example, as the laws ask for it. Conditions: none. -/
import Derived.Test.YtgphopahlgfogaaDoorHkdf
import Derived.Test.YtgphopahlgfogaaDoorKnown
import Derived.Lib.SlBytesConst
namespace Go.Proofs.YtgphopahlgfogaaDoor
open Go.RowKit
theorem byt_marked (w : World) (x : List UInt8) (fr : Nat × Nat) : Byt (w.alloc (.cells (u8s x).toArray 5 fr)) (fun b => b < (w.alloc (.cells (u8s x).toArray 5 fr)).heap.size) (some ⟨w.heap.size, 0, none⟩) x := fun j hj => by
  refine ⟨_, rfl, by simp, ?_⟩
  rw [Addr.add_lit, Nat.zero_add, World.cell?_alloc_mark]
  unfold u8s
  rw [List.getElem?_toArray, List.getElem?_map, List.getElem?_eq_getElem hj]
  rfl
theorem get_agg (l : List UInt8) (i : Nat) (h : i < l.length) : (u8s l)[i]? = some (.int .u8 ((l.getD i 0).toNat : Int)) := by
  unfold u8s
  rw [List.getElem?_map, List.getElem?_eq_getElem h, List.getD_eq_getElem?_getD, List.getElem?_eq_getElem h]
  rfl
theorem alive_call {w : World} (hT : Tab w) : Calls Tryd.prog 8 #[.slice (some ⟨w.heap.size, 0, none⟩) 3 3, .slice (some ⟨w.heap.size + 1, 0, none⟩) 43 43] ((w.alloc (.cells (u8s exKey).toArray 5 (3, 4))).alloc (.cells (u8s exText).toArray 5 (43, 44))) fun e w' => e = .returned (.agg (u8s (hmac exKey exText)).toArray) ∧ w.grownBy w' none := by
  obtain ⟨w1, hw1⟩ : ∃ w1, w1 = w.alloc (.cells (u8s exKey).toArray 5 (3, 4)) := ⟨_, rfl⟩
  obtain ⟨w2, hw2⟩ : ∃ w2, w2 = w1.alloc (.cells (u8s exText).toArray 5 (43, 44)) := ⟨_, rfl⟩
  have hg1 : w.grownBy w1 none := by rw [hw1]; exact World.grownBy_alloc w _ none
  have hg12 : w1.grownBy w2 none := by rw [hw2]; exact World.grownBy_alloc w1 _ none
  have hg2 := World.grownBy.trans hg1 hg12
  have hz1 : w1.heap.size = w.heap.size + 1 := by rw [hw1]; exact World.size_alloc w _
  have hk1 : Byt w1 (fun b => b < w1.heap.size) (some ⟨w.heap.size, 0, none⟩) exKey := by rw [hw1]; exact byt_marked w exKey (3, 4)
  have ht2 : Byt w2 (fun b => b < w2.heap.size) (some ⟨w.heap.size + 1, 0, none⟩) exText := by rw [← hz1, hw2]; exact byt_marked w1 exText (43, 44)
  have hk2 : Byt w2 (fun b => b < w2.heap.size) (some ⟨w.heap.size, 0, none⟩) exKey := (hk1.grown hg12 (fun b hb => ⟨hb, by simp⟩)).imp fun b hb => Nat.lt_of_lt_of_le hb hg12.size
  have hT2 := hT.grown hg2 (by simp) (by simp)
  have hm : (43 : Nat) ≤ maxLen := by unfold maxLen; omega
  rw [hw1] at hw2
  rw [← hw2]
  exact (mac_any hk2 ht2 (fun b hb => hb) rfl rfl (by simp [exKey]) (by unfold maxLen; omega) (by simp [exText]) hm (by simp [exKey]) (by simp [exText]) hT2).mono fun e w' ⟨h1, h2⟩ => ⟨h1, World.grownBy.trans hg2 h2⟩
set_option maxRecDepth 100000 in
set_option maxHeartbeats 1600000 in
theorem alive_any {w : World} (hT : Tab w) : Calls Tryd.prog 7 #[] w fun e w' => e = .returned (.bool true) ∧ w.grownBy w' none := by
  have k1 := Lib.run_convert_bytes_const (P := Tryd.prog) w 22 5 #[.int .u8 107, .int .u8 101, .int .u8 121] 3 3 Tryd.underlying22 Tryd.underlying5
  have k2 := Lib.run_convert_bytes_const (P := Tryd.prog) (w.alloc (.cells #[.int .u8 107, .int .u8 101, .int .u8 121] 5 (3, 4))) 22 5 #[.int .u8 84, .int .u8 104, .int .u8 101, .int .u8 32, .int .u8 113, .int .u8 117, .int .u8 105, .int .u8 99, .int .u8 107, .int .u8 32, .int .u8 98, .int .u8 114, .int .u8 111, .int .u8 119, .int .u8 110, .int .u8 32, .int .u8 102, .int .u8 111, .int .u8 120, .int .u8 32, .int .u8 106, .int .u8 117, .int .u8 109, .int .u8 112, .int .u8 115, .int .u8 32, .int .u8 111, .int .u8 118, .int .u8 101, .int .u8 114, .int .u8 32, .int .u8 116, .int .u8 104, .int .u8 101, .int .u8 32, .int .u8 108, .int .u8 97, .int .u8 122, .int .u8 121, .int .u8 32, .int .u8 100, .int .u8 111, .int .u8 103] 43 43 Tryd.underlying22 Tryd.underlying5
  simp at k1 k2
  go_enter Tryd.func7, Tryd.ntmps7
  have hac := alive_call hT
  obtain ⟨m, hmm⟩ : ∃ m, m = hmac exKey exText := ⟨_, rfl⟩
  rw [← hmm] at hac
  have HAC := Lib.hid hac
  have hlm : m.length = 32 := by rw [hmm, hmac_length]
  have HM := Lib.hid hmm
  have HLM := Lib.hid hlm
  clear hmm hlm hac
  go_upto_region 2 with (first
    | (go_at_call 8; refine HAC.out.mono ?_; rintro _ w3 ⟨rfl, hg3⟩)
    | (refine wpList_alloc24 rfl rfl ?_; intro w4 hb4 hg4 hz4)
    | (refine wpList_store_row rfl 24 _ _ rfl w3.heap.size (u8s m).toArray rfl rfl 24 _ hb4 (by rw [size24, List.size_toArray, u8s_length, HLM.out]) (by simp [u8s_length, HLM.out, zs_length]) (all_oneCell_toArray (u8s_one _)) ?_))
  have hb5 : Blk (w4.setRow w3.heap.size (u8s m).toArray) w3.heap.size 24 (u8s m) := Blk.setRow hb4
  have hz3 := hg3.size
  have hg5 : w.grownBy (w4.setRow w3.heap.size (u8s m).toArray) none := World.grownBy.andThen (World.grownBy.trans hg3 hg4) (grown_setRow _ _ _) (by rintro _ ⟨⟩; exact .inl (by omega))
  obtain ⟨w5, hw5⟩ : ∃ w5, w5 = w4.setRow w3.heap.size (u8s m).toArray := ⟨_, rfl⟩
  obtain ⟨g, hg⟩ : ∃ g, g = w3.heap.size := ⟨_, rfl⟩
  rw [← hw5, ← hg] at hb5
  rw [← hw5] at hg5
  rw [← hw5, ← hg]
  have hT5 := hT.grown hg5 (by simp) (by simp)
  have HB5 := Lib.hid hb5
  have HG5 := Lib.hid hg5
  have HT5 := Lib.hid hT5
  have hm0 : (0 : Nat) ≤ maxLen := Nat.zero_le _
  clear hb4 hg3 hg4 hz4 hb5 hg5 hw5 hg hT5 hz3 k1 k2
  go_upto_region 3 with (go_at_call 10; refine (hkdf_yes (n := 3) (ok := fun b => b < w5.heap.size) Byt.nil Byt.nil Byt.nil (fun b hb => hb) rfl rfl rfl (Nat.le_refl _) (Nat.le_refl _) (Nat.le_refl _) hm0 hm0 hm0 (by decide) (by decide) (by decide) (by decide) HT5.out).mono ?_; rintro _ w6 ⟨gb, rfl, hbb, hgb, hg6⟩)
  have hb6 := HB5.out.grown hg6 (by simp)
  have hkn := known
  rw [← HM.out] at hkn
  have c0 : w6.cell? ⟨g, 0, none⟩ = some (.int .u8 247) := by
    have h := hb6.get 0 _ (get_agg m 0 (by rw [HLM.out]; decide))
    rw [hkn.1] at h
    exact h
  have c3 : w6.cell? ⟨g, 3, none⟩ = some (.int .u8 244) := by
    have h := hb6.get 3 _ (get_agg m 3 (by rw [HLM.out]; decide))
    rw [hkn.2] at h
    exact h
  have HG6 := Lib.hid (World.grownBy.trans HG5.out hg6)
  clear hbb hgb hg6 hb6 hkn
  go_wp2
  go_ret
  exact ⟨rfl, HG6.out⟩
end Go.Proofs.YtgphopahlgfogaaDoor
