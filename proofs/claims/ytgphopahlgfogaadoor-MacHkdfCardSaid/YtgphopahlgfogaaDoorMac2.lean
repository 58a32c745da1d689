/- HMAC of texts, one behind the other, by a key's two forms. Conditions: none. -/
import Derived.Test.YtgphopahlgfogaaDoorMac1
namespace Go.Proofs.YtgphopahlgfogaaDoor
open Go.RowKit
theorem lst_of_blk {w : World} {ok : Nat → Prop} {g : Nat} {ty : TypeId} {vs : List Value} {ps : List (List UInt8)} (hb : Blk w g ty vs) (hg : ok g)
    (h : ∀ j (hj : j < ps.length), ∃ A c, vs[j]? = some (.slice A ps[j].length c) ∧ ps[j].length ≤ c ∧ c ≤ maxLen ∧ Byt w ok A ps[j]) : Lst w ok (some ⟨g, 0, none⟩) ps := fun j hj => by
  obtain ⟨A, c, h1, h2, h3, h4⟩ := h j hj
  refine ⟨_, A, c, rfl, hg, ?_, h2, h3, h4⟩
  rw [Addr.add_lit, Nat.zero_add]
  exact hb.get j _ h1
theorem lst_one {w : World} {ok : Nat → Prop} {g : Nat} {ty : TypeId} {A : Option Addr} {c n : Nat} {x : List UInt8} (hb : Blk w g ty [.slice A n c]) (hg : ok g) (hn : x.length = n) (hl : n ≤ c) (hm : c ≤ maxLen) (hx : Byt w ok A x) : Lst w ok (some ⟨g, 0, none⟩) [x] := by
  subst hn
  refine lst_of_blk hb hg fun j hj => ?_
  obtain rfl : j = 0 := by simpa using hj
  exact ⟨A, c, rfl, hl, hm, hx⟩
theorem u8s_info (x : List UInt8) : (Tryd.prog.info? 24).map (·.size) = some (u8s (sha256 x)).length := by rw [size24, u8s_length, sha256_length]
theorem Blk.there {w : World} {g n : Nat} {ty : TypeId} {cs : List Value} (h : Blk w g ty cs) (hn : cs.length = n) : w.there g 0 n := fun j hj => ⟨by rw [Nat.zero_add, h.cell j (by omega)]; rfl, by rw [Nat.zero_add]; exact h.frozen j⟩
theorem Blk.setAll {w : World} {g : Nat} {ty : TypeId} {cs ds : List Value} (h : Blk w g ty cs) (hl : ds.length = cs.length) : Blk (w.setCells g 0 ds) g ty ds ∧ w.grownBy (w.setCells g 0 ds) (some g) := by
  obtain ⟨h1, h2, _⟩ := Blk.setCells (post := []) ds cs [] 0 w (h.to (by simp)) rfl hl
  exact ⟨h1.to (by simp), h2⟩
theorem mhash_one {w : World} {c1 c2 n : Nat} {ok : Nat → Prop} {A1 A2 : Option Addr} {form x : List UInt8} (hf : Byt w ok A1 form) (hp : Lst w ok A2 [x]) (hok : ∀ b, ok b → b < w.heap.size) (hn : form.length = n) (hc : n ≤ c1) (hcm : c1 ≤ maxLen)
    (hs : n + x.length < 2305843009213693952) (hT : Tab w) :
    Calls Tryd.prog 21 #[.slice A1 n c1, .slice A2 1 c2] w fun e w' => e = .returned (.agg (u8s (sha256 (form ++ x))).toArray) ∧ w.grownBy w' none := by
  have h := mhash_any (c2 := c2) hf hp hok hn hc hcm rfl (by simp) (by simpa using hs) hT
  simpa using h
set_option maxRecDepth 100000 in
set_option maxHeartbeats 1600000 in
theorem msum_any {w : World} {c2 m gi go : Nat} {ok : Nat → Prop} {A2 : Option Addr} {fi fo : List UInt8} {ps : List (List UInt8)} (hi : Blk w gi 32 (u8s fi)) (ho : Blk w go 32 (u8s fo)) (hli : fi.length = 64) (hlo : fo.length = 64) (hp : Lst w ok A2 ps) (hok : ∀ b, ok b → b < w.heap.size)
    (hm : ps.length = m) (hm2 : m ≤ 1000000) (hs : 64 + ps.flatten.length < 2305843009213693952) (hT : Tab w) :
    Calls Tryd.prog 16 #[.pointer (some ⟨gi, 0, none⟩), .pointer (some ⟨go, 0, none⟩), .slice A2 m c2] w fun e w' => e = .returned (.agg (u8s (sha256 (fo ++ sha256 (fi ++ ps.flatten)))).toArray) ∧ w.grownBy w' none := by
  have hil := hi.lt
  have hol := ho.lt
  have HI := Lib.hid hi
  have HO := Lib.hid ho
  have HLI := Lib.hid hli
  have HLO := Lib.hid hlo
  have HP := Lib.hid hp
  have HM := Lib.hid hm
  have HT := Lib.hid hT
  clear hi ho hli hlo hp hm hT
  go_enter Tryd.func16, Tryd.ntmps16
  go_wp2_with (refine wpList_alloc24 rfl rfl ?_)
  intro w1 hb1 hg1 hz1
  have hx1 : Byt w1 (fun b => b < w1.heap.size) (some ⟨gi, 0, none⟩) fi := ((HI.out.grown hg1 (by simp)).to (by rw [List.append_nil]; rfl) |>.byt (pre := []) (post := []) rfl).imp fun b hb => by omega
  have hp1 : Lst w1 (fun b => b < w1.heap.size) A2 ps := (HP.out.keep fun b hb => hg1.block b (hok b hb) (by simp)).imp fun b hb => by have := hok b hb; omega
  have hT1 := HT.out.grown hg1 (by simp) (by simp)
  have ho1 := HO.out.grown hg1 (by simp)
  have HB1 := Lib.hid hb1
  have HG1 := Lib.hid hg1
  have HX1 := Lib.hid hx1
  have HP1 := Lib.hid hp1
  have HT1 := Lib.hid hT1
  have HO1 := Lib.hid ho1
  have HZ1 := Lib.hid hz1
  clear hb1 hg1 hx1 hp1 hT1 ho1 hz1
  have hm64 : (64 : Nat) ≤ maxLen := by unfold maxLen; omega
  go_wp2_with (first
    | (go_at_call 21; refine (mhash_any HX1.out HP1.out (fun b hb => hb) HLI.out (Nat.le_refl _) hm64 HM.out hm2 hs HT1.out).mono ?_; rintro _ w2 ⟨rfl, hg2⟩)
    | (refine wpList_alloc24 rfl rfl ?_; intro w3 hb3 hg3 hz3)
    | (refine wpList_store_row rfl 24 _ _ rfl w2.heap.size (u8s (sha256 (fi ++ ps.flatten))).toArray rfl rfl 24 _ hb3 (by rw [size24, List.size_toArray, u8s_length, sha256_length]) (by simp [u8s_length, sha256_length, zs_length]) (all_oneCell_toArray (u8s_one _)) ?_))
  obtain ⟨t1, ht1⟩ : ∃ t, t = sha256 (fi ++ ps.flatten) := ⟨_, rfl⟩
  have HTE := Lib.hid ht1
  obtain ⟨g7, hg7⟩ : ∃ g, g = w2.heap.size := ⟨_, rfl⟩
  obtain ⟨w4, hw4⟩ : ∃ w', w' = w3.setRow w2.heap.size (u8s (sha256 (fi ++ ps.flatten))).toArray := ⟨_, rfl⟩
  rw [← hw4, ← ht1, ← hg7]
  have hl1 : t1.length = 32 := by rw [ht1, sha256_length]
  have hb4 : Blk w4 g7 24 (u8s t1) := by rw [hw4, ← hg7, ← ht1]; rw [← hg7] at hb3; exact Blk.setRow hb3
  have hg34 : w3.grownBy w4 (some g7) := by rw [hw4, ← hg7]; exact grown_setRow _ _ _
  have hz2 := hg2.size
  have hz11 := HZ1.out
  have hg14 : w1.grownBy w4 none := World.grownBy.andThen (World.grownBy.trans hg2 hg3) hg34 (by rintro _ ⟨⟩; exact .inl (by omega))
  have hgw4 : w.grownBy w4 none := World.grownBy.trans HG1.out hg14
  have hbw4 := HB1.out.grown hg14 (by simp)
  have hbo4 := HO1.out.grown hg14 (by simp)
  have hT4 := HT1.out.grown hg14 (by simp) (by simp)
  have hlt4 := hb4.lt
  have hwz : w.heap.size < w4.heap.size := hbw4.lt
  obtain ⟨W, hW⟩ : ∃ W, W = (w4.alloc (.cells #[.slice (some ⟨g7, 0, none⟩) 32 32] 22)).drew := ⟨_, rfl⟩
  have hg4W : w4.grownBy W none := by rw [hW]; exact grown_drew (n := 0) (World.grownBy_alloc w4 _ none) rfl
  have hbl : Blk W w4.heap.size 22 [.slice (some ⟨g7, 0, none⟩) 32 32] := by rw [hW]; exact (Blk.of_alloc w4 #[.slice (some ⟨g7, 0, none⟩) 32 32] 22).keep rfl
  have hx7 : Byt W (fun b => b < W.heap.size) (some ⟨g7, 0, none⟩) t1 := ((hb4.grown hg4W (by simp)).to (by rw [List.append_nil]; rfl) |>.byt (pre := []) (post := []) rfl).imp fun b hb => by have := hg4W.size; omega
  have hm32 : (32 : Nat) ≤ maxLen := by unfold maxLen; omega
  have hps7 : Lst W (fun b => b < W.heap.size) (some ⟨w4.heap.size, 0, none⟩) [t1] := lst_one hbl hbl.lt hl1 (Nat.le_refl _) hm32 hx7
  have hxo : Byt W (fun b => b < W.heap.size) (some ⟨go, 0, none⟩) fo := ((hbo4.grown hg4W (by simp)).to (by rw [List.append_nil]; rfl) |>.byt (pre := []) (post := []) rfl).imp fun b hb => by have := hg4W.size; omega
  have hTW := hT4.grown hg4W (by simp) (by simp)
  have hbW := hbw4.grown hg4W (by simp)
  have hs7 : 64 + t1.length < 2305843009213693952 := by omega
  have HGW := Lib.hid (World.grownBy.trans hgw4 hg4W)
  have HPS := Lib.hid hps7
  have HXO := Lib.hid hxo
  have HTW := Lib.hid hTW
  have HBW := Lib.hid hbW
  have HS7 := Lib.hid hs7
  have HWE := Lib.hid hW
  clear ht1 hg7 hw4 hl1 hb3 hb4 hg34 hz2 hz11 hg14 hgw4 hbw4 hbo4 hT4 hW hg4W hbl hx7 hps7 hxo hTW hbW hs7 hg2 hg3 hz3 HB1 HG1 HX1 HP1 HT1 HO1
  go_region_held3 (fun _ => True) (exact trivial) (first
    | (go_at_call 21; rw [← HWE.out]; refine (mhash_one HXO.out HPS.out (fun b hb => hb) HLO.out (Nat.le_refl _) hm64 HS7.out HTW.out).mono ?_; rintro _ w5 ⟨rfl, hg5⟩; have hb5 := HBW.out.grown hg5 (by simp); have ht5 : w5.there w.heap.size 0 32 := hb5.there (u8s_length _); have hi5 : (Tryd.prog.info? 24).map (·.size) = some (u8s (sha256 (fo ++ t1))).length := u8s_info _; have hn5 : (u8s (sha256 (fo ++ t1))).length = 32 := (by rw [u8s_length, sha256_length]); have ho5 : ∀ v ∈ (u8s (sha256 (fo ++ t1))), v.oneCell' = true := u8s_one _))
  obtain ⟨hb6, hg6⟩ := hb5.setAll (ds := u8s (sha256 (fo ++ t1))) (by rw [u8s_length, u8s_length, sha256_length]; rfl)
  go_wp2
  refine bodyPost_ret (results_cell_row rfl _ _ w.heap.size 24 (u8s (sha256 (fo ++ t1))).toArray (0, 0) _ rfl hb6 Tryd.underlying24 rfl (by rw [size24, List.size_toArray, u8s_length, sha256_length])) rfl ⟨by rw [HTE.out], ?_⟩
  exact World.grownBy.andThen (World.grownBy.trans HGW.out hg5) hg6 (by rintro _ ⟨⟩; exact .inl (Nat.le_refl _))
end Go.Proofs.YtgphopahlgfogaaDoor
