/- wire.letterShape, objectShape, itemShape of an item with no more than a kind, an asker and a peer. Conditions: none. -/
import Derived.Test.YtklcjjmeknajlaaE2
namespace Go.Proofs.Ytklcjjmeknajlaa
open Go.RowKit
theorem range_mid {w : World} {g : Nat} {t : TypeId} {cs pre vs post : List Value} {o : Nat} (h : Blk w g t cs) (he : cs = pre ++ (vs ++ post)) (ho : pre.length = o) : w.rangeAt g o vs := fun j v hv => by
  subst he
  subst ho
  have hj := (List.getElem?_eq_some_iff.1 hv).1
  refine h.get _ _ ?_
  rw [List.getElem?_append_right (by omega), Nat.add_sub_cancel_left, List.getElem?_append_left hj]
  exact hv
theorem lz_length (b : Value) : (lz b).length = 167 := by kernel_rfl
theorem oz_length (b : Value) : (oz b).length = 101 := by kernel_rfl
theorem bz_length : bz.length = 162 := by kernel_rfl
theorem hz_length : hz.length = 164 := by kernel_rfl
theorem zk_length (n : Nat) : (zk n).length = n := by simp [zk]
theorem lz_one : ∀ u ∈ lz (.int .i64 0), u.oneCell' = true := by
  intro u hu
  unfold lz hz at hu
  simp only [List.mem_cons, List.mem_append, List.not_mem_nil, or_false] at hu
  rcases hu with h | (h | rfl | h | rfl | h | rfl | rfl) | rfl <;> first | rfl | exact zk_one _ u h
theorem oz_one : ∀ u ∈ oz (.int .i64 0), u.oneCell' = true := by
  intro u hu
  unfold oz at hu
  simp only [List.mem_cons, List.mem_append, List.not_mem_nil, or_false] at hu
  rcases hu with h | rfl | rfl | h | rfl <;> first | rfl | exact zk_one _ u h
theorem sv_one (k a p : Int) : ∀ u ∈ sv k a p, u.oneCell' = true := by
  intro u hu
  unfold sv at hu
  simp only [List.mem_cons, List.mem_append] at hu
  rcases hu with rfl | rfl | rfl | h | h | h
  · rfl
  · rfl
  · rfl
  · exact lz_one u h
  · unfold bz at h
    simp only [List.mem_cons, List.mem_append] at h
    rcases h with h | rfl | h <;> first | rfl | exact zk_one _ u h
  · exact oz_one u h
theorem grown_in {w w1 w2 : World} {g : Nat} (h1 : w.grownBy w1 none) (h2 : w1.grownBy w2 (some g)) (hg : w.heap.size ≤ g) : w.grownBy w2 none := World.grownBy.andThen h1 h2 (by rintro _ ⟨⟩; exact .inl hg)
set_option maxRecDepth 100000 in
set_option maxHeartbeats 1600000 in
theorem lshape_any (w : World) : Calls Try.prog 31 #[.agg (lz nl).toArray] w (NewV w (.agg (lz (.int .i64 0)).toArray)) := by
  obtain ⟨z, hz'⟩ : ∃ z, z = lz nl := ⟨_, rfl⟩
  obtain ⟨y, hy⟩ : ∃ y, y = lz (.int .i64 0) := ⟨_, rfl⟩
  have HZ := Lib.hid hz'
  have HY := Lib.hid hy
  rw [← hz', ← hy]
  clear hz' hy
  go_enter Try.func31, Try.ntmps31
  go_wp2_with (first | (refine wpList_boxG rfl _ rfl (vs := z) rfl ?_) | fail)
  intro g w1 hg hbk hgr
  have HG := Lib.hid hg.out
  have HB := Lib.hid hbk.out
  have H1 := Lib.hid hgr.out
  clear hg hbk hgr
  go_wp2_with (first | (refine wpList_allocG zeLs rfl rfl ?_) | fail)
  intro g2 w2 hg2 hbk2 hgr2
  have hb : Blk w2 g 39 (lz nl) := by have h := HB.out.grown hgr2.out (by simp); rw [HZ.out] at h; exact h
  have c0 : w2.cell? ⟨g, 0, none⟩ = some (.int .u8 0) := hb.get _ _ (by kernel_rfl)
  have c1 : w2.cell? ⟨g, 1, none⟩ = some (.int .u8 0) := hb.get _ _ (by kernel_rfl)
  have c3 : w2.cell? ⟨g, 166, none⟩ = some (.slice none 0 0) := hb.get _ _ (by kernel_rfl)
  have hr : w2.rangeAt g 2 hz := range_mid hb (pre := zk 2) (post := [nl]) rfl (zk_length 2)
  have HR := Lib.hid hr
  have HG2 : Hid (w.heap.size ≤ g2) := by have h := H1.out.size; rw [hg2.out]; exact h
  have HB2 := Lib.hid hbk2.out
  have H2 := Lib.hid (H1.out.trans hgr2.out)
  clear hg2 hbk2 hgr2 hb hr
  go_wp2_with (first | (refine wpList_loadR agH rfl (.tmp 7) rfl g 2 rfl HR.out hz_length ?_) | (refine wpList_buildLs rfl (.tmp 4) (.tmp 6) (.tmp 8) (.tmp 11) rfl rfl rfl rfl rfl ?_; rw [← HY.out]) | (refine wpList_storeG agLs rfl (.tmp 2) (.tmp 12) rfl g2 (vs := y) rfl rfl HB2.out (lz_length _) (by rw [HY.out]; exact lz_length _) (by rw [HY.out]; exact lz_one) ?_) | fail)
  intro w3 hb3 hg3 _
  go_wp2
  refine bodyPost_ret (res_c rfl agLs rfl hb3.out (by rw [HY.out]; exact lz_length _)) rfl ⟨rfl, grown_in H2.out hg3.out HG2.out⟩
set_option maxRecDepth 100000 in
set_option maxHeartbeats 1600000 in
theorem oshape_any (w : World) : Calls Try.prog 32 #[.agg (oz nl).toArray] w (NewV w (.agg (oz (.int .i64 0)).toArray)) := by
  obtain ⟨z, hz'⟩ : ∃ z, z = oz nl := ⟨_, rfl⟩
  obtain ⟨y, hy⟩ : ∃ y, y = oz (.int .i64 0) := ⟨_, rfl⟩
  have HZ := Lib.hid hz'
  have HY := Lib.hid hy
  rw [← hz', ← hy]
  clear hz' hy
  go_enter Try.func32, Try.ntmps32
  go_wp2_with (first | (refine wpList_boxG rfl _ rfl (vs := z) rfl ?_) | fail)
  intro g w1 hg hbk hgr
  have HB := Lib.hid hbk.out
  have H1 := Lib.hid hgr.out
  clear hg hbk hgr
  go_wp2_with (first | (refine wpList_allocG zeOs rfl rfl ?_) | fail)
  intro g2 w2 hg2 hbk2 hgr2
  have hb : Blk w2 g 47 (oz nl) := by have h := HB.out.grown hgr2.out (by simp); rw [HZ.out] at h; exact h
  have c0 : w2.cell? ⟨g, 0, none⟩ = some (.int .u8 0) := hb.get _ _ (by kernel_rfl)
  have c1 : w2.cell? ⟨g, 1, none⟩ = some (.int .u8 0) := hb.get _ _ (by kernel_rfl)
  have c3 : w2.cell? ⟨g, 34, none⟩ = some (.int .u32 0) := hb.get _ _ (by kernel_rfl)
  have c4 : w2.cell? ⟨g, 35, none⟩ = some (.int .u32 0) := hb.get _ _ (by kernel_rfl)
  have c6 : w2.cell? ⟨g, 100, none⟩ = some (.slice none 0 0) := hb.get _ _ (by kernel_rfl)
  have hr : w2.rangeAt g 2 (zk 32) := range_mid hb (pre := zk 2) (post := .int .u32 0 :: .int .u32 0 :: (zk 64 ++ [nl])) rfl (zk_length 2)
  have hr2 : w2.rangeAt g 36 (zk 64) := range_mid hb (pre := zk 34 ++ [.int .u32 0, .int .u32 0]) (post := [nl]) rfl rfl
  have HR := Lib.hid hr
  have HR2 := Lib.hid hr2
  have HG2 : Hid (w.heap.size ≤ g2) := by have h := H1.out.size; rw [hg2.out]; exact h
  have HB2 := Lib.hid hbk2.out
  have H2 := Lib.hid (H1.out.trans hgr2.out)
  clear hg2 hbk2 hgr2 hb hr hr2
  go_wp2_with (first | (refine wpList_loadR agK rfl (.tmp 7) rfl g 2 rfl HR.out (zk_length _) ?_) | (refine wpList_loadR agG rfl (.tmp 13) rfl g 36 rfl HR2.out (zk_length _) ?_) | (refine wpList_buildOs rfl (.tmp 4) (.tmp 6) (.tmp 8) (.tmp 10) (.tmp 12) (.tmp 14) (.tmp 17) rfl rfl rfl rfl rfl rfl rfl rfl ?_; rw [← HY.out]) | (refine wpList_storeG agOs rfl (.tmp 2) (.tmp 18) rfl g2 (vs := y) rfl rfl HB2.out (oz_length _) (by rw [HY.out]; exact oz_length _) (by rw [HY.out]; exact oz_one) ?_) | fail)
  intro w3 hb3 hg3 _
  go_wp2
  refine bodyPost_ret (res_c rfl agOs rfl hb3.out (by rw [HY.out]; exact oz_length _)) rfl ⟨rfl, grown_in H2.out hg3.out HG2.out⟩
end Go.Proofs.Ytklcjjmeknajlaa
