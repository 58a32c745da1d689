/- The law's ask. Conditions: the number is small. -/
import Derived.Test.YtklcjjmeknajlaaE
namespace Go.Proofs.Ytklcjjmeknajlaa
open Go.RowKit
set_option maxRecDepth 100000 in
set_option maxHeartbeats 1600000 in
theorem ask_any (w : World) (k : Nat) (hk : k ≤ 255) : Calls Try.prog 8 #[.int .i64 (k : Int)] w (NewV w (.agg (kv k).toArray)) := by
  have d1 : (k : Int) / 256 = 0 := by omega
  have D1 := Lib.hid d1
  obtain ⟨z, hz⟩ : ∃ z, z = kv k := ⟨_, rfl⟩
  have hzl : z.length = 433 := by rw [hz]; exact kv_length trivial
  have hz1 : ∀ u ∈ z, u.oneCell' = true := by rw [hz]; exact kv_one k
  have HZ := Lib.hid hz
  have HL := Lib.hid hzl
  have H1 := Lib.hid hz1
  rw [← hz]
  clear hz hzl hz1
  go_enter Try.func8, Try.ntmps8
  go_wp2_with (first | (refine wpList_allocG zeI rfl rfl ?_) | fail)
  intro g w1 hg hbk hgr
  have HB := Lib.hid hbk.out
  have HG := Lib.hid hgr.out
  have HN := Lib.hid hg.out
  clear hbk hgr hg d1
  have he : ic 2 (k : Int) ((k : Int) / 256) = z := by
    rw [D1.out, HZ.out]
    rfl
  have HE := Lib.hid he
  clear he
  go_wp2_with (first | (refine wpList_buildI rfl (.const (.int .u8 2)) (.tmp 4) (.tmp 7) rfl 2 (k : Int) ((k : Int) / 256) rfl rfl rfl ?_; rw [HE.out]) | (refine wpList_storeG agI rfl (.tmp 2) (.tmp 8) rfl g rfl rfl HB.out (ic_length _ _ _) HL.out H1.out ?_) | fail)
  intro w2 hb2 hg2 _
  go_wp2
  refine bodyPost_ret (res_c rfl agI rfl hb2.out HL.out) rfl ⟨rfl, ?_⟩
  exact World.grownBy.andThen HG.out hg2.out (by rintro _ ⟨⟩; exact .inl (Nat.le_of_eq HN.out.symm))
end Go.Proofs.Ytklcjjmeknajlaa
