/- slices.Clone of blocks; Kept of a disk. Conditions: at most 2^20 writes wait. -/
import Derived.Test.YtmdkpfogdbggoaaUnd
namespace Go.Proofs.Ytmdkpfogdbggoaa
open Go.RowKit
theorem own_tail {w : World} {b n : Nat} {e : TypeId} {sz : Nat} {v : Value} {xs : List Value} (h : w.ownsRow b e sz v n xs) (hn : 0 < n) :
    ∃ g cap tl, v = .slice (some ⟨g, 0, none⟩) n cap ∧ b ≤ g ∧ Blk w g e (xs ++ tl) ∧ n ≤ cap ∧ cap ≤ maxLen := by
  rcases h.2 with ⟨_, h0⟩ | ⟨g, cap, cur, hv, hb, hg, h1, h2, _, h4⟩
  · omega
  · refine ⟨g, cap, cur.toList.drop (n * sz), hv, hb, ?_, h1, h2⟩
    unfold Blk
    rw [← h4, List.take_append_drop]
    exact hg
def NewBlocks (w : World) (n : Nat) (B : List UInt8) (e : Ending) (w' : World) : Prop :=
  ∃ g cap tl, e = .returned (.slice (some ⟨g, 0, none⟩) n cap) ∧ w.heap.size ≤ g ∧ Blk w' g 57 (u8s B ++ tl) ∧ n ≤ cap ∧ w.grownBy w' none
set_option maxHeartbeats 800000 in
theorem clone_any {w : World} {gb n c : Nat} {B : List UInt8} (hb : Blk w gb 57 (u8s B)) (hB : B.length = 64 * n) (hn : 1 ≤ n) (hn2 : n ≤ 4096) :
    Calls Try.prog 30 #[.slice (some ⟨gb, 0, none⟩) n c] w (NewBlocks w n B) := by
  obtain ⟨i0, hi, hz0, hz1, hz2⟩ := info_parts Try.info57
  have r1 := fun w : World => Lib.run_eql_slice_nil (P := Try.prog) w 52 57 (some ⟨gb, 0, none⟩) n c 0 0 Try.underlying52
  have hb1 : Blk (w.alloc (.cells #[] 57)) gb 57 (u8s B) := hb.grown (World.grownBy_alloc _ _ none) (by simp)
  have HB := Lib.hid hb1
  have HL : Hid ((u8s B).length = n * 64) := by show _ = _; rw [u8s_length, hB, Nat.mul_comm]
  have HN : Hid (1 ≤ n ∧ n ≤ 4096) := ⟨hn, hn2⟩
  clear hb hb1 hB hn hn2
  go_enter Try.func30, Try.ntmps30
  go_wp2_with (first | (at_builtin; refine wpList_append_lies _ rfl _ _ 52 rfl w.heap.size 57 i0 _ 64 64 Try.underlying52 hi hz0 hz1 hz2 (by simp [Value.cells, u8s_length, zb_length]) (by omega) _ 0 [] rfl (World.ownsRow_lit w #[] 0 (Nat.le_refl _) (Nat.zero_le _) rfl) ⟨gb, 0, none⟩ n c (u8s B) rfl HL.out (fun j u hu => by rw [Addr.add_mid, Nat.zero_add]; exact HB.out.get _ _ hu) (u8s_one B) (by have := HN.out; omega) (by have := HN.out; unfold maxLen; omega) (by have := HN.out; omega) (by simp) _ rfl ?_) | fail)
  intro g cap w1 hown hgrow hat hlt
  have hown' : w1.ownsRow w.heap.size 57 64 (.slice (some ⟨g, 0, none⟩) n cap) n (u8s B) := by simpa using hown
  clear hown
  obtain ⟨g', cap', tl, e, hge, hbk, hnc, _⟩ := own_tail hown' (by have := HN.out; omega)
  simp only [Value.slice.injEq, Option.some.injEq, Addr.mk.injEq, true_and, and_true] at e
  obtain ⟨rfl, rfl⟩ := e
  have HBK := Lib.hid hbk
  have HGR := Lib.hid hgrow
  clear hbk hgrow hat hown'
  go_wp2
  go_ret
  refine ⟨g, cap, tl, by simp, hge, HBK.out, hnc, ?_⟩
  exact World.grownBy.andThen (World.grownBy_alloc w _ none) HGR.out (by intro j e; simp [Value.ownBlock] at e; left; omega)
end Go.Proofs.Ytmdkpfogdbggoaa
