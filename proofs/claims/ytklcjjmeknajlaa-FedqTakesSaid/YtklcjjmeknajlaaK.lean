/- fedq.sent, fedq.Tick. Conditions: the items ask, there are no more than 100. -/
import Derived.Test.YtklcjjmeknajlaaJ
namespace Go.Proofs.Ytklcjjmeknajlaa
open Go.RowKit
theorem KRow.at {B B' n : Nat} {w w' : World} {v : Value} {L : List Kep} (h : KRow B w v n L) (hB : B' ≤ B) (hk : ∀ b, B ≤ b → b < w.heap.size → w'.heap[b]? = w.heap[b]?) : KRow B' w' v n L := by
  refine ⟨h.1, h.2.imp (fun h1 => ?_) id⟩
  have h2 := ownsRow_keep (w' := w') h1 fun g hg => hk g (h1.lt g hg).1 (h1.lt g hg).2
  refine ⟨h2.1, h2.2.imp id ?_⟩
  rintro ⟨g, cap, cur, e, hgB, hrest⟩
  exact ⟨g, cap, cur, e, Nat.le_trans hB hgB, hrest⟩
/-- A queue is answered, its items in memory of its own. -/
def QueV (w : World) (n : Nat) (L : List Kep) (s i wa ba : Int) (v : Value) (w' : World) : Prop := ∃ A c, v = .agg (qv (.slice A n c) s i wa ba).toArray ∧ KRow w.heap.size w' (.slice A n c) n L ∧ w.grownBy w' none
theorem qv_length (v : Value) (s i wa ba : Int) : (qv v s i wa ba).length = 5 := rfl
theorem qv_one (A : Option Addr) (n c : Nat) (s i wa ba : Int) : ∀ u ∈ qv (.slice A n c) s i wa ba, u.oneCell' = true := by
  intro u hu
  simp only [qv, List.mem_cons, List.not_mem_nil, or_false] at hu
  rcases hu with rfl | rfl | rfl | rfl | rfl <;> rfl
theorem size27 : (Try.prog.info? 27).map (·.size) = some 1 := by kernel_rfl
theorem size3 : (Try.prog.info? 3).map (·.size) = some 1 := by kernel_rfl
theorem size22 : (Try.prog.info? 22).map (·.size) = some 1 := by kernel_rfl
set_option maxRecDepth 100000 in
set_option maxHeartbeats 1600000 in
theorem sent_any (w : World) {A : Option Addr} {n c s : Nat} (i wa ba : Int) (hs : s ≤ n) : Calls Try.prog 14 #[.agg (qv (.slice A n c) (s : Int) i wa ba).toArray] w (NewV w (.int .i64 (s : Int))) := by
  have d1 : (s : Int) ≤ (n : Int) := by omega
  have d2 : (0 : Int) ≤ (s : Int) := by omega
  obtain ⟨z, hz⟩ : ∃ z, z = qv (.slice A n c) (s : Int) i wa ba := ⟨_, rfl⟩
  have HZ := Lib.hid hz
  rw [← hz]
  clear hz hs
  go_enter Try.func14, Try.ntmps14
  go_wp2_with (first | (refine wpList_boxG rfl _ rfl (vs := z) rfl ?_) | fail)
  intro g w1 e1 b1 q1
  have hb : Blk w1 g 29 (qv (.slice A n c) (s : Int) i wa ba) := by have h := b1.out; rw [HZ.out] at h; exact h
  have c0 : w1.cell? ⟨g, 0, none⟩ = some (.slice A n c) := hb.get 0 _ rfl
  have c1 : w1.cell? ⟨g, 1, none⟩ = some (.int .i64 (s : Int)) := hb.get 1 _ rfl
  have Q1 := Lib.hid q1.out
  clear e1 b1 q1 hb
  go_wp2
  case inl =>
    go_ret
    exact ⟨rfl, Q1.out⟩
  case inr =>
    obtain rfl : s = 0 := by omega
    go_ret
    exact ⟨rfl, Q1.out⟩
set_option maxRecDepth 100000 in
set_option maxHeartbeats 1600000 in
theorem tick_any {w : World} {ok : Nat → Prop} {A : Option Addr} {L : List Kep} {n c : Nat} (s i ba : Int) (hL : Kps w ok A L) (hn : L.length = n) (hle : n ≤ 100) :
    Calls Try.prog 10 #[.agg (qv (.slice A n c) s i 1 ba).toArray] w fun e w' => ∃ v, e = .returned v ∧ QueV w n L s i 0 ba v w' := by
  obtain ⟨z, hz⟩ : ∃ z, z = qv (.slice A n c) s i 1 ba := ⟨_, rfl⟩
  have HZ := Lib.hid hz
  have HL := Lib.hid hL
  have HN := Lib.hid hn
  have HLE := Lib.hid hle
  rw [← hz]
  clear hz hL hn hle
  go_enter Try.func10, Try.ntmps10
  go_wp2_with (first | (refine wpList_boxG rfl _ rfl (vs := z) rfl ?_) | fail)
  intro g w1 e1 b1 q1
  have B1 : Hid (Blk w1 g 29 (qv (.slice A n c) s i 1 ba)) := by have h := b1.out; rw [HZ.out] at h; exact h
  have Q1 := Lib.hid q1.out
  have E1 : Hid (w.heap.size ≤ g) := by rw [e1.out]; exact Nat.le_refl _
  clear e1 b1 q1
  go_wp2_with (first | (refine wpList_allocG zeQ rfl rfl ?_) | fail)
  intro gr w2 e2 b2 q2
  have hb2 := B1.out.grown q2.out (by simp)
  have c20 : w2.cell? ⟨g, 0, none⟩ = some (.slice A n c) := hb2.get 0 _ rfl
  have E2 : Hid (w.heap.size ≤ gr) := by rw [e2.out]; exact Q1.out.size
  have NE : Hid (g ≠ gr) := by rw [e2.out]; exact Nat.ne_of_lt B1.out.lt
  have Q2 := Lib.hid (Q1.out.trans q2.out)
  have BR := Lib.hid b2.out
  have B2 := Lib.hid hb2
  have hown := own_any (c := c) (HL.out.grown Q2.out) HN.out HLE.out
  have OW := Lib.hid hown
  clear e2 b2 q2 hb2 hown B1 Q1
  go_wp2_with (first | (go_at_call 12; refine OW.out.mono ?_; rintro _ w3 ⟨A3, c3, rfl, r3, q3⟩; have R3 := Lib.hid r3; have Q3 := Lib.hid q3; have B3 := Lib.hid (B2.out.grown q3 (by simp)); have BR3 := Lib.hid (BR.out.grown q3 (by simp)); clear r3 q3 c20) | (refine wpList_store_cell rfl 27 (.tmp 6) (.tmp 5) rfl size27 g 0 (.slice A3 n c3) rfl rfl rfl (qv (.slice A n c) s i 1 ba) 29 B3.out (by rw [qv_length]; omega) ?_) | fail)
  intro w4 b4 r4
  have B4 : Hid (Blk w4 g 29 (qv (.slice A3 n c3) s i 1 ba)) := b4.out
  have BR4 : Hid (Blk w4 gr 29 (qv nl 0 0 0 0)) := BR3.out.keep (r4.out.block gr NE.out.symm)
  have c43 : w4.cell? ⟨g, 3, none⟩ = some (.int .u8 1) := B4.out.get 3 _ rfl
  have G4 := Lib.hid (r4.out.grown)
  clear b4 r4 B3 BR3
  go_wp2_with (first | (refine wpList_store_cell rfl 5 (.tmp 13) (.tmp 12) rfl size5 g 3 (.int .u8 0) rfl rfl rfl (qv (.slice A3 n c3) s i 1 ba) 29 B4.out (by rw [qv_length]; omega) ?_) | fail)
  intro w5 b5 r5
  have B5 : Hid (Blk w5 g 29 (qv (.slice A3 n c3) s i 0 ba)) := b5.out
  have BR5 : Hid (Blk w5 gr 29 (qv nl 0 0 0 0)) := BR4.out.keep (r5.out.block gr NE.out.symm)
  have G5 := Lib.hid (r5.out.grown)
  clear b5 r5 B4 BR4 c43
  go_wp2_with (first | (refine wpList_loadG agQ rfl (.tmp 1) rfl g rfl B5.out (qv_length _ _ _ _ _) ?_) | (refine wpList_storeG agQ rfl (.tmp 2) (.tmp 14) rfl gr rfl rfl BR5.out (qv_length _ _ _ _ _) (qv_length _ _ _ _ _) (qv_one _ _ _ _ _ _ _) ?_) | fail)
  intro w6 b6 q6 _
  go_wp2
  refine bodyPost_ret (res_c rfl agQ rfl b6.out (qv_length _ _ _ _ _)) rfl ⟨_, rfl, A3, c3, rfl, ?_, ?_⟩
  · have hg1 := B2.out.lt
    have hg2 := BR.out.lt
    refine R3.out.at Q2.out.size fun b hb1 hb2 => ?_
    have h4 := G4.out.block b hb2 (by simp; omega)
    have h5 := G5.out.block b (Nat.lt_of_lt_of_le hb2 G4.out.size) (by simp; omega)
    have h6 := q6.out.block b (Nat.lt_of_lt_of_le hb2 (Nat.le_trans G4.out.size G5.out.size)) (by simp; omega)
    exact h6.trans (h5.trans h4)
  · have h3 := Q2.out.trans Q3.out
    exact grown_in (grown_in (grown_in h3 G4.out E1.out) G5.out E1.out) q6.out E2.out
end Go.Proofs.Ytklcjjmeknajlaa
