/- fedq.Poll: not yet. Conditions: the items ask. -/
import Derived.Test.YtklcjjmeknajlaaM
namespace Go.Proofs.Ytklcjjmeknajlaa
open Go.RowKit
theorem run_sliceTo (w : World) (b o n c i : Nat) (hi : i ≤ c) (hc : 0 < c) : (Instr.sliceAt 27 (.slice (some ⟨b, o, none⟩) n c) none (some (.int .i64 (i : Int))) none).run Try.prog w = .ok (.slice (some ⟨b, o, none⟩) i c) w := by
  have hs : (sizeOf (Try.prog.elem 27)).run Try.prog w = .ok 433 w := by kernel_rfl
  rw [run_sliceAt_slice w 27 _ _ _ _ (by kernel_rfl), run_slice_h w 27 (some ⟨b, o, none⟩) n c (by kernel_rfl) .i64 (i : Int) (by omega) (by omega), hs]
  have h0 : ¬ c = 0 := by omega
  simp [Result.andThen, sliced, h0, Addr.add_mid]
theorem run_sliceFrom (w : World) (b o n c i : Nat) (hi : i ≤ n) : (Instr.sliceAt 27 (.slice (some ⟨b, o, none⟩) n c) (some (.int .i64 (i : Int))) none none).run Try.prog w = .ok (.slice (some (if c = i then ⟨b, o, none⟩ else ⟨b, o + 433 * i, none⟩)) (n - i) (c - i)) w := by
  have hs : (sizeOf (Try.prog.elem 27)).run Try.prog w = .ok 433 w := by kernel_rfl
  rw [run_sliceAt_slice w 27 _ _ _ _ (by kernel_rfl), run_slice_l w 27 (some ⟨b, o, none⟩) n c (by kernel_rfl) .i64 (i : Int) (by omega) (by omega), hs]
  by_cases h : c = i
  · simp [Result.andThen, sliced, h]
  · simp [Result.andThen, sliced, h, Addr.add_mid, Nat.mul_comm]
section
variable {w : World} {ops : Array Oper} {rest : List Oper} {S : World → Prop} {o : Oper} {a : Act} {K : Act → World → Prop} {Q : Exit → Act → World → Prop}
theorem yieldsIf_sliceTo (hw : Region.wanted o (yielded ops a.tmps) = true) (x y : Operand) (ho : o.op = .slice 27 x none (some y) none) (b off n c i : Nat) (hx : a.eval x = .slice (some ⟨b, off, none⟩) n c) (hy : a.eval y = .int .i64 (i : Int)) (hi : i ≤ c) (hc : 0 < c) : YieldsIf Try.prog ops S o (.slice (some ⟨b, off, none⟩) i c) a :=
  .inl ⟨hw, fun w _ => by
    have hrun := run_sliceTo w b off n c i hi hc
    unfold execOp
    simp only [ho, hx, hy, Option.map_some, Option.map_none, hrun, Sem.run_bind, Sem.run_pure, Result.andThen_ok]⟩
theorem yieldsIf_sliceFrom (hw : Region.wanted o (yielded ops a.tmps) = true) (x y : Operand) (ho : o.op = .slice 27 x (some y) none none) (b off n c i : Nat) (hx : a.eval x = .slice (some ⟨b, off, none⟩) n c) (hy : a.eval y = .int .i64 (i : Int)) (hi : i ≤ n) {A2 : Option Addr} (hA : A2 = some (if c = i then ⟨b, off, none⟩ else ⟨b, off + 433 * i, none⟩)) {c2 : Nat} (h2 : c2 = c - i) : YieldsIf Try.prog ops S o (.slice A2 (n - i) c2) a :=
  .inl ⟨hw, fun w _ => by
    have hrun := run_sliceFrom w b off n c i hi
    subst hA h2
    unfold execOp
    simp only [ho, hx, hy, Option.map_some, Option.map_none, hrun, Sem.run_bind, Sem.run_pure, Result.andThen_ok]⟩
end
theorem yieldsIf_buildT {ops : Array Oper} {S : World → Prop} {o : Oper} {a : Act} (hw : Region.wanted o (yielded ops a.tmps) = true) (x0 x1 : Operand) (ho : o.op = .build 52 #[(0, x0), (1, x1)]) (i : Int) (A : Option Addr) (n c : Nat)
    (h0 : a.eval x0 = .int .u16 i) (h1 : a.eval x1 = .slice A n c) : YieldsIf Try.prog ops S o (.agg (tv i (.slice A n c)).toArray) a :=
  .inl ⟨hw, fun w _ => by
    have hrun := run_buildT w i A n c
    unfold execOp
    simp only [ho, List.map_toArray, List.map_cons, List.map_nil, h0, h1, Sem.run_bind, hrun, Result.andThen_ok, Sem.run_pure]⟩
theorem tv_length (i : Int) (v : Value) : (tv i v).length = 2 := rfl
theorem tv_one (i : Int) (A : Option Addr) (n c : Nat) : ∀ u ∈ tv i (.slice A n c), u.oneCell' = true := by
  intro u hu
  simp only [tv, List.mem_cons, List.not_mem_nil, or_false] at hu
  rcases hu with rfl | rfl <;> rfl
/-- A queue, a transaction with so many items, and a bool are answered. -/
def PollE (w : World) (n : Nat) (L : List Kep) (s i wa ba : Int) (ti : Int) (k : Nat) (b : Bool) (e : Ending) (w' : World) : Prop := ∃ v A c, e = .returned (.tuple #[v, .agg (tv ti (.slice A k c)).toArray, .bool b]) ∧ QueV w n L s i wa ba v w'
set_option maxRecDepth 100000 in
set_option maxHeartbeats 4000000 in
theorem poll_wait {w : World} {ok : Nat → Prop} {A : Option Addr} {L : List Kep} {c : Nat} (hL : Kps w ok A L) (hn : L.length = 5) :
    Calls Try.prog 9 #[.agg (qv (.slice A 5 c) 4 1 1 1).toArray] w (PollE w 5 L 4 1 1 1 0 0 false) := by
  obtain ⟨z, hz⟩ : ∃ z, z = qv (.slice A 5 c) 4 1 1 1 := ⟨_, rfl⟩
  have HZ := Lib.hid hz
  have HL := Lib.hid hL
  have HN := Lib.hid hn
  rw [← hz]
  clear hz hL hn
  go_enter Try.func9, Try.ntmps9
  go_wp2_with (first | (refine wpList_boxG rfl (.tmp 0) rfl (vs := z) rfl ?_) | fail)
  intro g w1 e1 b1 q1
  have B1 : Hid (Blk w1 g 29 (qv (.slice A 5 c) 4 1 1 1)) := by have h := b1.out; rw [HZ.out] at h; exact h
  have Q1 := Lib.hid q1.out
  have E1 : Hid (w.heap.size ≤ g) := by rw [e1.out]; exact Nat.le_refl _
  clear e1 b1 q1
  go_wp2_with (first | (refine wpList_allocG zeQ rfl rfl ?_) | fail)
  intro gr w2 e2 b2 q2
  have B2 := Lib.hid (B1.out.grown q2.out (by simp))
  have E2 : Hid (w.heap.size ≤ gr) := by rw [e2.out]; exact Q1.out.size
  have NE : Hid (g ≠ gr) := by rw [e2.out]; exact Nat.ne_of_lt B1.out.lt
  have BR2 := Lib.hid b2.out
  have Q2 := Lib.hid (Q1.out.trans q2.out)
  clear e2 b2 q2 B1 Q1
  go_wp2_with (first | (refine wpList_allocG zeT rfl rfl ?_) | fail)
  intro gt w3 e3 b3 q3
  have hb3 := B2.out.grown q3.out (by simp)
  have c30 : w3.cell? ⟨g, 0, none⟩ = some (.slice A 5 c) := hb3.get 0 _ rfl
  have B3 := Lib.hid hb3
  have E3 : Hid (w.heap.size ≤ gt) := by rw [e3.out]; exact Q2.out.size
  have NT : Hid (g ≠ gt) := by rw [e3.out]; exact Nat.ne_of_lt B2.out.lt
  have NR : Hid (gr ≠ gt) := by rw [e3.out]; exact Nat.ne_of_lt BR2.out.lt
  have BR3 := Lib.hid (BR2.out.grown q3.out (by simp))
  have BT3 := Lib.hid b3.out
  have Q3 := Lib.hid (Q2.out.trans q3.out)
  have OW := Lib.hid (own_any (n := 5) (c := c) (HL.out.grown Q3.out) HN.out (by omega))
  clear e3 b3 q3 hb3 B2 BR2 Q2
  go_wp2_with (first | (go_at_call 12; refine OW.out.mono ?_; rintro _ w4 ⟨A4, c4, rfl, r4, q4⟩; have R4 := Lib.hid r4; have Q4 := Lib.hid q4; have B4 := Lib.hid (B3.out.grown q4 (by simp)); clear r4 q4 c30) | (refine wpList_store_cell rfl 27 (.tmp 9) (.tmp 8) rfl size27 g 0 (.slice A4 5 c4) rfl rfl rfl (qv (.slice A 5 c) 4 1 1 1) 29 B4.out (by rw [qv_length]; omega) ?_) | fail)
  intro w5 b5 r5
  obtain ⟨A5, c5, e5, hc5, _, k5⟩ := R4.out.kps
  cases e5
  obtain ⟨bI, oI, eI, _, _⟩ := k5.some_ (by rw [HN.out]; omega) (fun _ _ => trivial)
  subst eI
  have HC5 : Hid (5 ≤ c4) := hc5
  have LG := Lib.hid B3.out.lt
  have LR := Lib.hid BR3.out.lt
  have LT := Lib.hid BT3.out.lt
  have hb5 : Blk w5 g 29 (qv (.slice (some ⟨bI, oI, none⟩) 5 c4) 4 1 1 1) := b5.out
  have R5 : Hid (KRow w3.heap.size w5 (.slice (some ⟨bI, oI, none⟩) 5 c4) 5 L) := R4.out.at (Nat.le_refl _) fun b hb1 _ => r5.out.block b (by have := LG.out; omega)
  have BR5 : Hid (Blk w5 gr 29 (qv nl 0 0 0 0)) := (BR3.out.grown Q4.out (by simp)).keep (r5.out.block gr NE.out.symm)
  have BT5 : Hid (Blk w5 gt 52 (tv 0 nl)) := (BT3.out.grown Q4.out (by simp)).keep (r5.out.block gt NT.out.symm)
  have Q5 : Hid (w.grownBy w5 none) := grown_in (Q3.out.trans Q4.out) r5.out.grown E1.out
  have k0 : w5.cell? ⟨g, 0, none⟩ = some (.slice (some ⟨bI, oI, none⟩) 5 c4) := hb5.get 0 _ rfl
  have k1 : w5.cell? ⟨g, 1, none⟩ = some (.int .i64 4) := hb5.get 1 _ rfl
  have k2 : w5.cell? ⟨g, 2, none⟩ = some (.int .u16 1) := hb5.get 2 _ rfl
  have k3 : w5.cell? ⟨g, 3, none⟩ = some (.int .u8 1) := hb5.get 3 _ rfl
  have B5 := Lib.hid hb5
  clear b5 r5 k5 hc5 hb5 B4 B3 BR3 BT3 R4 Q4 OW Q3
  go_wp2_with (first | (refine wpList_loadG agQ rfl (.tmp 1) rfl g rfl B5.out (qv_length _ _ _ _ _) ?_) | (refine wpList_zeroG zeT rfl rfl ?_) | (refine wpList_storeG agQ rfl (.tmp 2) (.tmp 38) rfl gr rfl rfl BR5.out (qv_length _ _ _ _ _) (qv_length _ _ _ _ _) (qv_one _ _ _ _ _ _ _) ?_) | fail)
  intro w6 b6 q6 _
  have BR6 := Lib.hid b6.out
  have Q6 := Lib.hid q6.out
  have BT6 : Hid (Blk w6 gt 52 (tv 0 nl)) := BT5.out.grown q6.out (by simpa using NR.out.symm)
  clear b6 q6 k0 k1 k2 k3
  go_wp2_with (first | (refine wpList_storeG agT rfl (.tmp 3) (.tmp 39) rfl gt rfl rfl BT6.out (tv_length _ _) (tv_length _ _) (tv_one _ _ _ _) ?_) | fail)
  intro w7 b7 q7 _
  have BR7 := BR6.out.grown q7.out (by simpa using NR.out)
  go_wp2
  refine bodyPost_ret (res_ccs rfl agQ agT rfl rfl rfl BR7 b7.out (qv_length _ _ _ _ _) (tv_length _ _)) rfl ⟨_, none, 0, rfl, some ⟨bI, oI, none⟩, c4, rfl, ?_, ?_⟩
  · have h1 := E1.out
    have h2 := LG.out
    have h3 := LR.out
    have h4 := LT.out
    exact R5.out.at (by omega) fun b hb1 hb2 => (q7.out.block b (Nat.lt_of_lt_of_le hb2 Q6.out.size) (by simp; omega)).trans (Q6.out.block b hb2 (by simp; omega))
  · exact grown_in (grown_in Q5.out Q6.out E2.out) q7.out E3.out
end Go.Proofs.Ytklcjjmeknajlaa
