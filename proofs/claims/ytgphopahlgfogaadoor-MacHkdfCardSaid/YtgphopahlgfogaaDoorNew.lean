/- A new hash under way. Conditions: none. -/
import Derived.Test.YtgphopahlgfogaaDoorFill
import Derived.Deep.MidRow
namespace Go.Proofs.YtgphopahlgfogaaDoor
open Go.RowKit
/-- The cells of a hash under way. -/
def hcells (s : St) (bs : List UInt8) (n : Nat) : List Value := u32s s.list ++ (u8s bs ++ [.int .u64 n])
/-- At p lies a hash under way, to which xs was put. -/
def HashAt (w : World) (p : Nat) (xs : List UInt8) : Prop := Blk w p 49 (hcells (st xs) (rst xs ++ List.replicate (64 - (rst xs).length) 0) xs.length)
def z41 : List Value := u32s (upto 8 []) ++ (u8s (List.replicate 64 0) ++ [.int .u64 (0 : Nat)])
theorem run_build41 (w : World) : (Instr.build 49 #[]).run Tryd.prog w = .ok (.agg z41.toArray) w := by kernel_rfl
theorem run_box41 (w : World) : (Instr.box 49 (.agg z41.toArray)).run Tryd.prog w = .ok (.pointer (some ⟨w.heap.size, 0, none⟩)) (w.alloc (.cells z41.toArray 49)) := by kernel_rfl
section
variable {w : World} {ops : Array Oper} {rest : List Oper} {o : Oper} {a : Act} {Q : Exit → Act → World → Prop}
theorem wpList_build41 (hgd : o.guard = none) (ho : o.op = .build 49 #[]) (h : wpList Tryd.prog ops Q rest (a.put o.dst (.agg z41.toArray)) w) : wpList Tryd.prog ops Q (o :: rest) a w := by
  refine wpList_plain hgd fun K hK => ?_
  have hrun := run_build41 w
  generalize z41 = z at hrun h
  unfold Oper.wp
  simp only [execOp, ho, List.map_toArray, List.map_nil, Sem.run_bind, hrun, Result.andThen_ok, Sem.run_pure]
  exact hK _ _ h
theorem wpList_box41 (hgd : o.guard = none) (x : Operand) (ho : o.op = .box 49 x) (hx : a.eval x = .agg z41.toArray)
    (h : ∀ w', Blk w' w.heap.size 49 z41 → w.grownBy w' none → w'.heap.size = w.heap.size + 1 → wpList Tryd.prog ops Q rest (a.put o.dst (.pointer (some ⟨w.heap.size, 0, none⟩))) w') : wpList Tryd.prog ops Q (o :: rest) a w := by
  refine wpList_plain hgd fun K hK => ?_
  have hrun := run_box41 w
  generalize z41 = z at hrun h hx
  unfold Oper.wp
  simp only [execOp, ho, hx, Sem.run_bind, hrun, Result.andThen_ok, Sem.run_pure]
  exact hK _ _ (h _ (Blk.of_alloc w _ 49) (World.grownBy_alloc w _ none) (World.size_alloc w _))
end
def sqV : List Value := sqN.map fun (n : Nat) => Value.int .u64 (n : Int)
theorem run_index42 (k : Nat) (hk : k < 8) (W : World) : (Instr.index 50 (.agg sqV.toArray) (.int .i64 (k : Int))).run Tryd.prog W = .ok (.int .u64 ((sqN.getD k 0 : Nat) : Int)) W := by
  obtain rfl | rfl | rfl | rfl | rfl | rfl | rfl | rfl : k = 0 ∨ k = 1 ∨ k = 2 ∨ k = 3 ∨ k = 4 ∨ k = 5 ∨ k = 6 ∨ k = 7 := by omega
  all_goals kernel_rfl
/-- The k first of the first words. -/
def sq (k : Nat) : List UInt32 := (List.range k).map fun i => UInt32.ofNat (sqN.getD i 0 / 4294967296)
theorem sq_length (k : Nat) : (sq k).length = k := by simp [sq]
theorem sq_succ (k : Nat) : sq (k + 1) = sq k ++ [UInt32.ofNat (sqN.getD k 0 / 4294967296)] := by simp [sq, List.range_succ]
theorem sq_all : sq 8 = H0.list := by decide
theorem size42 : (Tryd.prog.info? 50).map (·.size) = some 8 := by kernel_rfl
theorem range_sq {w : World} (hS : ∀ i, i < 8 → w.cell? ⟨0, i, none⟩ = some (.int .u64 (sqN.getD i 0 : Nat))) : w.rangeAt 0 0 sqV := fun j v hv => by
  have hj : j < 8 := (List.getElem?_eq_some_iff.1 hv).1
  rw [Nat.zero_add, hS j hj]
  unfold sqV at hv
  rw [List.getElem?_map] at hv
  have hj' : j < sqN.length := hj
  rw [List.getElem?_eq_getElem hj'] at hv
  rw [List.getD_eq_getElem?_getD, List.getElem?_eq_getElem hj']
  exact hv
set_option maxRecDepth 100000 in
set_option maxHeartbeats 1600000 in
theorem new_any {w : World} (hS : ∀ i, i < 8 → w.cell? ⟨0, i, none⟩ = some (.int .u64 (sqN.getD i 0 : Nat))) :
    Calls Tryd.prog 18 #[] w fun e w' => e = .returned (.pointer (some ⟨w.heap.size, 0, none⟩)) ∧ HashAt w' w.heap.size [] ∧ w.grownBy w' none := by
  go_enter Tryd.func18, Tryd.ntmps18
  go_wp2_with (first | (refine wpList_build41 rfl rfl ?_) | (refine wpList_box41 rfl _ rfl rfl ?_))
  intro w1 hb1 hg1 hz1
  have hr1 := range_sq (w := w1) fun i hi => hg1.cell (hS i hi) (by simp)
  go_wp2_with (refine wpList_load_mid rfl 50 _ rfl 0 0 rfl sqV _ hr1 Tryd.underlying50 rfl (by rw [size42]; rfl) ?_)
  generalize hsv : sqV = sv
  have HSV := Lib.hid hsv
  clear hr1 hsv
  go_loopw [7] (fun i wr => ∃ k : Nat, k ≤ 8 ∧ i = .int .i64 k ∧ Blk wr w.heap.size 49 (u32s (upto 8 (sq k)) ++ (u8s (List.replicate 64 0) ++ [.int .u64 (0 : Nat)])) ∧ w.grownBy wr none) (fun i _ => 8 - (intOf i).toNat)
  case atStart => exact ⟨0, Nat.zero_le _, rfl, hb1, hg1⟩
  case round =>
    clear hb1 hg1 hz1 hS
    obtain ⟨k, hk, rfl, hb, hg⟩ := hrel
    by_cases hlt : k < 8
    · have hul := upto_length 8 (sq k) (by rw [sq_length]; omega)
      have hc := hb.get k _ (by rw [List.getElem?_append_left (by rw [u32s_length]; omega)]; exact u32s_get _ _ (by omega))
      have hf := hb.frozen k
      have hix := run_index42 k hlt
      rw [HSV.out] at hix
      have hq : ((sqN.getD k 0 : Nat) : Int) / 4294967296 % 4294967296 = ((UInt32.ofNat (sqN.getD k 0 / 4294967296)).toNat : Int) := by rw [w_ofNat]; rfl
      have HQ := Lib.hid hq
      have HB := Lib.hid hb
      clear hq hb
      go_wp2
      go_roundw
      case rel =>
        simp only [← List.getD_eq_getElem?_getD]
        rw [HQ.out]
        refine ⟨k + 1, by omega, by go_num, ?_, grown_new hg (Nat.le_refl _) _ _⟩
        have hs := HB.out.set k (.int .u32 ((UInt32.ofNat (sqN.getD k 0 / 4294967296)).toNat : Int))
        rw [List.set_append_left _ _ (by rw [u32s_length]; omega), u32s_set, upto_set 8 k _ _ (by rw [sq_length]; omega) (sq_length k), ← sq_succ] at hs
        exact hs
      case measure => simp [intOf]; omega
    · have ek : k = 8 := by omega
      rw [ek, upto_full 8 _ (sq_length 8), sq_all] at hb
      go_wp2
      go_ret
      exact ⟨rfl, hb, hg⟩
end Go.Proofs.YtgphopahlgfogaaDoor
