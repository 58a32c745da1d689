/- slices.Backward over the writes that wait: each of them is handed to the loop's body, the last one first. Conditions: none. -/
import Derived.Test.YtonpcenjipigpaaGreatZ13
import Derived.RangeFuncNested
import Derived.RangeFuncBound
import Derived.RangeFuncCalls
import Derived.RangeFuncLeaves
import Derived.Shelf.Abstract
import Derived.Shelf.RegionOpen
import Derived.OwnWalkIn
import Derived.TacticsInMore
import Derived.LoopNIn
import Derived.LoopIn
namespace Go.Proofs.YtonpcenjipigpaaGreat
open Go.RowKit Go.Shelf
attribute [local go_sem] Oper.semAt_some
/-- Below n₀ no block but gb has turned. -/
def But (gb n₀ : Nat) (A B : World) : Prop := ∀ k, k < n₀ → k ≠ gb → B.heap[k]? = A.heap[k]?
theorem But.refl (gb n₀ : Nat) (A : World) : But gb n₀ A A := fun _ _ _ => rfl
theorem But.trans {gb n₀ : Nat} {A B C : World} (h : But gb n₀ A B) (k : But gb n₀ B C) : But gb n₀ A C := fun i hi hn => (k i hi hn).trans (h i hi hn)
theorem But.putObj {gb n₀ : Nat} {w : World} (hn : n₀ ≤ w.heap.size) (W : World) (l : Nat) (o o' : Obj) (hl : w.heap.size ≤ l) (_ : W.heap[l]? = some o) (_ : o.isCells = false) (_ : o.isWalk = false) : But gb n₀ W (W.putObj l o') :=
  fun k hk _ => World.putObj_heap_other (fun e => by omega)
/-- A write that fits a disk of n blocks. -/
abbrev Wr64 (n : Nat) := { x : Nat × List UInt8 // x.1 < n ∧ x.2.length = 64 }
theorem run_index53 (w : World) (g o n c i : Nat) (hi : i < n) : (Instr.indexAt 68 (.slice (some ⟨g, o, none⟩) n c) (.int .i64 (i : Int))).run Tryz.prog w = .ok (.pointer (some ⟨g, o + 65 * i, none⟩)) w := by
  have h := run_indexAt_slice (P := Tryz.prog) w 68 ⟨g, o, none⟩ n c .i64 (i : Int) (by kernel_rfl)
  have hc : (0 : Int) ≤ (i : Int) ∧ (i : Int) < (n : Int) := by omega
  have hs : (sizeOf (Tryz.prog.elem 68)).run Tryz.prog w = .ok 65 w := by kernel_rfl
  rw [if_pos hc, hs] at h
  rw [h]
  simp [Addr.add_mid, Nat.mul_comm]
theorem run_load59 (w : World) (g o i : Nat) (b : List UInt8) (hl : b.length = 64) (h : w.rangeAt g o (wcell i b)) : (Instr.loadAt 99 (.pointer (some ⟨g, o, none⟩))).run Tryz.prog w = .ok (.agg (wcell i b).toArray) w :=
  run_loadAt_mid w g o 99 (wcell i b) _ h Tryz.underlying99 rfl (by rw [size59, wcell_length hl])
theorem wcells_at {n : Nat} : ∀ {W : List (Nat × List UInt8)}, Fit n W → ∀ (j : Nat) (hj : j < W.length) (q : Nat) (v : Value), (wcell W[j].1 W[j].2)[q]? = some v → (wcells W)[65 * j + q]? = some v
  | [], _, _, hj, _, _, _ => absurd hj (by simp)
  | x :: W, hf, 0, _, q, v, hv => by
    have e : wcells (x :: W) = wcell x.1 x.2 ++ wcells W := rfl
    have hl := (List.getElem?_eq_some_iff.1 hv).1
    rw [e, Nat.mul_zero, Nat.zero_add, List.getElem?_append_left (by simpa using hl)]
    simpa using hv
  | x :: W, hf, j + 1, hj, q, v, hv => by
    have e : wcells (x :: W) = wcell x.1 x.2 ++ wcells W := rfl
    have hx := wcell_length (i := x.1) (hf x (List.mem_cons_self ..)).2
    rw [e, List.getElem?_append_right (by rw [hx]; omega), hx, show 65 * (j + 1) + q - 65 = 65 * j + q by omega]
    exact wcells_at (fun y hy => hf y (List.mem_cons_of_mem _ hy)) j (by simpa using hj) q v (by simpa using hv)
theorem wcells_length {n : Nat} : ∀ {W : List (Nat × List UInt8)}, Fit n W → (wcells W).length = W.length * 65
  | [], _ => rfl
  | x :: W, hf => by
    have e : wcells (x :: W) = wcell x.1 x.2 ++ wcells W := rfl
    rw [e, List.length_append, wcell_length (hf x (List.mem_cons_self ..)).2, wcells_length (fun y hy => hf y (List.mem_cons_of_mem _ hy)), List.length_cons]
    omega
theorem semAt_plain (r : Option Nat) (ρ : Operand → Value) (o : Oper) (h : ∀ c, o.op ≠ .defer c) : Oper.semAt r ρ o = execOp ρ o := by
  cases r with
  | none => exact Oper.semAt_none ρ o
  | some l => exact Oper.semAt_some l ρ o h
section
variable {F : Fence} {n : Nat} {ops : Array Oper} {Q : Exit → Act → World → Prop} {a : Act} {w : World} {rest : List Oper} {o : Oper}
/-- An operation that is no call and runs to a value. -/
theorem wpListIn_runs (hgd : o.guard = none) (hd : ∀ c, o.op ≠ .defer c) (hab : o.about Tryz.prog w a.eval = none) {v : Value} {w' : World} (hrun : (execOp a.eval o).run Tryz.prog w = .ok (.value v) w') (h : wpListIn F n Tryz.prog ops Q rest (a.put o.dst v) w') :
    wpListIn F n Tryz.prog ops Q (o :: rest) a w :=
  wpListIn_plain hgd fun K hK => by
    unfold Oper.wpIn
    rw [semAt_plain _ _ _ hd, hab, hrun]
    exact ⟨fun f hf => (by cases hf), hK _ _ h⟩
theorem wpListIn_skips (hgd : o.guard = none) (hd : ∀ c, o.op ≠ .defer c) (hab : o.about Tryz.prog w a.eval = none) {w' : World} (hrun : (execOp a.eval o).run Tryz.prog w = .ok .skip w') (h : wpListIn F n Tryz.prog ops Q rest (a.put o.dst undef) w') :
    wpListIn F n Tryz.prog ops Q (o :: rest) a w :=
  wpListIn_plain hgd fun K hK => by
    unfold Oper.wpIn
    rw [semAt_plain _ _ _ hd, hab, hrun]
    exact ⟨fun f hf => (by cases hf), hK _ _ h⟩
theorem run_alloc59 (w : World) : (Instr.alloc 99 true (.tuple #[])).run Tryz.prog w = .ok (.pointer (some ⟨w.heap.size, 0, none⟩)) (w.alloc (.cells (wcell 0 (zb 64)).toArray 99)) := by kernel_rfl
theorem wpListIn_alloc59 (hgd : o.guard = none) (ho : o.op = .alloc 99)
    (h : ∀ w', Hid (Blk w' w.heap.size 99 (wcell 0 (zb 64))) → Hid (w.grownBy w' none) → Hid (w'.heap.size = w.heap.size + 1) → wpListIn F n Tryz.prog ops Q rest (a.put o.dst (.pointer (some ⟨w.heap.size, 0, none⟩))) w') : wpListIn F n Tryz.prog ops Q (o :: rest) a w := by
  refine wpListIn_runs hgd (by simp [ho]) (by simp [Oper.about, ho]) (w' := w.alloc (.cells (wcell 0 (zb 64)).toArray 99)) ?_ (h _ (Blk.of_alloc w _ 99) (World.grownBy_alloc w _ none) (World.size_alloc w _))
  have hrun := run_alloc59 w
  generalize wcell 0 (zb 64) = z at *
  unfold execOp
  simp only [ho, hrun, Sem.run_bind, Sem.run_pure, Result.andThen_ok]
theorem wpListIn_store59 (hgd : o.guard = none) (x y : Operand) (ho : o.op = .store 99 x y) (g i j : Nat) (b c : List UInt8) (hx : a.eval x = .pointer (some ⟨g, 0, none⟩)) (hy : a.eval y = .agg (wcell i b).toArray) (hl : b.length = 64) (hl2 : c.length = 64) (hb : Blk w g 99 (wcell j c))
    (h : ∀ w', Hid (Blk w' g 99 (wcell i b)) → Hid (w.grownBy w' (some g)) → Hid (w'.heap.size = w.heap.size) → wpListIn F n Tryz.prog ops Q rest (a.put o.dst undef) w') : wpListIn F n Tryz.prog ops Q (o :: rest) a w := by
  have hrun := run_storeVar_row (P := Tryz.prog) w g 99 99 (wcell j c).toArray (wcell i b).toArray hb (by rw [size59]; simp [wcell_length hl]) (by simp [wcell_length hl, wcell_length hl2]) (all_oneCell_toArray (wcell_one i b))
  refine wpListIn_skips hgd (by simp [ho]) (by simp [Oper.about, ho]) (w' := w.setRow g (wcell i b).toArray) ?_ (h _ (Blk.setRow hb) (grown_setRow _ _ _) (show (w.setRow g (wcell i b).toArray).heap.size = w.heap.size by simp [World.setRow]))
  generalize wcell i b = z at *
  unfold execOp
  simp only [ho, hx, hy, Instr.storeAt, Instr.sureAddr, Sem.run_bind, Sem.run_pure, Result.andThen_ok, hrun]
theorem wpListIn_load59 (hgd : o.guard = none) (x : Operand) (ho : o.op = .load 99 x) (g off i : Nat) (b : List UInt8) (hx : a.eval x = .pointer (some ⟨g, off, none⟩)) (hl : b.length = 64) (hr : w.rangeAt g off (wcell i b))
    (h : wpListIn F n Tryz.prog ops Q rest (a.put o.dst (.agg (wcell i b).toArray)) w) : wpListIn F n Tryz.prog ops Q (o :: rest) a w := by
  refine wpListIn_runs (w' := w) hgd (by simp [ho]) (by simp [Oper.about, ho]) ?_ h
  have hrun := run_load59 w g off i b hl hr
  unfold execOp
  simp only [ho, hx, hrun, Sem.run_bind, Sem.run_pure, Result.andThen_ok]
end
/-- What has come of W, from its end on: the first ones of its reversal. -/
def Came {n : Nat} (W : List (Nat × List UInt8)) (k : Nat) (pre : List (Int × Wr64 n)) : Prop := pre.map (fun x => x.2.1) = W.reverse.take k
theorem Came.zero {n : Nat} (W : List (Nat × List UInt8)) : Came (n := n) W 0 [] := by simp [Came]
theorem Came.succ {n : Nat} {W : List (Nat × List UInt8)} {k : Nat} {pre : List (Int × Wr64 n)} (h : Came W k pre) (j : Nat) (hj : j < W.length) (hk : k + j + 1 = W.length) (z : Int) (x : Wr64 n) (hx : x.1 = W[j]) : Came W (k + 1) (pre ++ [(z, x)]) := by
  unfold Came at *
  have hr : W.reverse[k]? = some W[j] := by
    rw [List.getElem?_reverse (by omega), show W.length - 1 - k = j by omega, List.getElem?_eq_getElem hj]
  rw [List.map_append, h, List.take_add_one, hr]
  simp [hx]
set_option maxRecDepth 100000 in
set_option maxHeartbeats 2000000 in
theorem backward_in (Fe : Fence) (n : Nat) (h32 : Fe.fn 92) (hro : Fe.round = none) (hn : 1 ≤ n) (l Bs gb n₀ nb : Nat) (A : Option Addr) (cw : Nat) (W : List (Nat × List UInt8)) (hW : Fit nb W) (hlen : W.length ≤ 1048577) (hBs : Bs < n₀ ∧ Bs ≠ gb)
    (J Jx : List (Int × Wr64 nb) → World → Prop)
    (hY : ∀ pre (x : Int × Wr64 nb) W1, J pre W1 → pre.length < W.length → YieldAt Fe (n - 1) Tryz.prog l #[.int .i64 x.1, .agg (wcell x.2.1.1 x.2.1.2).toArray] W1 fun e W' =>
      (e = .returned (.bool true) ∧ J (pre ++ [x]) W' ∧ But gb n₀ W1 W') ∨ (e = .returned (.bool false) ∧ Jx (pre ++ [x]) W'))
    (w : World) (hc : w.cell? ⟨Bs, 0, none⟩ = some (.slice A W.length cw)) (hr : ∀ j (hj : j < W.length), ∃ g o, A = some ⟨g, o, none⟩ ∧ g < n₀ ∧ g ≠ gb ∧ w.rangeAt g (o + 65 * j) (wcell W[j].1 W[j].2)) (h0 : J [] w) :
    CallsIn Fe n Tryz.prog 92 #[.func (.yield l) #[] #[], .pointer (some ⟨Bs, 0, none⟩)] w fun e W' => (∃ v, e = .returned v) ∧
      ((∃ ys, Came W W.length ys ∧ J ys W') ∨ (∃ pre : List (Int × Wr64 nb), True ∧ Jx pre W')) := by
  refine callsIn_of_wp Tryz.func92 rfl h32 ?_ hro
  simp only [Tryz.ntmps92, List.size_toArray, List.length_cons, List.length_nil, Nat.reduceAdd, Nat.reduceSub, Array.replicate_succ, Array.replicate_zero, List.push_toArray, List.append_toArray, List.nil_append, List.cons_append]
  gi_wp2
  gi_loopw [3] (fun i wr => ∃ (k : Nat) (pre : List (Int × Wr64 nb)), k ≤ W.length ∧ i = .int .i64 ((W.length : Int) - 1 - k) ∧ Came W k pre ∧ J pre wr ∧ But gb n₀ w wr)
    (fun i _ => (intOf i + 1).toNat)
  case atStart => exact ⟨0, [], Nat.zero_le _, by simp, Came.zero W, h0, But.refl _ _ _⟩
  case round =>
    obtain ⟨k, pre, hk, rfl, hC, hJ, hB⟩ := hrel
    have hcr : wr.cell? ⟨Bs, 0, none⟩ = some (.slice A W.length cw) := (World.cell?_of_block (hB Bs hBs.1 hBs.2)).trans hc
    by_cases hlt : k < W.length
    · obtain ⟨j, hj⟩ : ∃ j, k + j + 1 = W.length := ⟨W.length - 1 - k, by omega⟩
      have hjl : j < W.length := by omega
      obtain ⟨g, o, rfl, hg1, hg2, hrg⟩ := hr j hjl
      have hrg' : wr.rangeAt g (o + 65 * j) (wcell W[j].1 W[j].2) := fun q v hv => (World.cell?_of_block (hB g hg1 hg2)).trans (hrg q v hv)
      obtain ⟨x, hx⟩ : ∃ x : Wr64 nb, x.1 = W[j] := ⟨⟨W[j], hW W[j] (List.getElem_mem _)⟩, rfl⟩
      rw [← hx] at hrg'
      have HRG := Lib.hid hrg'
      have hix := fun w => run_index53 w g o W.length cw j hjl
      have hpl : pre.length = k := by
        have := congrArg List.length hC
        simpa [List.length_take, Nat.min_eq_left hk] using this
      obtain ⟨fn, tmps, assign, body, hy, hR⟩ := hY pre ((j : Int), x) wr hJ (by omega)
      dsimp only at hy
      have hjv : (W.length : Int) - 1 - k = (j : Int) := by omega
      rw [hjv]
      have HC := Lib.hid hC
      have HJ := Lib.hid hj
      have HX := Lib.hid hx
      have HBT := Lib.hid hB
      have HHC := Lib.hid hc
      have HHR := Lib.hid hr
      have hd : decide (0 ≤ (j : Int)) = true := by simp
      clear hC hj hpl hr hB hrg hrg' hY hJ hjv hc h0 hx
      gi_wp2_with (first | (refine wpListIn_load59 rfl _ rfl g (o + 65 * j) x.1.1 x.1.2 rfl x.2.2 HRG.out ?_) | fail)
      refine hR.mono ?_
      rintro e W3 (⟨rfl, hJ3, hk3⟩ | ⟨rfl, hJx3⟩)
      · gi_wp2
        go_roundw
        case rel =>
          refine ⟨k + 1, _, by omega, ?_, HC.out.succ j hjl HJ.out _ x HX.out, hJ3, HBT.out.trans hk3⟩
          have := HJ.out
          congr 1
          omega
        case measure => simp [intOf]
      · gi_wp2
        refine bodyPost_ret (results_none rfl _ _ _) rfl ?_
        exact ⟨⟨_, rfl⟩, .inr ⟨_, trivial, hJx3⟩⟩
    · obtain rfl : k = W.length := by omega
      have hjv : (W.length : Int) - 1 - (W.length : Int) = -1 := by omega
      rw [hjv]
      clear hr hY hB
      gi_wp2
      go_end0
      exact ⟨⟨_, rfl⟩, .inl ⟨pre, hC, hJ⟩⟩
/-- The writes that wait, where the slice of them lies. -/
def Lies (w : World) (n₀ gb : Nat) (A : Option Addr) (W : List (Nat × List UInt8)) : Prop := ∀ j (hj : j < W.length), ∃ g o, A = some ⟨g, o, none⟩ ∧ g < n₀ ∧ g ≠ gb ∧ w.rangeAt g (o + 65 * j) (wcell W[j].1 W[j].2)
theorem Lies.keep {w w' : World} {n₀ gb : Nat} {A : Option Addr} {W : List (Nat × List UInt8)} (h : Lies w n₀ gb A W) (hk : ∀ k, k < n₀ → k ≠ gb → w'.heap[k]? = w.heap[k]?) : Lies w' n₀ gb A W := fun j hj => by
  obtain ⟨g, o, e, h1, h2, h3⟩ := h j hj
  exact ⟨g, o, e, h1, h2, fun q v hv => (World.cell?_of_block (hk g h1 h2)).trans (h3 q v hv)⟩
theorem Lies.mono {w : World} {n₀ n₁ gb : Nat} {A : Option Addr} {W : List (Nat × List UInt8)} (h : Lies w n₀ gb A W) (hn : n₀ ≤ n₁) : Lies w n₁ gb A W := fun j hj => by
  obtain ⟨g, o, e, h1, h2, h3⟩ := h j hj
  exact ⟨g, o, e, Nat.lt_of_lt_of_le h1 hn, h2, h3⟩
theorem Lies.of_own {w : World} {b nb gb : Nat} {A : Option Addr} {c : Nat} {W : List (Nat × List UInt8)} (h : w.ownsRow b 99 65 (.slice A W.length c) W.length (wcells W)) (hf : Fit nb W) (hne : ∀ k, (Value.slice A W.length c).ownBlock = some k → k ≠ gb) : Lies w w.heap.size gb A W := fun j hj => by
  obtain ⟨g, cap, e, _, hlt⟩ := h.form (by omega)
  simp only [Value.slice.injEq] at e
  obtain ⟨rfl, -, rfl⟩ := e
  refine ⟨g, 0, rfl, hlt, hne g rfl, fun q v hv => ?_⟩
  have hc := h.cells (g := g) rfl (65 * j + q) v (wcells_at hf j hj q v hv)
  rw [Addr.add_mid, Nat.zero_add] at hc
  rwa [Nat.zero_add]
theorem Lies.drop {w : World} {n₀ gb : Nat} {A : Option Addr} {W : List (Nat × List UInt8)} (h : Lies w n₀ gb A W) (k : Nat) (B : Option Addr) (hB : k < W.length → ∀ g o, A = some ⟨g, o, none⟩ → B = some ⟨g, o + 65 * k, none⟩) : Lies w n₀ gb B (W.drop k) := fun j hj => by
  have hj' : k + j < W.length := by rw [List.length_drop] at hj; omega
  obtain ⟨g, o, e, h1, h2, h3⟩ := h (k + j) hj'
  refine ⟨g, o + 65 * k, hB (by omega) g o e, h1, h2, ?_⟩
  rw [List.getElem_drop, show o + 65 * k + 65 * j = o + 65 * (k + j) by omega]
  exact h3
theorem backward_stops (Fe : Fence) (n : Nat) (h32 : Fe.fn 92) (hro : Fe.round = none) (hn : 1 ≤ n) (Bs gb nb : Nat) (A : Option Addr) (cw : Nat) (W : List (Nat × List UInt8)) (hW : Fit nb W) (hlen : W.length ≤ 1048577) (w : World) (hBs : Bs < w.heap.size ∧ Bs ≠ gb)
    (hc : w.cell? ⟨Bs, 0, none⟩ = some (.slice A W.length cw)) (hr : Lies w w.heap.size gb A W) :
    SeqStopsK Fe n Tryz.prog 92 #[.pointer (some ⟨Bs, 0, none⟩)] (fun x : Int × Wr64 nb => #[Value.int .i64 x.1, .agg (wcell x.2.1.1 x.2.1.2).toArray]) (But gb w.heap.size) (Came W W.length) (fun _ => True) W.length w :=
  fun l J Jx V hV _ _ hY h0 => backward_in Fe n h32 hro hn l Bs gb w.heap.size nb A cw W hW hlen hBs J Jx hY V ((hV.cell (p := ⟨Bs, 0, none⟩) hBs.1).trans hc) (hr.keep fun k hk _ => hV.block k hk) h0
set_option maxHeartbeats 1000000 in
theorem backward_make (Fe : Fence) (n : Nat) (h31 : Fe.fn 73) (hro : Fe.round = none) (A : Option Addr) (len cap : Nat) (w : World) :
    CallsIn Fe n Tryz.prog 73 #[.slice A len cap] w fun e w' => e = .returned (.func (.func 92) #[] #[.pointer (some ⟨w.heap.size, 0, none⟩)]) ∧ w' = w.alloc (.cells #[.slice A len cap] 68) := by
  refine callsIn_of_wp Tryz.func73 rfl h31 ?_ hro
  simp only [Tryz.ntmps73, List.size_toArray, List.length_cons, List.length_nil, Nat.reduceAdd, Nat.reduceSub, Array.replicate_succ, Array.replicate_zero, List.push_toArray, List.append_toArray, List.nil_append, List.cons_append]
  gi_wp2
  go_ret
  exact ⟨rfl, rfl⟩
end Go.Proofs.YtonpcenjipigpaaGreat
