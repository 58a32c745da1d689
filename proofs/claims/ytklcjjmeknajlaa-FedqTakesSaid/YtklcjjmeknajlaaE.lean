/- fedq.sent, the law's ask, Take of either; the writer's small calls. Conditions: the numbers are small. -/
import Derived.Test.YtklcjjmeknajlaaD
namespace Go.Proofs.Ytklcjjmeknajlaa
open Go.RowKit
theorem run_buildI (w : World) (k a p : Int) : (Instr.build 49 #[(0, .int .u8 k), (1, .int .u8 a), (2, .int .u8 p)]).run Try.prog w = .ok (.agg (ic k a p).toArray) w := by kernel_rfl
theorem run_buildI1 (w : World) (k : Int) : (Instr.build 49 #[(0, .int .u8 k)]).run Try.prog w = .ok (.agg (ic k 0 0).toArray) w := by kernel_rfl
theorem run_buildT (w : World) (i : Int) (A : Option Addr) (n c : Nat) : (Instr.build 52 #[(0, .int .u16 i), (1, .slice A n c)]).run Try.prog w = .ok (.agg (tv i (.slice A n c)).toArray) w := by kernel_rfl
theorem run_buildSliceI (w : World) (x : Kep) : (Instr.buildSlice 27 1 #[(0, .agg (kv x).toArray)]).run Try.prog w = .ok (.slice (some ⟨w.heap.size, 0, none⟩) 1 1) (w.alloc (.cells (kv x).toArray 49)) := by kernel_rfl
theorem run_buildLs (w : World) (n : Int) : (Instr.build 75 #[(0, .int .u8 0), (1, .int .u8 0), (2, .agg hz.toArray), (3, .int .i64 n)]).run Try.prog w = .ok (.agg (lz (.int .i64 n)).toArray) w := by kernel_rfl
theorem run_buildOs (w : World) (n : Int) : (Instr.build 77 #[(0, .int .u8 0), (1, .int .u8 0), (2, .agg (zk 32).toArray), (3, .int .u32 0), (4, .int .u32 0), (5, .agg (zk 64).toArray), (6, .int .i64 n)]).run Try.prog w = .ok (.agg (oz (.int .i64 n)).toArray) w := by kernel_rfl
theorem run_buildS (w : World) (k a p : Int) : (Instr.build 79 #[(0, .int .u8 k), (1, .int .u8 a), (2, .int .u8 p), (3, .agg (lz (.int .i64 0)).toArray), (4, .agg bz.toArray), (5, .agg (oz (.int .i64 0)).toArray)]).run Try.prog w = .ok (.agg (sv k a p).toArray) w := by kernel_rfl
section
variable {w : World} {ops : Array Oper} {rest : List Oper} {S : World → Prop} {o : Oper} {a : Act} {K : Act → World → Prop} {Q : Exit → Act → World → Prop}
theorem wpList_buildI (hgd : o.guard = none) (x0 x1 x2 : Operand) (ho : o.op = .build 49 #[(0, x0), (1, x1), (2, x2)]) (k b p : Int) (h0 : a.eval x0 = .int .u8 k) (h1 : a.eval x1 = .int .u8 b) (h2 : a.eval x2 = .int .u8 p)
    (h : wpList Try.prog ops Q rest (a.put o.dst (.agg (ic k b p).toArray)) w) : wpList Try.prog ops Q (o :: rest) a w := by
  refine wpList_plain hgd fun K hK => ?_
  have hrun := run_buildI w k b p
  generalize ic k b p = q0 at *
  unfold Oper.wp
  simp only [execOp, ho, List.map_toArray, List.map_cons, List.map_nil, h0, h1, h2, Sem.run_bind, hrun, Result.andThen_ok, Sem.run_pure]
  exact hK _ _ h
theorem wpList_buildI1 (hgd : o.guard = none) (x0 : Operand) (ho : o.op = .build 49 #[(0, x0)]) (k : Int) (h0 : a.eval x0 = .int .u8 k)
    (h : wpList Try.prog ops Q rest (a.put o.dst (.agg (ic k 0 0).toArray)) w) : wpList Try.prog ops Q (o :: rest) a w := by
  refine wpList_plain hgd fun K hK => ?_
  have hrun := run_buildI1 w k
  generalize ic k 0 0 = q0 at *
  unfold Oper.wp
  simp only [execOp, ho, List.map_toArray, List.map_cons, List.map_nil, h0, Sem.run_bind, hrun, Result.andThen_ok, Sem.run_pure]
  exact hK _ _ h
theorem wpList_buildT (hgd : o.guard = none) (x0 x1 : Operand) (ho : o.op = .build 52 #[(0, x0), (1, x1)]) (i : Int) (A : Option Addr) (n c : Nat) (h0 : a.eval x0 = .int .u16 i) (h1 : a.eval x1 = .slice A n c)
    (h : wpList Try.prog ops Q rest (a.put o.dst (.agg (tv i (.slice A n c)).toArray)) w) : wpList Try.prog ops Q (o :: rest) a w := by
  refine wpList_plain hgd fun K hK => ?_
  have hrun := run_buildT w i A n c
  unfold Oper.wp
  simp only [execOp, ho, List.map_toArray, List.map_cons, List.map_nil, h0, h1, Sem.run_bind, hrun, Result.andThen_ok, Sem.run_pure]
  exact hK _ _ h
theorem wpList_buildLs (hgd : o.guard = none) (x0 x1 x2 x3 : Operand) (ho : o.op = .build 75 #[(0, x0), (1, x1), (2, x2), (3, x3)])  (h0 : a.eval x0 = .int .u8 0) (h1 : a.eval x1 = .int .u8 0) (h2 : a.eval x2 = .agg hz.toArray) (h3 : a.eval x3 = .int .i64 0)
    (h : wpList Try.prog ops Q rest (a.put o.dst (.agg (lz (.int .i64 0)).toArray)) w) : wpList Try.prog ops Q (o :: rest) a w := by
  refine wpList_plain hgd fun K hK => ?_
  have hrun := run_buildLs w 0
  generalize lz (.int .i64 0) = q0 at *
  generalize hz = q1 at *
  unfold Oper.wp
  simp only [execOp, ho, List.map_toArray, List.map_cons, List.map_nil, h0, h1, h2, h3, Sem.run_bind, hrun, Result.andThen_ok, Sem.run_pure]
  exact hK _ _ h
theorem wpList_buildOs (hgd : o.guard = none) (x0 x1 x2 x3 x4 x5 x6 : Operand) (ho : o.op = .build 77 #[(0, x0), (1, x1), (2, x2), (3, x3), (4, x4), (5, x5), (6, x6)])  (h0 : a.eval x0 = .int .u8 0) (h1 : a.eval x1 = .int .u8 0) (h2 : a.eval x2 = .agg (zk 32).toArray) (h3 : a.eval x3 = .int .u32 0) (h4 : a.eval x4 = .int .u32 0) (h5 : a.eval x5 = .agg (zk 64).toArray) (h6 : a.eval x6 = .int .i64 0)
    (h : wpList Try.prog ops Q rest (a.put o.dst (.agg (oz (.int .i64 0)).toArray)) w) : wpList Try.prog ops Q (o :: rest) a w := by
  refine wpList_plain hgd fun K hK => ?_
  have hrun := run_buildOs w 0
  generalize oz (.int .i64 0) = q0 at *
  generalize zk 32 = q1 at *
  generalize zk 64 = q2 at *
  unfold Oper.wp
  simp only [execOp, ho, List.map_toArray, List.map_cons, List.map_nil, h0, h1, h2, h3, h4, h5, h6, Sem.run_bind, hrun, Result.andThen_ok, Sem.run_pure]
  exact hK _ _ h
theorem wpList_buildS (hgd : o.guard = none) (x0 x1 x2 x3 x4 x5 : Operand) (ho : o.op = .build 79 #[(0, x0), (1, x1), (2, x2), (3, x3), (4, x4), (5, x5)]) (k b p : Int) (h0 : a.eval x0 = .int .u8 k) (h1 : a.eval x1 = .int .u8 b) (h2 : a.eval x2 = .int .u8 p) (h3 : a.eval x3 = .agg (lz (.int .i64 0)).toArray) (h4 : a.eval x4 = .agg bz.toArray) (h5 : a.eval x5 = .agg (oz (.int .i64 0)).toArray)
    (h : wpList Try.prog ops Q rest (a.put o.dst (.agg (sv k b p).toArray)) w) : wpList Try.prog ops Q (o :: rest) a w := by
  refine wpList_plain hgd fun K hK => ?_
  have hrun := run_buildS w k b p
  generalize sv k b p = q0 at *
  generalize lz (.int .i64 0) = q1 at *
  generalize bz = q2 at *
  generalize oz (.int .i64 0) = q3 at *
  unfold Oper.wp
  simp only [execOp, ho, List.map_toArray, List.map_cons, List.map_nil, h0, h1, h2, h3, h4, h5, Sem.run_bind, hrun, Result.andThen_ok, Sem.run_pure]
  exact hK _ _ h
theorem wpList_sliceI (hgd : o.guard = none) (x : Operand) (ho : o.op = .buildSlice 27 1 #[(0, x)]) {y : Kep} (hx : a.eval x = .agg (kv y).toArray)
    (h : ∀ g w', Hid (g = w.heap.size) → Hid (Kps w' (fun b => b = g) (some ⟨g, 0, none⟩) [y]) → Hid (w.grownBy w' none) → wpList Try.prog ops Q rest (a.put o.dst (.slice (some ⟨g, 0, none⟩) 1 1)) w') : wpList Try.prog ops Q (o :: rest) a w := by
  refine wpList_plain hgd fun K hK => ?_
  have hrun := run_buildSliceI w y
  have hb : Blk (w.alloc (.cells (kv y).toArray 49)) w.heap.size 49 (kv y) := Blk.of_alloc w (kv y).toArray 49
  have hk : Hid (Kps (w.alloc (.cells (kv y).toArray 49)) (fun b => b = w.heap.size) (some ⟨w.heap.size, 0, none⟩) [y]) := fun i hi => by
    obtain rfl : i = 0 := by simpa using hi
    exact ⟨_, 0, rfl, rfl, by simpa using range_of hb⟩
  generalize kv y = z at *
  unfold Oper.wp
  simp only [execOp, ho, List.map_toArray, List.map_cons, List.map_nil, hx, Sem.run_bind, hrun, Result.andThen_ok, Sem.run_pure]
  exact hK _ _ (h _ _ rfl hk (World.grownBy_alloc w _ none))
end
section
variable {fn : Func} {tmps : Array Value} {w : World} {p q r : Tmp} {t t2 : TypeId} {m m2 g g2 : Nat} {vs us : List Value} {x y : Value}
theorem res_c (h : fn.results = #[.cell p t]) (hT : Ag t m) (hp : tmps.getD p undef = .pointer (some ⟨g, 0, none⟩)) (hb : Blk w g t vs) (hl : vs.length = m) : (results fn tmps).run Try.prog w = .ok (.agg vs.toArray) w := by
  have hp' : tmps[p]?.getD undef = .pointer (some ⟨g, 0, none⟩) := by simpa using hp
  have h1 := res_place hT hb hl
  generalize (Value.agg vs.toArray) = z1 at *
  simp [results, h, hp', asAddr, h1]
theorem res_cs (h : fn.results = #[.cell p t, .tmp q]) (hT : Ag t m) (hp : tmps.getD p undef = .pointer (some ⟨g, 0, none⟩)) (hq : tmps.getD q undef = y) (hb : Blk w g t vs) (hl : vs.length = m) :
    (results fn tmps).run Try.prog w = .ok (.tuple #[.agg vs.toArray, y]) w := by
  have hp' : tmps[p]?.getD undef = .pointer (some ⟨g, 0, none⟩) := by simpa using hp
  have hq' : tmps[q]?.getD undef = y := by simpa using hq
  have h1 := res_place hT hb hl
  generalize (Value.agg vs.toArray) = z1 at *
  simp [results, h, hp', hq', asAddr, h1]
end
/-- A value is answered; there is new memory. -/
def NewV (w : World) (v : Value) (e : Ending) (w' : World) : Prop := e = .returned v ∧ w.grownBy w' none
end Go.Proofs.Ytklcjjmeknajlaa
