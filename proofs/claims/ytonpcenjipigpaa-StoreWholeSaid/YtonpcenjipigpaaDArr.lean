/- Arrays of 64 bytes as values, and as parts of a write that waits. Conditions: none. -/
import Derived.Test.YtonpcenjipigpaaDRea
namespace Go.Proofs.Ytonpcenjipigpaa
open Go.RowKit
/-- 64 bytes, one by one. -/
def k64 (k : Fin 64 → UInt8) : List UInt8 := (List.finRange 64).map k
theorem k64_of (xs : List UInt8) (h : xs.length = 64) : ∃ k, xs = k64 k := by
  refine ⟨fun i => xs[i.1]'(by omega), ?_⟩
  apply List.ext_getElem
  · simp [k64, h]
  · intro j h1 h2
    simp [k64]
/-- The cells of one write that waits. -/
def wcell (i : Nat) (b : List UInt8) : List Value := Value.int .i64 (i : Int) :: u8s b
theorem wcell_length {i : Nat} {b : List UInt8} (h : b.length = 64) : (wcell i b).length = 65 := by simp [wcell, u8s_length, h]
theorem wcell_one (i : Nat) (b : List UInt8) : ∀ u ∈ wcell i b, u.oneCell' = true := by
  intro u hu
  rcases List.mem_cons.1 hu with rfl | hu
  · rfl
  · exact u8s_one b u hu
theorem run_build59k (w : World) (i : Int) (k : Fin 64 → UInt8) : (Instr.build 93 #[(0, .int .i64 i), (1, .agg (u8s (k64 k)).toArray)]).run Try.prog w = .ok (.agg (Value.int .i64 i :: u8s (k64 k)).toArray) w := by kernel_rfl
theorem run_build59 (w : World) (i : Nat) (b : List UInt8) (hl : b.length = 64) : (Instr.build 93 #[(0, .int .i64 (i : Int)), (1, .agg (u8s b).toArray)]).run Try.prog w = .ok (.agg (wcell i b).toArray) w := by
  obtain ⟨k, rfl⟩ := k64_of b hl
  exact run_build59k w i k
theorem run_buildSlice53k (w : World) (i : Int) (k : Fin 64 → UInt8) : (Instr.buildSlice 50 1 #[(0, .agg (Value.int .i64 i :: u8s (k64 k)).toArray)]).run Try.prog w = .ok (.slice (some ⟨w.heap.size, 0, none⟩) 1 1) (w.alloc (.cells (Value.int .i64 i :: u8s (k64 k)).toArray 93)) := by kernel_rfl
theorem run_buildSlice53 (w : World) (i : Nat) (b : List UInt8) (hl : b.length = 64) : (Instr.buildSlice 50 1 #[(0, .agg (wcell i b).toArray)]).run Try.prog w = .ok (.slice (some ⟨w.heap.size, 0, none⟩) 1 1) (w.alloc (.cells (wcell i b).toArray 93)) := by
  obtain ⟨k, rfl⟩ := k64_of b hl
  exact run_buildSlice53k w i k
theorem Try.info93 : (Try.prog.info? 93).map (fun i => (i.zero, i.size, i.bytes)) = some (some (.agg (wcell 0 (zb 64)).toArray), 65, 72) := by kernel_rfl
theorem size59 : (Try.prog.info? 93).map (·.size) = some 65 := by kernel_rfl
section
variable {w : World} {ops : Array Oper} {o : Oper} {a : Act} {K : Act → World → Prop} {Q : Exit → Act → World → Prop} {S : World → Prop}
theorem yieldsIf_build59 (hw : Region.wanted o (yielded ops a.tmps) = true) (x y : Operand) (ho : o.op = .build 93 #[(0, x), (1, y)]) (i : Nat) (b : List UInt8) (hl : b.length = 64) (hx : a.eval x = .int .i64 (i : Int)) (hy : a.eval y = .agg (u8s b).toArray) :
    YieldsIf Try.prog ops S o (.agg (wcell i b).toArray) a :=
  .inl ⟨hw, fun w _ => by
    have hrun := run_build59 w i b hl
    generalize wcell i b = z at *
    generalize u8s b = y' at *
    unfold execOp
    simp only [ho, List.map_toArray, List.map_cons, List.map_nil, hx, hy, Sem.run_bind, hrun, Result.andThen_ok, Sem.run_pure]⟩
theorem yieldsIf_index52 (hw : Region.wanted o (yielded ops a.tmps) = true) (x y : Operand) (ho : o.op = .indexAddr 49 x y) (g n c i : Nat) (hx : a.eval x = .slice (some ⟨g, 0, none⟩) n c) (hy : a.eval y = .int .i64 (i : Int)) (hi : i < n) :
    YieldsIf Try.prog ops S o (.pointer (some ⟨g, 64 * i, none⟩)) a :=
  .inl ⟨hw, fun w _ => by
    have hrun := run_index52 w g n c i hi
    unfold execOp
    simp only [ho, hx, hy, hrun, Sem.run_bind, Sem.run_pure, Result.andThen_ok]⟩
theorem wp_buildSlice53 (x : Operand) (ho : o.op = .buildSlice 50 1 #[(0, x)]) (i : Nat) (b : List UInt8) (hl : b.length = 64) (hx : a.eval x = .agg (wcell i b).toArray)
    (h : ∀ w', Hid (Blk w' w.heap.size 93 (wcell i b)) → Hid (w.grownBy w' none) → Hid (w'.heap.size = w.heap.size + 1) → K (a.put o.dst (.slice (some ⟨w.heap.size, 0, none⟩) 1 1)) w') : o.wp Try.prog a w K Q := by
  have hrun := run_buildSlice53 w i b hl
  have hbk := Blk.of_alloc w (wcell i b).toArray 93
  generalize wcell i b = z at *
  unfold Oper.wp
  simp only [execOp, ho, List.map_toArray, List.map_cons, List.map_nil, hx, Sem.run_bind, hrun, Result.andThen_ok, Sem.run_pure]
  exact h _ hbk (World.grownBy_alloc w _ none) (World.size_alloc w _)
theorem wp_store_cell (ty : TypeId) (x y : Operand) (ho : o.op = .store ty x y) (hs : (Try.prog.info? ty).map (·.size) = some 1) (b i : Nat) (v : Value) (hx : a.eval x = .pointer (some ⟨b, i, none⟩)) (hy : a.eval y = v) (h1 : v.oneCell' = true)
    (cs : List Value) (t : TypeId) (hb : w.heap[b]? = some (.cells cs.toArray t (0, 0))) (hi : i < cs.length)
    (h : ∀ w', Hid (Blk w' b t (cs.set i v)) → Hid (Wr b w w') → K (a.put o.dst undef) w') : o.wp Try.prog a w K Q := by
  have hrun := run_storeAt_cell w ty b i v h1 cs t hb hi hs
  unfold Oper.wp execOp
  simp only [ho, hx, hy, Sem.run_bind, hrun, Sem.run_pure, Result.andThen_ok]
  exact h _ (setRow_heap w b _ _ t _ hb) (wr_setRow w b _)
end
/-- The disk's slice of blocks, and one of its blocks. -/
def HeldW (p gb n o : Nat) (cs : List Value) (W : World) : Prop := W.cell? ⟨p, 0, none⟩ = some (.slice (some ⟨gb, 0, none⟩) n n) ∧ W.rangeAt gb o cs
theorem HeldW.grown {p gb n o : Nat} {cs : List Value} {v v1 : World} {row : Option Nat} (h : HeldW p gb n o cs v) (g : v.grownBy v1 row) (h1 : some p ≠ row) (h2 : some gb ≠ row) : HeldW p gb n o cs v1 :=
  ⟨(World.cell?_of_block (g.block p (World.block_lt_of_cell? v _ h.1) h1)).trans h.1, fun j u hu => by
    have hc := h.2 j u hu
    exact (World.cell?_of_block (g.block gb (World.block_lt_of_cell? v _ hc) h2)).trans hc⟩
theorem HeldW.wr {p gb n o : Nat} {cs ds : List Value} {v v1 : World} {u : Value} (h : HeldW p gb n o cs v) (hr : Wr p v v1) (hne : p ≠ gb) (hb : Blk v1 p 52 (ds.set 1 u)) (hd : ds[0]? = some (.slice (some ⟨gb, 0, none⟩) n n)) : HeldW p gb n o cs v1 :=
  ⟨hb.get 0 _ (by rw [List.getElem?_set_ne (by omega)]; exact hd), fun j u hu => by
    have hc := h.2 j u hu
    exact (World.cell?_of_block (hr.block gb (fun e => hne e.symm))).trans hc⟩
end Go.Proofs.Ytonpcenjipigpaa
