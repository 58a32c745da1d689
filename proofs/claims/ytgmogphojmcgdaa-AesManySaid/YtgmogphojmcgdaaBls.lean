/- A slice of blocks of 16 bytes: how one of them is read; two blocks are told apart. Conditions: none. -/
import Derived.Test.YtgmogphojmcgdaaOpen
namespace Go.Proofs.Ytgmogphojmcgdaa
open Go.RowKit Go.ChangeShapes Go.WideShapes Go.ChangeAt
/-- At A lie n blocks of 16 bytes. -/
def Bls (w : World) (ok : Nat → Prop) (A : Option Addr) (n : Nat) (S : Nat → State) : Prop :=
  ∀ i, i < n → ∃ ad, A = some ad ∧ ok ad.block ∧ ∀ j v, (bytesOf (S i))[j]? = some v → w.cell? ((ad.add (i * 16)).add j) = some v
section
variable {w w' : World} {ok : Nat → Prop} {A : Option Addr} {n : Nat} {S : Nat → State}
theorem Bls.keep (h : Bls w ok A n S) (hk : ∀ b, ok b → w'.heap[b]? = w.heap[b]?) : Bls w' ok A n S := fun i hi => by
  obtain ⟨ad, e, ho, hc⟩ := h i hi
  refine ⟨ad, e, ho, fun j v hv => ?_⟩
  exact (World.cell?_of_block (by rw [block_of_plus, block_of_plus]; exact hk _ ho)).trans (hc j v hv)
theorem Bls.grown (h : Bls w ok A n S) (hg : w.grownBy w' none) (hok : ∀ b, ok b → b < w.heap.size) : Bls w' ok A n S := h.keep fun b hb => hg.block b (hok b hb) (by simp)
end
section
variable {H : Type} {enc : TypeId × Value → H} {W : World} {b0 : Nat}
theorem open_blocks {v : Value} {d : DataW H} {p : List MemPlace} (hval : Value.okWide Try.prog W .any b0 34 v) (h : DataW.Trod enc Try.prog W 0 (fun _ => true) true 34 v d p) :
    ∃ A n c S, v = .slice A n c ∧ Bls W (fun b => b < W.heap.size) A n S := by
  obtain ⟨a1, len, cap, rfl⟩ := okWide_slice Try.underlying34 hval
  obtain ⟨fuel, hf⟩ := h
  rcases Go.Deep.open_slice Try.underlying34 hf with ⟨hcs, _⟩ | ⟨a, len', cap', m, q, D, Pl, hcs, _, hl, hm, hmm, _, hx⟩
  · simp [Value.cells] at hcs
    obtain ⟨rfl, rfl, rfl⟩ := hcs
    exact ⟨none, 0, 0, fun _ => zeroS, rfl, fun i hi => absurd hi (Nat.not_lt_zero _)⟩
  · simp [Value.cells] at hcs
    obtain ⟨rfl, rfl, rfl⟩ := hcs
    have hS : ∀ i, ∃ s : State, i < len → a.block < W.heap.size ∧ ∀ j v, (bytesOf s)[j]? = some v → W.cell? ((a.add (i * 16)).add j) = some v := fun i => by
      by_cases hi : i < len
      · obtain ⟨cs', h1, h2⟩ := hx i (by simp at hmm; omega)
        rw [cells23] at h1
        obtain ⟨s, e⟩ : ∃ s : State, cs' = bytesOf s := by
          obtain ⟨f, e⟩ := open_cells Try.underlying23 cells23 h2
          exact ⟨f, e⟩
        obtain ⟨_, hl16, hc⟩ := World.cells?_some h1
        refine ⟨s, fun _ => ⟨?_, fun j v hv => ?_⟩⟩
        · have h0 := hc 0 (by omega)
          rw [List.getElem?_eq_getElem (by omega)] at h0
          have := World.block_lt_of_cell? W _ h0
          rwa [block_of_plus, block_of_plus] at this
        · have hj : j < 16 := by
            have := (List.getElem?_eq_some_iff.1 hv).1
            rwa [bytesOf_length] at this
          rw [hc j hj, e]
          exact hv
      · exact ⟨zeroS, fun h => absurd h hi⟩
    refine ⟨some a, len, cap, fun i => Classical.choose (hS i), rfl, fun i hi => ?_⟩
    obtain ⟨h1, h2⟩ := Classical.choose_spec (hS i) hi
    exact ⟨a, rfl, h1, h2⟩
end
theorem run_load_at (w : World) (ad : Addr) (s : State) (hc : ∀ j v, (bytesOf s)[j]? = some v → w.cell? (ad.add j) = some v) : (Instr.loadAt 23 (.pointer (some ad))).run Try.prog w = .ok (.agg (bytesOf s).toArray) w := by
  have hl : (loadCells ad (bytesOf s).length).run Try.prog w = .ok (bytesOf s).toArray w := run_loadCells_list (P := Try.prog) w ad (bytesOf s) hc
  have hq : (Try.prog.info? 23).map (·.size) = some (bytesOf s).length := bytes_size' s
  generalize bytesOf s = z at hl hq
  simp only [Instr.loadAt, Instr.sureAddr, Sem.run_bind, Sem.run_pure, Result.andThen_ok]
  cases hi : Try.prog.info? 23 with
  | none => simp [hi] at hq
  | some i =>
    have hs : i.size = z.length := by simpa [hi] using hq
    have hagg : (isAgg 23).run Try.prog w = .ok true w := by
      unfold isAgg
      rw [Sem.run_bind, run_underlying Try.underlying23 w]
      rfl
    simp [loadVar, Sem.run_bind, hagg, sizeOf, typeInfo, hi, hs, hl]
theorem wpList_load_at {ops : Array Oper} {rest : List Oper} {o : Oper} {a : Act} {w : World} {Q : Exit → Act → World → Prop} (hgd : o.guard = none) (x : Operand) (ho : o.op = .load 23 x) (ad : Addr) (hx : a.eval x = .pointer (some ad)) (s : State)
    (hc : ∀ j v, (bytesOf s)[j]? = some v → w.cell? (ad.add j) = some v) (h : wpList Try.prog ops Q rest (a.put o.dst (.agg (bytesOf s).toArray)) w) : wpList Try.prog ops Q (o :: rest) a w :=
  wpList_plain hgd fun K hK => by
    have hrun := run_load_at w ad s hc
    unfold Oper.wp execOp
    simp only [ho, hx, hrun, Sem.run_bind, Result.andThen_ok]
    exact hK _ _ h
theorem yieldsIf_load_at {ops : Array Oper} {S : World → Prop} {o : Oper} {a : Act} (hw : Region.wanted o (yielded ops a.tmps) = true) (x : Operand) (ho : o.op = .load 23 x) (ad : Addr) (hx : a.eval x = .pointer (some ad)) (s : State)
    (hS : ∀ w, S w → ∀ j v, (bytesOf s)[j]? = some v → w.cell? (ad.add j) = some v) : YieldsIf Try.prog ops S o (.agg (bytesOf s).toArray) a :=
  .inl ⟨hw, fun w hs => by
    have hrun := run_load_at w ad s (hS w hs)
    unfold execOp
    simp only [ho, hx, hrun, Sem.run_bind, Sem.run_pure, Result.andThen_ok]⟩
theorem run_index34 (w : World) (ad : Addr) (n c i : Nat) (hi : i < n) : (Instr.indexAt 34 (.slice (some ad) n c) (.int .i64 (i : Int))).run Try.prog w = .ok (.pointer (some (ad.add (i * 16)))) w := by
  have h := run_indexAt_slice (P := Try.prog) w 34 ad n c .i64 (i : Int) (by kernel_rfl)
  have hc : (0 : Int) ≤ (i : Int) ∧ (i : Int) < (n : Int) := by omega
  have hs : (sizeOf (Try.prog.elem 34)).run Try.prog w = .ok 16 w := by kernel_rfl
  rw [if_pos hc, hs] at h
  rw [h]
  rfl
theorem yieldsIf_index {ops : Array Oper} {S : World → Prop} {o : Oper} {a : Act} (hw : Region.wanted o (yielded ops a.tmps) = true) (x y : Operand) (ho : o.op = .indexAddr 34 x y) (ad : Addr) (n c i : Nat) (hx : a.eval x = .slice (some ad) n c) (hy : a.eval y = .int .i64 (i : Int)) (hi : i < n) {B : Addr} (hB : B = ad.add (i * 16)) :
    YieldsIf Try.prog ops S o (.pointer (some B)) a :=
  .inl ⟨hw, fun w _ => by
    subst hB
    have hrun := run_index34 w ad n c i hi
    unfold execOp
    simp only [ho, hx, hy, hrun, Sem.run_bind, Sem.run_pure, Result.andThen_ok]⟩
theorem wpList_index {ops : Array Oper} {rest : List Oper} {o : Oper} {a : Act} {w : World} {Q : Exit → Act → World → Prop} (hgd : o.guard = none) (x y : Operand) (ho : o.op = .indexAddr 34 x y) (ad : Addr) (n c i : Nat) (hx : a.eval x = .slice (some ad) n c) (hy : a.eval y = .int .i64 (i : Int)) (hi : i < n) {B : Addr} (hB : B = ad.add (i * 16))
    (h : wpList Try.prog ops Q rest (a.put o.dst (.pointer (some B))) w) : wpList Try.prog ops Q (o :: rest) a w :=
  wpList_plain hgd fun K hK => by
    subst hB
    have hrun := run_index34 w ad n c i hi
    unfold Oper.wp execOp
    simp only [ho, hx, hy, hrun, Sem.run_bind, Result.andThen_ok]
    exact hK _ _ h
theorem unlike_fn (f : Fin 16 → UInt8) (w : World) : (binOp .neq 23 (.agg ((List.finRange 16).map (fun i => Value.int .u8 ((f i).toNat : Int))).toArray) (.agg ((List.finRange 16).map (fun i => Value.int .u8 ((f i).toNat : Int))).toArray)).run Try.prog w = .ok (.bool false) w := by
  rw [run_neq_struct, map_u8s]
  have h := run_equalIn_bytes (P := Try.prog) w 9998 23 5 16 Try.underlying23 Try.underlying5 size5 ((List.finRange 16).map f) ((List.finRange 16).map f) (by simp) (by simp)
  rw [beq_self_eq_true] at h
  have h' : (Op.equalIn 10000 23 (.agg (u8s ((List.finRange 16).map f)).toArray) (.agg (u8s ((List.finRange 16).map f)).toArray)).run Try.prog w = .ok true w := h
  rw [h']
  rfl
theorem wp_unlike23 {w : World} {o : Oper} {a : Act} {K : Act → World → Prop} {Q : Exit → Act → World → Prop} (x y : Operand) (ho : o.op = .binOp .neq 23 x y 23)
    (s : State) (hx : a.eval x = .agg (bytesOf s).toArray) (hy : a.eval y = .agg (bytesOf s).toArray) (h : K (a.put o.dst (.bool false)) w) : o.wp Try.prog a w K Q := by
  have hrun : (binOp .neq 23 (.agg (bytesOf s).toArray) (.agg (bytesOf s).toArray)).run Try.prog w = .ok (.bool false) w := unlike_fn s w
  unfold Oper.wp execOp
  simp only [ho, hx, hy, hrun, run_eqGuard_agg _ _ _ _ _ _ _ guard23, Sem.run_bind, Result.andThen_ok]
  exact h
end Go.Proofs.Ytgmogphojmcgdaa
