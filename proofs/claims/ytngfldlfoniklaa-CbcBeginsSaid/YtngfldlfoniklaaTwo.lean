/- What the code makes ahead of its loops; a block of 16 bytes in the middle of a slice. Conditions: none. -/
import Derived.Test.YtngfldlfoniklaaXor
import Derived.Test.YtngfldlfoniklaaOpen
namespace Go.Proofs.Ytngfldlfoniklaa
open Go.RowKit
theorem cnew_at (W : World) (k : Fin 32 → UInt8) : Calls Try.prog 15 #[.agg (u8s (k32 k)).toArray] W fun e w' => ∃ g, e = .returned (.pointer (some ⟨g, 0, none⟩)) ∧ Cip w' g (k32 k) ∧ W.grownBy w' none ∧ W.heap.size ≤ g := (new_any W k).mono fun _ _ ⟨g, h1, h2, h3, h4⟩ => ⟨g, h1, h2, h3, h4⟩
theorem wp_alloc23 {w : World} {o : Oper} {a : Act} {K : Act → World → Prop} {Q : Exit → Act → World → Prop} (ho : o.op = .alloc 23)
    (h : ∀ w', Blk w' w.heap.size 23 (bytesOf (fun _ => 0)) → w.grownBy w' none → w'.heap.size = w.heap.size + 1 → K (a.put o.dst (.pointer (some ⟨w.heap.size, 0, none⟩))) w') : o.wp Try.prog a w K Q := by
  have hrun := run_alloc23 w
  generalize bytesOf (fun _ => 0) = z at hrun h
  unfold Oper.wp
  simp only [execOp, ho, Sem.run_bind, hrun, Result.andThen_ok, Sem.run_pure]
  exact h _ (Blk.of_alloc w _ 23) (World.grownBy_alloc w _ none) (World.size_alloc w _)
/-- What is made ahead: a cipher, and the block that stands ahead of the first one. -/
def Two (w : World) (ks : List UInt8) (v : State) (s t : Value) (wx : World) : Prop := ∃ gc ga, s = .pointer (some ⟨gc, 0, none⟩) ∧ t = .pointer (some ⟨ga, 0, none⟩) ∧ Cip wx gc ks ∧ Blk wx ga 23 (bytesOf v) ∧ gc ≠ ga ∧ w.heap.size ≤ ga ∧ w.grownBy wx none
theorem run_from (w : World) (A : Option Addr) (n c k : Nat) (hk : k < n) (hc : n ≤ c) : (Instr.sliceAt 24 (.slice A n c) (some (.int .i64 (k : Int))) none none).run Try.prog w = .ok (.slice (A.map (·.add k)) (n - k) (c - k)) w := by
  have h1 : (k : Int) ≤ (n : Int) := by omega
  have h2 : ¬ c = k := by omega
  simp [Instr.sliceAt, Instr.slice, Instr.sliceBounds, run_underlying Try.underlying24, run_sliceBound, h1, h2]
theorem run_load_at (w : World) (ad : Addr) (s : State) (hc : ∀ j v, (bytesOf s)[j]? = some v → w.cell? (ad.add j) = some v) : (Instr.loadAt 23 (.pointer (some ad))).run Try.prog w = .ok (.agg (bytesOf s).toArray) w := by
  have hl : (loadCells ad (bytesOf s).length).run Try.prog w = .ok (bytesOf s).toArray w := run_loadCells_list (P := Try.prog) w ad (bytesOf s) hc
  have hq : (Try.prog.info? 23).map (·.size) = some (bytesOf s).length := bytes_size' s
  generalize bytesOf s = z at hl hq
  simp only [Instr.loadAt, Instr.sureAddr, Sem.run_bind, Sem.run_pure, Result.andThen_ok]
  cases hi : Try.prog.info? 23 with
  | none => simp [hi] at hq
  | some i =>
    have hs : i.size = z.length := by simpa [hi] using hq
    have hagg : (isAgg 23).run Try.prog w = .ok true w := by
      unfold isAgg
      rw [Sem.run_bind, run_underlying Try.underlying23 w]
      rfl
    simp [loadVar, Sem.run_bind, hagg, sizeOf, typeInfo, hi, hs, hl]
section
variable {ops : Array Oper} {S : World → Prop} {o : Oper} {a : Act}
theorem yieldsIf_from (hw : Region.wanted o (yielded ops a.tmps) = true) (x y : Operand) (ho : o.op = .slice 24 x (some y) none none) (ad : Addr) (n c k : Nat) (hx : a.eval x = .slice (some ad) n c) (hy : a.eval y = .int .i64 (k : Int)) (hk : k < n) (hc : n ≤ c) {B : Addr} (hB : B = ad.add k) :
    YieldsIf Try.prog ops S o (.slice (some B) (n - k) (c - k)) a :=
  .inl ⟨hw, fun w _ => by
    subst hB
    have hrun := run_from w (some ad) n c k hk hc
    unfold execOp
    simp only [ho, hx, hy, Option.map_some, Option.map_none, hrun, Sem.run_bind, Sem.run_pure, Result.andThen_ok]⟩
theorem yieldsIf_array (hw : Region.wanted o (yielded ops a.tmps) = true) (x : Operand) (ho : o.op = .sliceToArrayPointer 23 x) (B : Addr) (n c : Nat) (hx : a.eval x = .slice (some B) n c) (hn : 16 ≤ n) :
    YieldsIf Try.prog ops S o (.pointer (some B)) a :=
  .inl ⟨hw, fun w _ => by
    have hrun := run_arrayAt (P := Try.prog) (w := w) 23 5 16 (some B) n c Try.underlying23 hn
    unfold execOp
    simp only [ho, hx, hrun, Sem.run_bind, Sem.run_pure, Result.andThen_ok]⟩
end
theorem yieldsIf_load_at {ops : Array Oper} {S : World → Prop} {o : Oper} {a : Act} (hw : Region.wanted o (yielded ops a.tmps) = true) (x : Operand) (ho : o.op = .load 23 x) (ad : Addr) (hx : a.eval x = .pointer (some ad)) (s : State)
    (hS : ∀ w, S w → ∀ j v, (bytesOf s)[j]? = some v → w.cell? (ad.add j) = some v) : YieldsIf Try.prog ops S o (.agg (bytesOf s).toArray) a :=
  .inl ⟨hw, fun w hs => by
    have hrun := run_load_at w ad s (hS w hs)
    unfold execOp
    simp only [ho, hx, hrun, Sem.run_bind, Sem.run_pure, Result.andThen_ok]⟩
end Go.Proofs.Ytngfldlfoniklaa
