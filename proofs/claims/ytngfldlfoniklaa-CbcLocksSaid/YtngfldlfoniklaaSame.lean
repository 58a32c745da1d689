/- Two blocks of 16 bytes are compared; the reference's Lock, named. Conditions: none. -/
import Derived.Test.YtngfldlfoniklaaCip
import Derived.Deep.RegionHeld3
import Derived.Stop.BytesEq
namespace Go.Proofs.Ytngfldlfoniklaa
open Go.RowKit
theorem size5 (w : World) : (sizeOf 5).run Try.prog w = .ok 1 w := by kernel_rfl
theorem map_u8s (f : Fin 16 → UInt8) : (List.finRange 16).map (fun i => Value.int .u8 ((f i).toNat : Int)) = u8s ((List.finRange 16).map f) := by
  unfold u8s
  rw [List.map_map]
  rfl
theorem same_fn (f : Fin 16 → UInt8) (w : World) : (binOp .eql 23 (.agg ((List.finRange 16).map (fun i => Value.int .u8 ((f i).toNat : Int))).toArray) (.agg ((List.finRange 16).map (fun i => Value.int .u8 ((f i).toNat : Int))).toArray)).run Try.prog w = .ok (.bool true) w := by
  have h := run_eql_bytes (P := Try.prog) w 23 5 16 Try.underlying23 Try.underlying5 size5 ((List.finRange 16).map f) ((List.finRange 16).map f) (by simp) (by simp)
  rw [beq_self_eq_true] at h
  rw [map_u8s]
  exact h
theorem same23 (s : State) (w : World) : (binOp .eql 23 (.agg (bytesOf s).toArray) (.agg (bytesOf s).toArray)).run Try.prog w = .ok (.bool true) w := same_fn s w
theorem guard23 : Try.prog.eqGuardType Try.prog.depth 23 = false := by kernel_rfl
theorem wp_same23 {w : World} {o : Oper} {a : Act} {K : Act → World → Prop} {Q : Exit → Act → World → Prop} (x y : Operand) (ho : o.op = .binOp .eql 23 x y 23)
    (s : State) (hx : a.eval x = .agg (bytesOf s).toArray) (hy : a.eval y = .agg (bytesOf s).toArray) (h : K (a.put o.dst (.bool true)) w) : o.wp Try.prog a w K Q := by
  have hrun := same23 s w
  unfold Oper.wp execOp
  simp only [ho, hx, hy, hrun, run_eqGuard_agg _ _ _ _ _ _ _ guard23, Sem.run_bind, Result.andThen_ok]
  exact h
end Go.Proofs.Ytngfldlfoniklaa
