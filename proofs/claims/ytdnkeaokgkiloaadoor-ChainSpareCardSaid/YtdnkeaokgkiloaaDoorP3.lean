/- Keys, rows and kept keys compared. Conditions: none. -/
import Derived.Test.YtdnkeaokgkiloaaDoorP2
import Derived.Stop.BytesEq
namespace Go.Proofs.YtdnkeaokgkiloaaDoor
open Go.RowKit T
theorem sizeOf5' (w : World) : (sizeOf 5).run Tryd.prog w = .ok 1 w := by kernel_rfl
theorem eqlA (xs ys : List UInt8) (hx : xs.length = 32) (hy : ys.length = 32) (w : World) : (binOp .eql 22 (.agg (u8s xs).toArray) (.agg (u8s ys).toArray)).run Tryd.prog w = .ok (.bool (xs == ys)) w :=
  run_eql_bytes (P := Tryd.prog) w 22 5 32 Tryd.underlying22 Tryd.underlying5 sizeOf5' xs ys hx hy
theorem eqlY (xs ys : List UInt8) (hx : xs.length = 32) (hy : ys.length = 32) (w : World) : (binOp .eql 24 (.agg (u8s xs).toArray) (.agg (u8s ys).toArray)).run Tryd.prog w = .ok (.bool (xs == ys)) w :=
  run_eql_bytes (P := Tryd.prog) w 24 5 32 Tryd.underlying24 Tryd.underlying5 sizeOf5' xs ys hx hy
theorem inA (d : Nat) (xs : List UInt8) (hx : xs.length = 32) (w : World) : (Op.equalIn (d + 2) 22 (.agg (u8s xs).toArray) (.agg (u8s xs).toArray)).run Tryd.prog w = .ok true w := by
  have h := run_equalIn_bytes (P := Tryd.prog) w d 22 5 32 Tryd.underlying22 Tryd.underlying5 sizeOf5' xs xs hx hx
  rw [beq_self_eq_true] at h
  exact h
theorem inY (d : Nat) (xs : List UInt8) (hx : xs.length = 32) (w : World) : (Op.equalIn (d + 2) 24 (.agg (u8s xs).toArray) (.agg (u8s xs).toArray)).run Tryd.prog w = .ok true w := by
  have h := run_equalIn_bytes (P := Tryd.prog) w d 24 5 32 Tryd.underlying24 Tryd.underlying5 sizeOf5' xs xs hx hx
  rw [beq_self_eq_true] at h
  exact h
theorem inN (d : Nat) (n : Int) (w : World) : (Op.equalIn (d + 1) 38 (.int .u16 n) (.int .u16 n)).run Tryd.prog w = .ok true w := by
  rw [run_equalIn_int w d 38 .u16 .u16 n n Tryd.underlying38]
  simp
theorem fieldsC : (Tryd.prog.fieldsOf 40).toList = [{ name := "Key", type := 24, offset := 0, embedded := false, tag := "", pkgPath := "", byteOffset := 0 }, { name := "N", type := 38, offset := 32, embedded := false, tag := "", pkgPath := "", byteOffset := 32 }] := by kernel_rfl
theorem fieldsK : (Tryd.prog.fieldsOf 49).toList = [{ name := "Ratchet", type := 24, offset := 0, embedded := false, tag := "", pkgPath := "", byteOffset := 0 }, { name := "N", type := 38, offset := 32, embedded := false, tag := "", pkgPath := "", byteOffset := 32 }, { name := "Key", type := 24, offset := 33, embedded := false, tag := "", pkgPath := "", byteOffset := 34 }] := by kernel_rfl
theorem undC : Tryd.prog.underlying 40 = some (.struct (Tryd.prog.fieldsOf 40)) := by kernel_rfl
theorem undK : Tryd.prog.underlying 49 = some (.struct (Tryd.prog.fieldsOf 49)) := by kernel_rfl
theorem stoodC : Tryd.prog.stoodInHeld 40 = false := by kernel_rfl
theorem stoodK : Tryd.prog.stoodInHeld 49 = false := by kernel_rfl
theorem partC0 (k : Fin 32 → UInt8) (n : Int) (w : World) : (part 24 (u8s (k32 k) ++ [Value.int .u16 n]).toArray 0).run Tryd.prog w = .ok (.agg (u8s (k32 k)).toArray) w := by kernel_rfl
theorem partC1 (k : Fin 32 → UInt8) (n : Int) (w : World) : (part 38 (u8s (k32 k) ++ [Value.int .u16 n]).toArray 32).run Tryd.prog w = .ok (.int .u16 n) w := by kernel_rfl
theorem partK0 (r k : Fin 32 → UInt8) (n : Int) (w : World) : (part 24 (u8s (k32 r) ++ Value.int .u16 n :: u8s (k32 k)).toArray 0).run Tryd.prog w = .ok (.agg (u8s (k32 r)).toArray) w := by kernel_rfl
theorem partK1 (r k : Fin 32 → UInt8) (n : Int) (w : World) : (part 38 (u8s (k32 r) ++ Value.int .u16 n :: u8s (k32 k)).toArray 32).run Tryd.prog w = .ok (.int .u16 n) w := by kernel_rfl
theorem partK2 (r k : Fin 32 → UInt8) (n : Int) (w : World) : (part 24 (u8s (k32 r) ++ Value.int .u16 n :: u8s (k32 k)).toArray 33).run Tryd.prog w = .ok (.agg (u8s (k32 k)).toArray) w := by kernel_rfl
theorem k32_length (k : Fin 32 → UInt8) : (k32 k).length = 32 := by simp [k32]
theorem inC {k : List UInt8} (hk : k.length = 32) (n : Nat) (w : World) : (Op.equalIn 10000 40 (.agg (rv k n).toArray) (.agg (rv k n).toArray)).run Tryd.prog w = .ok true w := by
  obtain ⟨k, rfl⟩ := k32_of k hk
  have h0 := partC0 k (n : Int) w
  have h1 := partC1 k (n : Int) w
  have e0 := inY 9997 (k32 k) (k32_length k) w
  have e1 := inN 9998 (n : Int) w
  rw [run_equalIn_struct w 9999 40 _ _ undC stoodC, fieldsC]
  unfold rv
  generalize (u8s (k32 k) ++ [Value.int .u16 (n : Int)]).toArray = z at *
  generalize (Value.agg (u8s (k32 k)).toArray) = y at *
  simp [Op.eqFields, Sem.run_bind, h0, h1, e0, e1, Result.andThen]
theorem inK {x : Kep} (hx : KOk x) (w : World) : (Op.equalIn 10000 49 (.agg (kv x).toArray) (.agg (kv x).toArray)).run Tryd.prog w = .ok true w := by
  obtain ⟨r, n, k⟩ := x
  obtain ⟨r, rfl⟩ := k32_of r hx.1
  obtain ⟨k, rfl⟩ := k32_of k hx.2.2
  have h0 := partK0 r k (n : Int) w
  have h1 := partK1 r k (n : Int) w
  have h2 := partK2 r k (n : Int) w
  have e0 := inY 9997 (k32 r) (k32_length r) w
  have e1 := inN 9998 (n : Int) w
  have e2 := inY 9997 (k32 k) (k32_length k) w
  rw [run_equalIn_struct w 9999 49 _ _ undK stoodK, fieldsK]
  unfold kv
  generalize (u8s (k32 r) ++ Value.int .u16 (n : Int) :: u8s (k32 k)).toArray = z at *
  generalize (Value.agg (u8s (k32 k)).toArray) = y at *
  generalize (Value.agg (u8s (k32 r)).toArray) = y' at *
  simp [Op.eqFields, Sem.run_bind, h0, h1, h2, e0, e1, e2, Result.andThen]
theorem guardA : Tryd.prog.eqGuardType Tryd.prog.depth 22 = false := by kernel_rfl
theorem guardY : Tryd.prog.eqGuardType Tryd.prog.depth 24 = false := by kernel_rfl
theorem guardC : Tryd.prog.eqGuardType Tryd.prog.depth 40 = false := by kernel_rfl
theorem guardK : Tryd.prog.eqGuardType Tryd.prog.depth 49 = false := by kernel_rfl
/-- A type whose values are told apart: a value is itself. -/
structure Eqs (t : TypeId) (vs : List Value) : Prop where
  same : ∀ w, (Op.equalIn 10000 t (.agg vs.toArray) (.agg vs.toArray)).run Tryd.prog w = .ok true w
  guard : Tryd.prog.eqGuardType Tryd.prog.depth t = false
theorem eqsA {xs : List UInt8} (h : xs.length = 32) : Eqs 22 (u8s xs) := ⟨fun w => inA 9998 xs h w, guardA⟩
theorem eqsY {xs : List UInt8} (h : xs.length = 32) : Eqs 24 (u8s xs) := ⟨fun w => inY 9998 xs h w, guardY⟩
theorem eqsC {k : List UInt8} (h : k.length = 32) (n : Nat) : Eqs 40 (rv k n) := ⟨fun w => inC h n w, guardC⟩
theorem eqsK {x : Kep} (h : KOk x) : Eqs 49 (kv x) := ⟨fun w => inK h w, guardK⟩
section
variable {w : World} {ops : Array Oper} {rest : List Oper} {S : World → Prop} {o : Oper} {a : Act} {K : Act → World → Prop} {Q : Exit → Act → World → Prop} {t : TypeId} {vs : List Value}
theorem yieldsIf_eqs (hE : Eqs t vs) (hw : Region.wanted o (yielded ops a.tmps) = true) (x y : Operand) (ho : o.op = .binOp .eql t x y t) (hx : a.eval x = .agg vs.toArray) (hy : a.eval y = .agg vs.toArray) : YieldsIf Tryd.prog ops S o (.bool true) a :=
  .inl ⟨hw, fun w _ => by
    have hrun : (binOp .eql t (.agg vs.toArray) (.agg vs.toArray)).run Tryd.prog w = .ok (.bool true) w := by rw [run_eql_struct, hE.same]; rfl
    unfold execOp
    simp only [ho, hx, hy, hrun, run_eqGuard_agg _ _ _ _ _ _ _ hE.guard, Sem.run_bind, Sem.run_pure, Result.andThen_ok]⟩
theorem yieldsIf_neqs (hE : Eqs t vs) (hw : Region.wanted o (yielded ops a.tmps) = true) (x y : Operand) (ho : o.op = .binOp .neq t x y t) (hx : a.eval x = .agg vs.toArray) (hy : a.eval y = .agg vs.toArray) : YieldsIf Tryd.prog ops S o (.bool false) a :=
  .inl ⟨hw, fun w _ => by
    have hrun : (binOp .neq t (.agg vs.toArray) (.agg vs.toArray)).run Tryd.prog w = .ok (.bool false) w := by rw [run_neq_struct, hE.same]; rfl
    unfold execOp
    simp only [ho, hx, hy, hrun, run_eqGuard_agg _ _ _ _ _ _ _ hE.guard, Sem.run_bind, Sem.run_pure, Result.andThen_ok]⟩
theorem wpList_eqs (hE : Eqs t vs) (hw : Region.wanted o (yielded ops a.tmps) = true) (x y : Operand) (ho : o.op = .binOp .eql t x y t) (hx : a.eval x = .agg vs.toArray) (hy : a.eval y = .agg vs.toArray) (h : wpList Tryd.prog ops Q rest (a.put o.dst (.bool true)) w) : wpList Tryd.prog ops Q (o :: rest) a w :=
  wpList_step fun K hK => by
    have hrun : (binOp .eql t (.agg vs.toArray) (.agg vs.toArray)).run Tryd.prog w = .ok (.bool true) w := by rw [run_eql_struct, hE.same]; rfl
    rw [if_pos hw]
    unfold Oper.wp execOp
    simp only [ho, hx, hy, hrun, run_eqGuard_agg _ _ _ _ _ _ _ hE.guard, Sem.run_bind, Sem.run_pure, Result.andThen_ok]
    exact hK _ _ h
theorem wpList_neqs (hE : Eqs t vs) (hw : Region.wanted o (yielded ops a.tmps) = true) (x y : Operand) (ho : o.op = .binOp .neq t x y t) (hx : a.eval x = .agg vs.toArray) (hy : a.eval y = .agg vs.toArray) (h : wpList Tryd.prog ops Q rest (a.put o.dst (.bool false)) w) : wpList Tryd.prog ops Q (o :: rest) a w :=
  wpList_step fun K hK => by
    have hrun : (binOp .neq t (.agg vs.toArray) (.agg vs.toArray)).run Tryd.prog w = .ok (.bool false) w := by rw [run_neq_struct, hE.same]; rfl
    rw [if_pos hw]
    unfold Oper.wp execOp
    simp only [ho, hx, hy, hrun, run_eqGuard_agg _ _ _ _ _ _ _ hE.guard, Sem.run_bind, Sem.run_pure, Result.andThen_ok]
    exact hK _ _ h
/-- Two keys, whatever they are. -/
theorem wpList_eqlY (hw : Region.wanted o (yielded ops a.tmps) = true) (x y : Operand) (ho : o.op = .binOp .eql 24 x y 24) (xs ys : List UInt8) (hx : a.eval x = .agg (u8s xs).toArray) (hy : a.eval y = .agg (u8s ys).toArray) (hxl : xs.length = 32) (hyl : ys.length = 32) (b : Bool) (hb : (xs == ys) = b)
    (h : wpList Tryd.prog ops Q rest (a.put o.dst (.bool b)) w) : wpList Tryd.prog ops Q (o :: rest) a w :=
  wpList_step fun K hK => by
    have hrun := eqlY xs ys hxl hyl w
    rw [hb] at hrun
    rw [if_pos hw]
    unfold Oper.wp execOp
    simp only [ho, hx, hy, hrun, run_eqGuard_agg _ _ _ _ _ _ _ guardY, Sem.run_bind, Sem.run_pure, Result.andThen_ok]
    exact hK _ _ h
theorem wpList_eqlA (hw : Region.wanted o (yielded ops a.tmps) = true) (x y : Operand) (ho : o.op = .binOp .eql 22 x y 22) (xs ys : List UInt8) (hx : a.eval x = .agg (u8s xs).toArray) (hy : a.eval y = .agg (u8s ys).toArray) (hxl : xs.length = 32) (hyl : ys.length = 32) (b : Bool) (hb : (xs == ys) = b)
    (h : wpList Tryd.prog ops Q rest (a.put o.dst (.bool b)) w) : wpList Tryd.prog ops Q (o :: rest) a w :=
  wpList_step fun K hK => by
    have hrun := eqlA xs ys hxl hyl w
    rw [hb] at hrun
    rw [if_pos hw]
    unfold Oper.wp execOp
    simp only [ho, hx, hy, hrun, run_eqGuard_agg _ _ _ _ _ _ _ guardA, Sem.run_bind, Sem.run_pure, Result.andThen_ok]
    exact hK _ _ h
end
end Go.Proofs.YtdnkeaokgkiloaaDoor
