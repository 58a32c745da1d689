/- What is asked of the code's field; its numbers as values; arrays of 32 bytes compared. Conditions: none. -/
import Derived.Test.YtoookolekpblhaaDoorSub5
import Derived.Stop.BytesEq
namespace Go.Proofs.YtoookolekpblhaaDoor
open Go.RowKit
/-- What a root's answer is. -/
def RootIs (Fe : List Value → Nat → Prop) (a : Nat) (cs : List Value) (ok : Bool) : Prop := (rootN a = none ∧ ok = false ∧ Fe cs 0) ∨ (∃ s, rootN a = some s ∧ ok = true ∧ Fe cs s)
/-- The code's numbers, told by 'Fe': what it is that each call makes of them. -/
structure FeSays (Fe : List Value → Nat → Prop) : Prop where
  len : ∀ {cs x}, Fe cs x → cs.length = 5
  one : ∀ {cs x}, Fe cs x → ∀ v ∈ cs, v.oneCell' = true
  lt : ∀ {cs x}, Fe cs x → x < fq
  of : ∀ (w : World) (k : Fin 32 → UInt8), Calls Tryd.prog 9 #[.agg (u8s (k32 k)).toArray] w fun e w' => ∃ cs, Fe cs (val k) ∧ e = .returned (.agg cs.toArray) ∧ w.grownBy w' none
  bytes : ∀ (w : World) {cs x}, Fe cs x → Calls Tryd.prog 8 #[.agg cs.toArray] w fun e w' => e = .returned (.agg (u8s (k32 (bt x))).toArray) ∧ w.grownBy w' none
  add : ∀ (w : World) {cs ds x y}, Fe cs x → Fe ds y → Calls Tryd.prog 18 #[.agg cs.toArray, .agg ds.toArray] w fun e w' => ∃ es, Fe es ((x + y) % fq) ∧ e = .returned (.agg es.toArray) ∧ w.grownBy w' none
  sub : ∀ {w : World} {cs ds x y}, Tab w → Fe cs x → Fe ds y → Calls Tryd.prog 19 #[.agg cs.toArray, .agg ds.toArray] w fun e w' => ∃ es, Fe es (sb x y) ∧ e = .returned (.agg es.toArray) ∧ w.grownBy w' none
  neg : ∀ {w : World} {cs x}, Tab w → Fe cs x → Calls Tryd.prog 17 #[.agg cs.toArray] w fun e w' => ∃ es, Fe es (ng x) ∧ e = .returned (.agg es.toArray) ∧ w.grownBy w' none
  mul : ∀ (w : World) {cs ds x y}, Fe cs x → Fe ds y → Calls Tryd.prog 14 #[.agg cs.toArray, .agg ds.toArray] w fun e w' => ∃ es, Fe es (x * y % fq) ∧ e = .returned (.agg es.toArray) ∧ w.grownBy w' none
  inv : ∀ (w : World) {cs x}, Fe cs x → Calls Tryd.prog 12 #[.agg cs.toArray] w fun e w' => ∃ es, Fe es (iv x) ∧ e = .returned (.agg es.toArray) ∧ w.grownBy w' none
  root : ∀ {w : World} {cs x}, Tab w → Fe cs x → Calls Tryd.prog 15 #[.agg cs.toArray] w fun e w' => ∃ es ok, RootIs Fe x es ok ∧ e = .returned (.tuple #[.agg es.toArray, .bool ok]) ∧ w.grownBy w' none
def z5 : List Value := List.replicate 5 (.int .i64 0)
theorem run_alloc28 (w : World) : (Instr.alloc 27 true (.tuple #[])).run Tryd.prog w = .ok (.pointer (some ⟨w.heap.size, 0, none⟩)) (w.alloc (.cells z5.toArray 27)) := by kernel_rfl
theorem size28 : (Tryd.prog.info? 27).map (·.size) = some 5 := by kernel_rfl
section
variable {w : World} {ops : Array Oper} {rest : List Oper} {o : Oper} {a : Act} {Q : Exit → Act → World → Prop} {K : Act → World → Prop} {S : World → Prop}
theorem wpList_alloc28 (hgd : o.guard = none) (ho : o.op = .alloc 27)
    (h : ∀ w', Blk w' w.heap.size 27 z5 → w.grownBy w' none → w'.heap.size = w.heap.size + 1 → wpList Tryd.prog ops Q rest (a.put o.dst (.pointer (some ⟨w.heap.size, 0, none⟩))) w') : wpList Tryd.prog ops Q (o :: rest) a w := by
  refine wpList_plain hgd fun K hK => ?_
  have hrun := run_alloc28 w
  generalize z5 = z at hrun h
  unfold Oper.wp
  simp only [execOp, ho, Sem.run_bind, hrun, Result.andThen_ok, Sem.run_pure]
  exact hK _ _ (h _ (Blk.of_alloc w _ 27) (World.grownBy_alloc w _ none) (World.size_alloc w _))
theorem fe_size {cs : List Value} (h : cs.length = 5) : (Tryd.prog.info? 27).map (·.size) = some cs.toArray.size := by rw [size28, List.size_toArray, h]
theorem fe_size' {cs : List Value} (h : cs.length = 5) : (Tryd.prog.info? 27).map (·.size) = some cs.length := by rw [size28, h]
theorem fe_same {cs : List Value} (h : cs.length = 5) : cs.toArray.size = z5.toArray.size := by rw [List.size_toArray, h]; rfl
theorem size5 (w : World) : (sizeOf 5).run Tryd.prog w = .ok 1 w := by kernel_rfl
theorem guard22 : Tryd.prog.eqGuardType Tryd.prog.depth 22 = false := by kernel_rfl
theorem run_eql22 (w : World) (k l : Fin 32 → UInt8) : (binOp .eql 22 (.agg (u8s (k32 k)).toArray) (.agg (u8s (k32 l)).toArray)).run Tryd.prog w = .ok (.bool (k32 k == k32 l)) w :=
  run_eql_bytes (P := Tryd.prog) w 22 5 32 Tryd.underlying22 Tryd.underlying5 size5 (k32 k) (k32 l) (k32_length k) (k32_length l)
theorem yieldsIf_eql22 (hw : Region.wanted o (yielded ops a.tmps) = true) (x y : Operand) (ho : o.op = .binOp .eql 22 x y 22) {k l : Fin 32 → UInt8} (hx : a.eval x = .agg (u8s (k32 k)).toArray) (hy : a.eval y = .agg (u8s (k32 l)).toArray) {c : Bool} (hc : (k32 k == k32 l) = c) :
    YieldsIf Tryd.prog ops S o (.bool c) a :=
  .inl ⟨hw, fun w _ => by
    have hrun := run_eql22 w k l
    rw [hc] at hrun
    unfold execOp
    simp only [ho, hx, hy, hrun, run_eqGuard_agg _ _ _ _ _ _ _ guard22, Sem.run_bind, Sem.run_pure, Result.andThen_ok]⟩
/-- A small number's bytes. -/
def sm32 (m : UInt8) (j : Fin 32) : UInt8 := if j.val = 0 then m else 0
theorem run_build22 (w : World) (m : UInt8) (z : Int) (hz : (m.toNat : Int) = z) : (Instr.build 22 #[(0, .int .u8 z)]).run Tryd.prog w = .ok (.agg (u8s (k32 (sm32 m))).toArray) w := by
  subst hz
  kernel_rfl
theorem run_build22z (w : World) : (Instr.build 22 #[]).run Tryd.prog w = .ok (.agg (u8s (k32 (sm32 0))).toArray) w := by kernel_rfl
theorem sm32_bt (m : UInt8) : k32 (sm32 m) = k32 (bt m.toNat) := by
  unfold k32
  apply List.map_congr_left
  intro j _
  unfold sm32 bt
  by_cases h : j.val = 0
  · rw [if_pos h, h, Nat.pow_zero, Nat.div_one, Nat.mod_eq_of_lt m.toNat_lt, UInt8.ofNat_toNat]
  · rw [if_neg h]
    have h1 := m.toNat_lt
    have h2 : 256 ^ 1 ≤ 256 ^ j.val := Nat.pow_le_pow_right (by decide) (by omega)
    rw [Nat.div_eq_of_lt (by omega)]
    rfl
theorem build_bt (w : World) (m : Nat) (h : m < 256) : (Instr.build 22 #[(0, .int .u8 (m : Int))]).run Tryd.prog w = .ok (.agg (u8s (k32 (bt m))).toArray) w := by
  have e : (UInt8.ofNat m).toNat = m := by rw [UInt8.toNat_ofNat', Nat.mod_eq_of_lt (by omega)]
  have := run_build22 w (UInt8.ofNat m) (m : Int) (by rw [e])
  rwa [sm32_bt, e] at this
theorem build_btz (w : World) : (Instr.build 22 #[]).run Tryd.prog w = .ok (.agg (u8s (k32 (bt 0))).toArray) w := by
  have := run_build22z w
  rwa [sm32_bt] at this
theorem yieldsIf_bt (hw : Region.wanted o (yielded ops a.tmps) = true) (m : Nat) (ho : o.op = .build 22 #[(0, .const (.int .u8 (m : Int)))]) (h : m < 256) : YieldsIf Tryd.prog ops S o (.agg (u8s (k32 (bt m))).toArray) a :=
  .inl ⟨hw, fun w _ => by
    have hrun := build_bt w m h
    generalize u8s (k32 (bt m)) = z at hrun ⊢
    unfold execOp
    simp only [ho, List.map_toArray, List.map_cons, List.map_nil, Act.eval, hrun, Sem.run_bind, Sem.run_pure, Result.andThen_ok]⟩
theorem yieldsIf_btz (hw : Region.wanted o (yielded ops a.tmps) = true) (ho : o.op = .build 22 #[]) : YieldsIf Tryd.prog ops S o (.agg (u8s (k32 (bt 0))).toArray) a :=
  .inl ⟨hw, fun w _ => by
    have hrun := build_btz w
    generalize u8s (k32 (bt 0)) = z at hrun ⊢
    unfold execOp
    simp only [ho, List.map_toArray, List.map_nil, hrun, Sem.run_bind, Sem.run_pure, Result.andThen_ok]⟩
theorem wpList_bt (hgd : o.guard = none) (m : Nat) (ho : o.op = .build 22 #[(0, .const (.int .u8 (m : Int)))]) (h0 : m < 256)
    (h : wpList Tryd.prog ops Q rest (a.put o.dst (.agg (u8s (k32 (bt m))).toArray)) w) : wpList Tryd.prog ops Q (o :: rest) a w := by
  refine wpList_plain hgd fun K hK => ?_
  have hrun := build_bt w m h0
  generalize u8s (k32 (bt m)) = z at hrun h
  unfold Oper.wp
  simp only [execOp, ho, List.map_toArray, List.map_cons, List.map_nil, Act.eval, hrun, Sem.run_bind, Sem.run_pure, Result.andThen_ok]
  exact hK _ _ h
end
end Go.Proofs.YtoookolekpblhaaDoor
