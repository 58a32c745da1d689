/- Numbers compared; arrays of 32 bytes as values; a number's bytes. Conditions: none. -/
import Derived.Test.YtoookolekpblhaaDoorNum4
import Derived.Laws.StructEq
namespace Go.Proofs.YtoookolekpblhaaDoor
open Go.RowKit
theorem size3 (w : World) : (sizeOf 3).run Tryd.prog w = .ok 1 w := by kernel_rfl
theorem all_range_nat : ∀ (xs ys : List Nat), xs.length = ys.length → ((List.range xs.length).all fun i => xs.getD i 0 == ys.getD i 0) = (xs == ys)
  | [], [], _ => rfl
  | x :: xs, y :: ys, h => by
    have ih := all_range_nat xs ys (by simpa using h)
    rw [List.length_cons, List.range_succ_eq_map, List.all_cons, List.all_map]
    simp only [List.getD_cons_zero, Function.comp_def, List.getD_cons_succ, ih]
    simp [List.cons_beq_cons]
  | [], _ :: _, h => by simp at h
  | _ :: _, [], h => by simp at h
theorem ints_getD (l : List Nat) (i : Nat) (h : i < l.length) (d : Value) : (ints l)[i]?.getD d = .int .i64 ((l.getD i 0 : Nat) : Int) := by
  rw [ints_get l i h]
  rfl
theorem run_equalIn_ints (w : World) (d : Nat) (xs ys : List Nat) (hx : xs.length = 16) (hy : ys.length = 16) :
    (Op.equalIn (d + 2) 31 (.agg (ints xs).toArray) (.agg (ints ys).toArray)).run Tryd.prog w = .ok (xs == ys) w := by
  rw [← all_range_nat xs ys (hx.trans hy.symm), hx, List.range_eq_range', Op.equalIn]
  simp only [Sem.run_bind, run_underlying Tryd.underlying31, Result.andThen_ok, size3, Std.Legacy.Range.forIn_eq_forIn_range', Std.Legacy.Range.size, Nat.sub_zero, Nat.add_sub_cancel, Nat.div_one]
  have hl : ∀ i ∈ List.range' 0 16 1, i < 16 := fun i hi => by simpa using (List.mem_range'_1.1 hi).2
  generalize List.range' 0 16 1 = l at hl ⊢
  induction l with
  | nil => simp
  | cons i l ih =>
    have hi : i < 16 := hl i (by simp)
    have px : (part 3 (ints xs).toArray (i * 1)).run Tryd.prog w = .ok (.int .i64 ((xs.getD i 0 : Nat) : Int)) w := by
      simp only [part, isAgg, Sem.run_bind, run_underlying Tryd.underlying3, Result.andThen_ok, Nat.mul_one]
      simp [ints_get xs i (by omega)]
    have py : (part 3 (ints ys).toArray (i * 1)).run Tryd.prog w = .ok (.int .i64 ((ys.getD i 0 : Nat) : Int)) w := by
      simp only [part, isAgg, Sem.run_bind, run_underlying Tryd.underlying3, Result.andThen_ok, Nat.mul_one]
      simp [ints_get ys i (by omega)]
    have pe : (Op.equalIn (d + 1) 3 (.int .i64 ((xs.getD i 0 : Nat) : Int)) (.int .i64 ((ys.getD i 0 : Nat) : Int))).run Tryd.prog w = .ok (xs.getD i 0 == ys.getD i 0) w := by
      rw [run_equalIn_int w d 3 .i64 .i64 _ _ Tryd.underlying3]
      generalize xs.getD i 0 = p
      generalize ys.getD i 0 = q
      congr 1
      rw [Bool.eq_iff_iff]
      simp
      omega
    simp only [List.forIn_cons, Sem.run_bind, px, py, pe, Result.andThen_ok, List.all_cons]
    cases hb : (xs.getD i 0 == ys.getD i 0)
    · simp
    · simp only [Bool.not_true, Bool.false_eq_true, if_false, Sem.run_pure, Result.andThen_ok, Bool.true_and]
      exact ih fun j hj => hl j (by simp [hj])
theorem dgs_beq {x y : Nat} (hx : x < 65536 ^ 16) (hy : y < 65536 ^ 16) : (dgs 16 x == dgs 16 y) = decide (x = y) := by
  rw [Bool.eq_iff_iff]
  simp only [beq_iff_eq, decide_eq_true_eq]
  exact ⟨fun h => dgs_inj hx hy h, fun h => by rw [h]⟩
theorem run_eql32 (w : World) {x y : Nat} (hx : x < 65536 ^ 16) (hy : y < 65536 ^ 16) : (binOp .eql 31 (.agg (num (dgt x)).toArray) (.agg (num (dgt y)).toArray)).run Tryd.prog w = .ok (.bool (decide (x = y))) w := by
  rw [← num_dgs, ← num_dgs, run_eql_struct, run_equalIn_ints w 9998 _ _ (dgs_length _ _) (dgs_length _ _), dgs_beq hx hy]
  rfl
theorem run_neq32 (w : World) {x y : Nat} (hx : x < 65536 ^ 16) (hy : y < 65536 ^ 16) : (binOp .neq 31 (.agg (num (dgt x)).toArray) (.agg (num (dgt y)).toArray)).run Tryd.prog w = .ok (.bool (!decide (x = y))) w := by
  rw [← num_dgs, ← num_dgs, run_neq_struct, run_equalIn_ints w 9998 _ _ (dgs_length _ _) (dgs_length _ _), dgs_beq hx hy]
  rfl
theorem guard32 : Tryd.prog.eqGuardType Tryd.prog.depth 31 = false := by kernel_rfl
/-- An array of 32 bytes. -/
def k32 (k : Fin 32 → UInt8) : List UInt8 := (List.finRange 32).map k
theorem k32_length (k : Fin 32 → UInt8) : (k32 k).length = 32 := by simp [k32]
theorem k32_get (k : Fin 32 → UInt8) (i : Nat) (h : i < 32) : (u8s (k32 k))[i]? = some (.int .u8 ((k ⟨i, h⟩).toNat : Int)) := by
  unfold u8s k32
  rw [List.map_map, List.getElem?_map, List.getElem?_eq_getElem (by simpa using h)]
  simp
theorem run_box22 (w : World) (k : Fin 32 → UInt8) : (Instr.box 22 (.agg (u8s (k32 k)).toArray)).run Tryd.prog w = .ok (.pointer (some ⟨w.heap.size, 0, none⟩)) (w.alloc (.cells (u8s (k32 k)).toArray 22)) := by kernel_rfl
theorem run_alloc22 (w : World) : (Instr.alloc 22 true (.tuple #[])).run Tryd.prog w = .ok (.pointer (some ⟨w.heap.size, 0, none⟩)) (w.alloc (.cells (u8s (k32 fun _ => 0)).toArray 22)) := by kernel_rfl
section
variable {w : World} {ops : Array Oper} {rest : List Oper} {o : Oper} {a : Act} {Q : Exit → Act → World → Prop}
theorem wpList_box22 (hgd : o.guard = none) (x : Operand) (k : Fin 32 → UInt8) (ho : o.op = .box 22 x) (hx : a.eval x = .agg (u8s (k32 k)).toArray)
    (h : ∀ w', Blk w' w.heap.size 22 (u8s (k32 k)) → w.grownBy w' none → w'.heap.size = w.heap.size + 1 → wpList Tryd.prog ops Q rest (a.put o.dst (.pointer (some ⟨w.heap.size, 0, none⟩))) w') : wpList Tryd.prog ops Q (o :: rest) a w := by
  refine wpList_plain hgd fun K hK => ?_
  have hrun := run_box22 w k
  generalize u8s (k32 k) = z at hrun h hx
  unfold Oper.wp
  simp only [execOp, ho, hx, Sem.run_bind, hrun, Result.andThen_ok, Sem.run_pure]
  exact hK _ _ (h _ (Blk.of_alloc w _ 22) (World.grownBy_alloc w _ none) (World.size_alloc w _))
theorem wpList_alloc22 (hgd : o.guard = none) (ho : o.op = .alloc 22)
    (h : ∀ w', Blk w' w.heap.size 22 (u8s (k32 fun _ => 0)) → w.grownBy w' none → w'.heap.size = w.heap.size + 1 → wpList Tryd.prog ops Q rest (a.put o.dst (.pointer (some ⟨w.heap.size, 0, none⟩))) w') : wpList Tryd.prog ops Q (o :: rest) a w := by
  refine wpList_plain hgd fun K hK => ?_
  have hrun := run_alloc22 w
  generalize u8s (k32 fun _ => 0) = z at hrun h
  unfold Oper.wp
  simp only [execOp, ho, Sem.run_bind, hrun, Result.andThen_ok, Sem.run_pure]
  exact hK _ _ (h _ (Blk.of_alloc w _ 22) (World.grownBy_alloc w _ none) (World.size_alloc w _))
theorem wpList_eql32 (hgd : o.guard = none) (x y : Operand) (ho : o.op = .binOp .eql 31 x y 31) {m n : Nat} (hm : m < 65536 ^ 16) (hn : n < 65536 ^ 16) (hx : a.eval x = .agg (num (dgt m)).toArray) (hy : a.eval y = .agg (num (dgt n)).toArray)
    (h : wpList Tryd.prog ops Q rest (a.put o.dst (.bool (decide (m = n)))) w) : wpList Tryd.prog ops Q (o :: rest) a w := by
  refine wpList_plain hgd fun K hK => ?_
  have hrun := run_eql32 w hm hn
  unfold Oper.wp execOp
  simp only [ho, hx, hy, hrun, run_eqGuard_agg _ _ _ _ _ _ _ guard32, Sem.run_bind, Result.andThen_ok]
  exact hK _ _ h
end
theorem size22 : (Tryd.prog.info? 22).map (·.size) = some 32 := by kernel_rfl
theorem k32_size (k : Fin 32 → UInt8) : (Tryd.prog.info? 22).map (·.size) = some (u8s (k32 k)).toArray.size := by rw [size22, List.size_toArray, u8s_length, k32_length]
theorem k32_size' (k : Fin 32 → UInt8) : (Tryd.prog.info? 22).map (·.size) = some (u8s (k32 k)).length := by rw [size22, u8s_length, k32_length]
theorem k32_same (k l : Fin 32 → UInt8) : (u8s (k32 l)).toArray.size = (u8s (k32 k)).toArray.size := by simp [u8s_length, k32_length]
/-- What bytes say, the least first. -/
def lv : List Nat → Nat
  | [] => 0
  | x :: xs => x + 256 * lv xs
theorem lv_pair : ∀ (i : Nat) (l : List Nat), (∀ x ∈ l, x < 256) → 2 * i + 1 < l.length → dgt (lv l) i = l.getD (2 * i) 0 + 256 * l.getD (2 * i + 1) 0
  | i, x :: y :: l, h, hi => by
    have hx := h x (by simp)
    have hy := h y (by simp)
    have e : lv (x :: y :: l) = (x + 256 * y) + 65536 * lv l := by rw [lv, lv]; omega
    rw [e]
    rcases i with _ | i
    · rw [(vl_dvd_step (x + 256 * y) (lv l) 0 (by omega)).2]
      rfl
    · rw [(vl_dvd_step (x + 256 * y) (lv l) i (by omega)).1, lv_pair i l (fun z hz => h z (by simp [hz])) (by simp at hi; omega)]
      rfl
theorem lv_lt : ∀ l : List Nat, (∀ x ∈ l, x < 256) → lv l < 256 ^ l.length
  | [], _ => by decide
  | x :: l, h => by
    have h1 := lv_lt l (fun y hy => h y (List.mem_cons_of_mem _ hy))
    have h2 := h x (List.mem_cons_self ..)
    rw [lv, List.length_cons, Nat.pow_succ]
    omega
/-- The number of 32 bytes. -/
def nb (k : Fin 32 → UInt8) : Nat := lv ((k32 k).map UInt8.toNat)
theorem nb_all (k : Fin 32 → UInt8) : ∀ x ∈ (k32 k).map UInt8.toNat, x < 256 := by
  intro x hx
  obtain ⟨y, _, rfl⟩ := List.mem_map.1 hx
  exact y.toNat_lt
theorem nb_lt (k : Fin 32 → UInt8) : nb k < 65536 ^ 16 := by
  have := lv_lt _ (nb_all k)
  rw [List.length_map, k32_length] at this
  exact Nat.lt_of_lt_of_le this (by decide)
theorem k32_getD (k : Fin 32 → UInt8) (i : Nat) (h : i < 32) : ((k32 k).map UInt8.toNat).getD i 0 = (k ⟨i, h⟩).toNat := by
  unfold k32
  rw [List.map_map, List.getD_eq_getElem?_getD, List.getElem?_map, List.getElem?_eq_getElem (by simpa using h)]
  simp
theorem nb_dgt (k : Fin 32 → UInt8) (i : Nat) (h : i < 16) : dgt (nb k) i = (k ⟨2 * i, by omega⟩).toNat + 256 * (k ⟨2 * i + 1, by omega⟩).toNat := by
  unfold nb
  rw [lv_pair i _ (nb_all k) (by rw [List.length_map, k32_length]; omega), k32_getD, k32_getD]
/-- The bytes of a number. -/
def bt (n : Nat) (j : Fin 32) : UInt8 := UInt8.ofNat (n / 256 ^ j.val % 256)
theorem bt_low (n i : Nat) (h : 2 * i < 32) : (bt n ⟨2 * i, h⟩).toNat = dgt n i % 256 := by
  unfold bt dgt
  rw [UInt8.toNat_ofNat', Nat.mod_mod, show 256 ^ (2 * i) = 65536 ^ i by rw [Nat.pow_mul]]
  omega
theorem bt_high (n i : Nat) (h : 2 * i + 1 < 32) : (bt n ⟨2 * i + 1, h⟩).toNat = dgt n i / 256 := by
  unfold bt dgt
  rw [UInt8.toNat_ofNat', Nat.mod_mod, Nat.pow_succ, Nat.pow_mul, ← Nat.div_div_eq_div_mul]
  show n / 65536 ^ i / 256 % 256 = _
  omega
end Go.Proofs.YtoookolekpblhaaDoor
