/- The bytes of a number of five limbs, in plain arithmetic. Conditions: none. -/
import Derived.Test.YtoookolekpblhaaDoorOf6
namespace Go.Proofs.YtoookolekpblhaaDoor
open Go.RowKit
theorem ofInt_wrap (z : Int) : BitVec.ofInt 64 (IntKind.i64.wrap z) = BitVec.ofInt 64 z := by
  apply BitVec.eq_of_toNat_eq
  rw [BitVec.toNat_ofInt, BitVec.toNat_ofInt, IntKind.wrap_i64]
  omega
theorem or_byte (a b s : Nat) (ha : a < 2 ^ s) : IntKind.u8.wrap (bits .or .i64 (a : Int) (IntKind.i64.wrap ((b : Int) * 2 ^ s))) = (((a + b * 2 ^ s) % 256 : Nat) : Int) := by
  have e : (b : Int) * 2 ^ s = ((b * 2 ^ s : Nat) : Int) := by rw [Int.natCast_mul, Int.natCast_pow]; rfl
  rw [e]
  show IntKind.u8.wrap (IntKind.i64.wrap ((BitVec.ofInt 64 (a : Int) ||| BitVec.ofInt 64 (IntKind.i64.wrap ((b * 2 ^ s : Nat) : Int))).toNat : Nat)) = _
  rw [ofInt_wrap, BitVec.toNat_or, BitVec.ofInt_natCast, BitVec.ofInt_natCast, BitVec.toNat_ofNat, BitVec.toNat_ofNat]
  have h1 : (a % 2 ^ 64 ||| b * 2 ^ s % 2 ^ 64) % 2 ^ 8 = (a ||| b * 2 ^ s) % 2 ^ 8 := by
    rw [Nat.or_mod_two_pow, Nat.or_mod_two_pow, Nat.mod_mod_of_dvd _ (by decide), Nat.mod_mod_of_dvd _ (by decide)]
  have h2 := Nat.two_pow_add_eq_or_of_lt ha b
  rw [Nat.mul_comm (2 ^ s) b, Nat.or_comm] at h2
  rw [← h2] at h1
  generalize (a % 2 ^ 64 ||| b * 2 ^ s % 2 ^ 64) = n at h1
  rw [show IntKind.u8.wrap (IntKind.i64.wrap (n : Int)) = ((n % 256 : Nat) : Int) by rw [IntKind.wrap_i64, IntKind.wrap_u8]; omega]
  rw [show n % 256 = n % 2 ^ 8 from rfl, h1, Nat.add_comm]
theorem two_limbs (y f s : Nat) (hfs : f + s = 51) : (y % 2251799813685248 / 2 ^ f + y / 2251799813685248 % 2251799813685248 * 2 ^ s) % 256 = y / 2 ^ f % 256 := by
  have hB : 2251799813685248 = 2 ^ f * 2 ^ s := by rw [← Nat.pow_add, hfs]
  have hF : 0 < 2 ^ f := Nat.pow_pos (by decide)
  obtain ⟨v, hv⟩ : ∃ v, v = y % 2251799813685248 := ⟨_, rfl⟩
  obtain ⟨u, hu⟩ : ∃ u, u = y / 2251799813685248 % 2251799813685248 := ⟨_, rfl⟩
  obtain ⟨h, hh⟩ : ∃ h, h = y / 2251799813685248 / 2251799813685248 := ⟨_, rfl⟩
  have hy : y = v + 2251799813685248 * (u + 2251799813685248 * h) := by omega
  have e : y / 2 ^ f = v / 2 ^ f + 2 ^ s * (u + 2251799813685248 * h) := by
    have e1 : 2251799813685248 * (u + 2251799813685248 * h) = 2 ^ f * (2 ^ s * (u + 2251799813685248 * h)) := by
      rw [← Nat.mul_assoc, ← hB]
    rw [hy, e1, Nat.add_mul_div_left _ _ hF]
  rw [← hv, ← hu, e, Nat.mul_add, Nat.mul_comm (2 ^ s) u]
  have e2 : 2 ^ s * (2251799813685248 * h) = 256 * (2 ^ s * (8796093022208 * h)) := by
    rw [show 2251799813685248 * h = 256 * (8796093022208 * h) by omega, Nat.mul_left_comm]
  rw [e2, ← Nat.add_assoc, Nat.add_mul_mod_self_left]
theorem lm_byte (x m : Nat) : (lm x (8 * m / 51) / 2 ^ (8 * m % 51) + lm x (8 * m / 51 + 1) * 2 ^ (51 - 8 * m % 51)) % 256 = x / 256 ^ m % 256 := by
  unfold lm
  rw [Nat.pow_succ, ← Nat.div_div_eq_div_mul]
  rw [two_limbs _ _ _ (by omega), Nat.div_div_eq_div_mul]
  congr 2
  rw [show 2251799813685248 = 2 ^ 51 from rfl, ← Nat.pow_mul, ← Nat.pow_add, show (256 : Nat) = 2 ^ 8 from rfl, ← Nat.pow_mul]
  congr 1
  omega
/-- The six limbs: a number's five, and 0. -/
def l6 (x : Nat) : List Value := cl (lf x) ++ [.int .i64 0]
theorem l6_length (x : Nat) : (l6 x).length = 6 := by simp [l6, cl_length]
theorem lm_five {x : Nat} (h : x < fq) : lm x 5 = 0 := by
  unfold lm
  rw [Nat.div_eq_of_lt]
  unfold fq at h
  simp only [Nat.reducePow]
  omega
theorem l6_get {x : Nat} (hx : x < fq) (i : Nat) (h : i < 6) : (l6 x)[i]? = some (.int .i64 ((lm x i : Nat) : Int)) := by
  unfold l6
  by_cases h5 : i < 5
  · rw [List.getElem?_append_left (by rw [cl_length]; exact h5), cl_get _ i h5]
    rfl
  · obtain rfl : i = 5 := by omega
    rw [List.getElem?_append_right (by rw [cl_length]; omega), cl_length, lm_five hx]
    rfl
/-- The bytes so far. -/
def bq (x m : Nat) (j : Fin 32) : UInt8 := if j.val < m then bt x j else 0
theorem bq_zero (x : Nat) : (fun _ : Fin 32 => (0 : UInt8)) = bq x 0 := by
  funext j
  simp [bq]
theorem bq_all (x : Nat) : bq x 32 = bt x := by
  funext j
  simp [bq, j.isLt]
theorem bq_set (x m : Nat) (h : m < 32) : (u8s (k32 (bq x m))).set m (.int .u8 (((x / 256 ^ m % 256 : Nat)) : Int)) = u8s (k32 (bq x (m + 1))) := by
  apply List.ext_getElem?
  intro j
  by_cases hj : j < 32
  · rw [List.getElem?_set, u8s_length, k32_length, k32_get _ j hj, k32_get _ j hj]
    unfold bq
    by_cases e : m = j
    · subst e
      rw [if_pos rfl, if_pos h, if_pos (by simp)]
      unfold bt
      rw [UInt8.toNat_ofNat', Nat.mod_mod]
    · rw [if_neg e]
      have h3 : (j < m + 1) = (j < m) := by simp; omega
      simp only [h3]
  · rw [List.getElem?_eq_none (by rw [List.length_set, u8s_length, k32_length]; omega), List.getElem?_eq_none (by rw [u8s_length, k32_length]; omega)]
theorem run_new41 (w : World) : (Instr.alloc 41 true (.tuple #[])).run Tryd.prog w = .ok (.pointer (some ⟨w.heap.size, 0, none⟩)) (w.alloc (.cells (List.replicate 6 (Value.int .i64 0)).toArray 41)) := by kernel_rfl
section
variable {w : World} {ops : Array Oper} {rest : List Oper} {o : Oper} {a : Act} {Q : Exit → Act → World → Prop}
def zc (n : Nat) : List Value := List.replicate n (.int .i64 0)
theorem wpList_new41 (hgd : o.guard = none) (ho : o.op = .alloc 41)
    (h : ∀ w', Blk w' w.heap.size 41 (zc 6) → w.grownBy w' none → w'.heap.size = w.heap.size + 1 → wpList Tryd.prog ops Q rest (a.put o.dst (.pointer (some ⟨w.heap.size, 0, none⟩))) w') : wpList Tryd.prog ops Q (o :: rest) a w := by
  refine wpList_plain hgd fun K hK => ?_
  have hrun := run_new41 w
  change _ = Result.ok _ (w.alloc (.cells (zc 6).toArray 41)) at hrun
  generalize zc 6 = z at hrun h
  unfold Oper.wp
  simp only [execOp, ho, Sem.run_bind, hrun, Result.andThen_ok, Sem.run_pure]
  exact hK _ _ (h _ (Blk.of_alloc w _ 41) (World.grownBy_alloc w _ none) (World.size_alloc w _))
/-- Five limbs are copied into a block. -/
theorem wpList_copy5 (hgd : o.guard = none) (d s : Operand) (ho : o.op = .call { callee := .builtin .copy, args := #[d, s], argTypes := #[42, 42] })
    (g off : Nat) (ga : Nat) (hd : ∃ c, a.eval d = .slice (some ⟨g, off, none⟩) (5 + c) (5 + c)) (hs : a.eval s = .slice (some ⟨ga, 0, none⟩) 5 5)
    (f : Nat → Int) (ty ta : TypeId) (pre mid post : List Value) (hm : mid.length = 5) (hb : Blk w g ty (pre ++ mid ++ post)) (hp : pre.length = off) (hx : Blk w ga ta (cl f))
    (h : ∀ w', Blk w' g ty (pre ++ cl f ++ post) → w.grownBy w' (some g) → w'.heap.size = w.heap.size → wpList Tryd.prog ops Q rest (a.put o.dst (goInt (5 : Int))) w') :
    wpList Tryd.prog ops Q (o :: rest) a w := by
  obtain ⟨c, hd⟩ := hd
  subst hp
  refine wpList_copy_own hgd d s 42 42 ho 2 Tryd.underlying42 (by kernel_rfl) g pre.length (5 + c) (5 + c) ⟨ga, 0, none⟩ 5 5 hd hs _ ty hb (cl f) (by rw [cl_length]; exact (Nat.min_eq_left (by omega)).symm) ?_ ?_ (cl_one f) ?_
  · intro j v hv
    rw [Addr.add_lit, Nat.zero_add]
    exact hx.get j v hv
  · simp only [List.size_toArray, List.length_append, cl_length]
    omega
  · have e : List.take pre.length (pre ++ mid ++ post) ++ (cl f ++ List.drop (pre.length + (cl f).length) (pre ++ mid ++ post)) = pre ++ cl f ++ post := by
      rw [cl_length, List.append_assoc pre, List.take_left', List.drop_append, List.drop_eq_nil_of_le (by omega), Nat.add_sub_cancel_left, List.nil_append, List.drop_append, List.drop_eq_nil_of_le (by omega), hm, Nat.sub_self, List.drop_zero, List.nil_append, List.append_assoc]
      rfl
    simp only []
    rw [e, cl_length]
    exact h _ (Blk.setRow hb) (grown_setRow _ _ _) (by simp [World.setRow])
end
end Go.Proofs.YtoookolekpblhaaDoor
