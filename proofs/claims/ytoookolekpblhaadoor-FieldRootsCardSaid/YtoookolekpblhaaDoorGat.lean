/- A limb of a product: five products taken in. Conditions: the limbs are below their bounds. -/
import Derived.Test.YtoookolekpblhaaDoorPlu
import Derived.Deep.RegionHeld3
import Derived.BigQuiet
namespace Go.Proofs.YtoookolekpblhaaDoor
open Go.RowKit
/-- What the products are made of lies there. -/
def GatS (ga gw k : Nat) (A R : Nat → Nat) (w : World) : Prop := (∀ i, i < 5 → w.cell? ⟨ga, i, none⟩ = some (.int .i64 (A i : Int))) ∧ (∀ j, j < 5 → w.cell? ⟨gw, k + j, none⟩ = some (.int .i64 (R j : Int)))
theorem GatS.more {ga gw k : Nat} {A R : Nat → Nat} {w w' : World} (h : GatS ga gw k A R w) {row : Option Nat} (hg : w.grownBy w' row) (h1 : some ga ≠ row) (h2 : some gw ≠ row) : GatS ga gw k A R w' :=
  ⟨fun i hi => hg.cell (h.1 i hi) h1, fun j hj => hg.cell (h.2 j hj) h2⟩
section
variable {ops : Array Oper} {S : World → Prop} {o : Oper} {a : Act}
theorem yieldsIf_index25 (hw : Region.wanted o (yielded ops a.tmps) = true) (x : Operand) (n : Nat) (hn : n < 5) (ho : o.op = .indexAddr 25 x (.const (.int .i64 (n : Int)))) {g k : Nat} (hx : a.eval x = .pointer (some ⟨g, k, none⟩)) : YieldsIf Tryd.prog ops S o (.pointer (some ⟨g, k + n, none⟩)) a :=
  .inl ⟨hw, fun w _ => by
    have hcst : a.eval (.const (.int .i64 (n : Int))) = .int .i64 (n : Int) := rfl
    have hu := Tryd.underlying25
    unfold execOp
    simp only [ho, hx, hcst]
    obtain rfl | rfl | rfl | rfl | rfl : n = 0 ∨ n = 1 ∨ n = 2 ∨ n = 3 ∨ n = 4 := by omega
    all_goals go_simp⟩
theorem yieldsIf_load2 (hw : Region.wanted o (yielded ops a.tmps) = true) (x : Operand) (ho : o.op = .load 2 x) {ad : Addr} (hx : a.eval x = .pointer (some ad)) {v : Value} (hS : ∀ w, S w → w.cell? ad = some v) : YieldsIf Tryd.prog ops S o v a :=
  .inl ⟨hw, fun w h => by
    have hc := hS w h
    have hu := Tryd.underlying2
    unfold execOp
    simp only [ho, hx]
    go_simp⟩
theorem yieldsIf_nil (hw : Region.wanted o (yielded ops a.tmps) = true) (x : Operand) (ho : o.op = .nilCheck x) {ad : Addr} (hx : a.eval x = .pointer (some ad)) : YieldsIf Tryd.prog ops S o (.pointer (some ad)) a :=
  .inl ⟨hw, fun w _ => by
    unfold execOp
    simp only [ho, hx]
    go_simp⟩
end
theorem mul_le5 {a b : Nat} (ha : a < 2251799813685248) (hb : b < 72057594037927936) : a * b ≤ 162259276829213363391578010288128 := Nat.mul_le_mul (Nat.le_of_lt ha) (Nat.le_of_lt hb)
set_option maxRecDepth 100000 in
set_option maxHeartbeats 1600000 in
theorem gather_any {W : World} {ga gw k on : Nat} {A R : Nat → Nat} (hs : GatS ga gw k A R W)
    (hA : ∀ i, i < 5 → A i < 2251799813685248) (hR : ∀ j, j < 5 → R j < 72057594037927936) (hon : on < 18446744073709551616) (V : Nat) (hV : V = on + A 0 * R 4 + A 1 * R 3 + A 2 * R 2 + A 3 * R 1 + A 4 * R 0) :
    Calls Tryd.prog 27 #[.pointer (some ⟨ga, 0, none⟩), .pointer (some ⟨gw, k, none⟩), .int .u64 (on : Int)] W fun e w' => e = .returned (.tuple #[.int .i64 ((V % 2251799813685248 : Nat) : Int), .int .u64 ((V / 2251799813685248 : Nat) : Int)]) ∧ W.grownBy w' none := by
  have hb : #[Value.int .u64 0, Value.int .u64 (on : Int)] = (wd on).toArray := by
    unfold wd
    rw [Nat.div_eq_of_lt hon, Nat.mod_eq_of_lt hon]
    rfl
  have m0 := mul_le5 (hA 0 (by omega)) (hR 4 (by omega))
  have m1 := mul_le5 (hA 1 (by omega)) (hR 3 (by omega))
  have m2 := mul_le5 (hA 2 (by omega)) (hR 2 (by omega))
  have m3 := mul_le5 (hA 3 (by omega)) (hR 1 (by omega))
  have m4 := mul_le5 (hA 4 (by omega)) (hR 0 (by omega))
  have hA' : ∀ i, i < 5 → A i < 9223372036854775808 := fun i h => Nat.lt_trans (hA i h) (by decide)
  have hR' : ∀ i, i < 5 → R i < 9223372036854775808 := fun i h => Nat.lt_trans (hR i h) (by decide)
  obtain ⟨V1, hV1⟩ : ∃ V, V = on + A 0 * R 4 := ⟨_, rfl⟩
  obtain ⟨V2, hV2⟩ : ∃ V, V = V1 + A 1 * R 3 := ⟨_, rfl⟩
  obtain ⟨V3, hV3⟩ : ∃ V, V = V2 + A 2 * R 2 := ⟨_, rfl⟩
  obtain ⟨V4, hV4⟩ : ∃ V, V = V3 + A 3 * R 1 := ⟨_, rfl⟩
  have hV5 : V = V4 + A 4 * R 0 := by rw [hV4, hV3, hV2, hV1]; exact hV
  have hc1 : ∀ w, Calls Tryd.prog 35 #[.agg (wd on).toArray, .int .i64 (A 0 : Int), .int .i64 (R 4 : Int)] w fun e w' => e = .returned (.agg (wd V1).toArray) ∧ w.grownBy w' none := fun w => by rw [hV1]; exact plus_any w _ _ _ (hA' _ (by omega)) (hR' _ (by omega)) (by omega)
  have hc2 : ∀ w, Calls Tryd.prog 35 #[.agg (wd V1).toArray, .int .i64 (A 1 : Int), .int .i64 (R 3 : Int)] w fun e w' => e = .returned (.agg (wd V2).toArray) ∧ w.grownBy w' none := fun w => by rw [hV2]; exact plus_any w _ _ _ (hA' _ (by omega)) (hR' _ (by omega)) (by omega)
  have hc3 : ∀ w, Calls Tryd.prog 35 #[.agg (wd V2).toArray, .int .i64 (A 2 : Int), .int .i64 (R 2 : Int)] w fun e w' => e = .returned (.agg (wd V3).toArray) ∧ w.grownBy w' none := fun w => by rw [hV3]; exact plus_any w _ _ _ (hA' _ (by omega)) (hR' _ (by omega)) (by omega)
  have hc4 : ∀ w, Calls Tryd.prog 35 #[.agg (wd V3).toArray, .int .i64 (A 3 : Int), .int .i64 (R 1 : Int)] w fun e w' => e = .returned (.agg (wd V4).toArray) ∧ w.grownBy w' none := fun w => by rw [hV4]; exact plus_any w _ _ _ (hA' _ (by omega)) (hR' _ (by omega)) (by omega)
  have hc5 : ∀ w, Calls Tryd.prog 35 #[.agg (wd V4).toArray, .int .i64 (A 4 : Int), .int .i64 (R 0 : Int)] w fun e w' => e = .returned (.agg (wd V).toArray) ∧ w.grownBy w' none := fun w => by rw [hV5]; exact plus_any w _ _ _ (hA' _ (by omega)) (hR' _ (by omega)) (by omega)
  have hVb : V < 1298074214633706907132624082305024 := by omega
  have hgl : ga < W.heap.size ∧ gw < W.heap.size := ⟨World.block_lt_of_cell? W _ (hs.1 0 (by omega)), World.block_lt_of_cell? W _ (hs.2 0 (by omega))⟩
  have HB := Lib.hid hb
  have HC1 := Lib.hid hc1
  have HC2 := Lib.hid hc2
  have HC3 := Lib.hid hc3
  have HC4 := Lib.hid hc4
  have HC5 := Lib.hid hc5
  have HVB := Lib.hid hVb
  have HS := Lib.hid hs
  obtain ⟨p, hp⟩ : ∃ p, p = V % 2251799813685248 := ⟨_, rfl⟩
  obtain ⟨q, hq⟩ : ∃ q, q = V / 2251799813685248 := ⟨_, rfl⟩
  rw [← hp, ← hq]
  have HP := Lib.hid hp
  have HQ := Lib.hid hq
  clear hp hq hb m0 m1 m2 m3 m4 hA' hR' hV1 hV2 hV3 hV4 hV5 hc1 hc2 hc3 hc4 hc5 hV hVb hA hR hon hs
  go_enter Tryd.func27, Tryd.ntmps27
  go_wp2_with (first
    | (refine wpList_new61 rfl rfl ?_
       intro w1 hb1 hg1 hz1
       obtain ⟨g8, hg8⟩ : ∃ g, g = W.heap.size := ⟨_, rfl⟩
       have hne : ga ≠ g8 ∧ gw ≠ g8 := ⟨by omega, by omega⟩
       rw [← hg8]
       rw [← hg8] at hb1
       have HB1 := Lib.hid hb1
       have HG1 := Lib.hid hg1
       have HW1 : Hid (W.heap.size ≤ g8) := Lib.hid (by omega)
       have HNE := Lib.hid hne
       clear hb1 hg1 hz1 hg8 hgl hne)
    | (refine wpList_store_row rfl 61 _ _ rfl g8 (wd on).toArray rfl (by rw [← HB.out]; rfl) 61 _ HB1.out (wd_size _) rfl (all_oneCell_toArray (wd_one _)) ?_))
  obtain ⟨w2, hw2⟩ : ∃ w2, w2 = w1.setRow g8 (wd on).toArray := ⟨_, rfl⟩
  rw [← hw2]
  have hb2 : Blk w2 g8 61 (wd on) := by rw [hw2]; exact Blk.setRow HB1.out
  have hg2 : W.grownBy w2 none := by rw [hw2]; exact World.grownBy.andThen HG1.out (grown_setRow _ _ _) (by rintro _ ⟨⟩; exact .inl HW1.out)
  have hs2 := HS.out.more hg2 (by simp) (by simp)
  have hbd : Blk w2.drew g8 61 (wd on) := hb2.keep rfl
  have hgd : W.grownBy w2.drew none := grown_drew hg2
  clear hw2 hb2 hg2 HB1 HG1
  refine wp_region_held_drew (S := GatS ga gw k A R) (by kernel_rfl) (HS.out.more hgd (by simp) (by simp)) (fun hHeld => ?_)
  refine' wpAnyH_take (i := 1) (oi := { dst := some 12, op := Op.move (Operand.tmp 0), type := 54, pos := "field.go:135", after := #[], guard := none }) (v := .pointer (some ⟨ga, 0, none⟩)) rfl (by kernel_rfl) (by kernel_rfl) (by kernel_rfl) (fun _ _ _ h => h) (.inl ⟨by rfl, fun _ _ => rfl⟩) (by assumption) ?qz1
  try simp only [Act.put, List.setIfInBounds_toArray, List.set_cons_zero, List.set_cons_succ]
  refine' wpAnyH_take (i := 2) (oi := { dst := some 13, op := Op.nilCheck (Operand.tmp 12), type := 0, pos := "field.go:135", after := #[{ on := 1, ground := Ground.data }], guard := none }) (v := .pointer (some ⟨ga, 0, none⟩)) rfl (by kernel_rfl) (by kernel_rfl) (by kernel_rfl) (fun _ _ _ h => h) (yieldsIf_nil (by rfl) _ rfl rfl) (by assumption) ?qz2
  try simp only [Act.put, List.setIfInBounds_toArray, List.set_cons_zero, List.set_cons_succ]
  refine' wpAnyH_take (i := 3) (oi := { dst := some 14, op := Op.indexAddr 25 (Operand.tmp 13) (Operand.const (Value.int IntKind.i64 0)), type := 0, pos := "field.go:135", after := #[{ on := 2, ground := Ground.data }], guard := none }) (v := .pointer (some ⟨ga, 0, none⟩)) rfl (by kernel_rfl) (by kernel_rfl) (by kernel_rfl) (fun _ _ _ h => h) (by simpa using yieldsIf_index25 (k := 0) (by rfl) _ 0 (by decide) rfl rfl) (by assumption) ?qz3
  try simp only [Act.put, List.setIfInBounds_toArray, List.set_cons_zero, List.set_cons_succ]
  refine' wpAnyH_take (i := 4) (oi := { dst := some 15, op := Op.load 2 (Operand.tmp 14), type := 2, pos := "field.go:135", after := #[{ on := 3, ground := Ground.data }], guard := none }) (v := .int .i64 (A 0 : Int)) rfl (by kernel_rfl) (by kernel_rfl) (by kernel_rfl) (fun _ _ _ h => h) (yieldsIf_load2 (by rfl) _ rfl rfl (fun w' hs => hs.1 0 (by decide))) (by assumption) ?qz4
  try simp only [Act.put, List.setIfInBounds_toArray, List.set_cons_zero, List.set_cons_succ]
  refine' wpAnyH_take (i := 5) (oi := { dst := some 16, op := Op.move (Operand.tmp 1), type := 54, pos := "field.go:135", after := #[], guard := none }) (v := .pointer (some ⟨gw, k, none⟩)) rfl (by kernel_rfl) (by kernel_rfl) (by kernel_rfl) (fun _ _ _ h => h) (.inl ⟨by rfl, fun _ _ => rfl⟩) (by assumption) ?qz5
  try simp only [Act.put, List.setIfInBounds_toArray, List.set_cons_zero, List.set_cons_succ]
  refine' wpAnyH_take (i := 6) (oi := { dst := some 17, op := Op.nilCheck (Operand.tmp 16), type := 0, pos := "field.go:135", after := #[{ on := 5, ground := Ground.data }], guard := none }) (v := .pointer (some ⟨gw, k, none⟩)) rfl (by kernel_rfl) (by kernel_rfl) (by kernel_rfl) (fun _ _ _ h => h) (yieldsIf_nil (by rfl) _ rfl rfl) (by assumption) ?qz6
  try simp only [Act.put, List.setIfInBounds_toArray, List.set_cons_zero, List.set_cons_succ]
  refine' wpAnyH_take (i := 7) (oi := { dst := some 18, op := Op.indexAddr 25 (Operand.tmp 17) (Operand.const (Value.int IntKind.i64 4)), type := 0, pos := "field.go:135", after := #[{ on := 6, ground := Ground.data }], guard := none }) (v := .pointer (some ⟨gw, k + 4, none⟩)) rfl (by kernel_rfl) (by kernel_rfl) (by kernel_rfl) (fun _ _ _ h => h) (yieldsIf_index25 (by rfl) _ 4 (by decide) rfl rfl) (by assumption) ?qz7
  try simp only [Act.put, List.setIfInBounds_toArray, List.set_cons_zero, List.set_cons_succ]
  refine' wpAnyH_take (i := 8) (oi := { dst := some 19, op := Op.load 2 (Operand.tmp 18), type := 2, pos := "field.go:135", after := #[{ on := 7, ground := Ground.data }], guard := none }) (v := .int .i64 (R 4 : Int)) rfl (by kernel_rfl) (by kernel_rfl) (by kernel_rfl) (fun _ _ _ h => h) (yieldsIf_load2 (by rfl) _ rfl rfl (fun w' hs => hs.2 4 (by decide))) (by assumption) ?qz8
  try simp only [Act.put, List.setIfInBounds_toArray, List.set_cons_zero, List.set_cons_succ]
  refine' wpAnyH_take (i := 10) (oi := { dst := some 21, op := Op.move (Operand.tmp 0), type := 54, pos := "field.go:135", after := #[], guard := none }) (v := .pointer (some ⟨ga, 0, none⟩)) rfl (by kernel_rfl) (by kernel_rfl) (by kernel_rfl) (fun _ _ _ h => h) (.inl ⟨by rfl, fun _ _ => rfl⟩) (by assumption) ?qz9
  try simp only [Act.put, List.setIfInBounds_toArray, List.set_cons_zero, List.set_cons_succ]
  refine' wpAnyH_take (i := 11) (oi := { dst := some 22, op := Op.nilCheck (Operand.tmp 21), type := 0, pos := "field.go:135", after := #[{ on := 10, ground := Ground.data }], guard := none }) (v := .pointer (some ⟨ga, 0, none⟩)) rfl (by kernel_rfl) (by kernel_rfl) (by kernel_rfl) (fun _ _ _ h => h) (yieldsIf_nil (by rfl) _ rfl rfl) (by assumption) ?qz10
  try simp only [Act.put, List.setIfInBounds_toArray, List.set_cons_zero, List.set_cons_succ]
  refine' wpAnyH_take (i := 12) (oi := { dst := some 23, op := Op.indexAddr 25 (Operand.tmp 22) (Operand.const (Value.int IntKind.i64 1)), type := 0, pos := "field.go:135", after := #[{ on := 11, ground := Ground.data }], guard := none }) (v := .pointer (some ⟨ga, 1, none⟩)) rfl (by kernel_rfl) (by kernel_rfl) (by kernel_rfl) (fun _ _ _ h => h) (by simpa using yieldsIf_index25 (k := 0) (by rfl) _ 1 (by decide) rfl rfl) (by assumption) ?qz11
  try simp only [Act.put, List.setIfInBounds_toArray, List.set_cons_zero, List.set_cons_succ]
  refine' wpAnyH_take (i := 13) (oi := { dst := some 24, op := Op.load 2 (Operand.tmp 23), type := 2, pos := "field.go:135", after := #[{ on := 12, ground := Ground.data }], guard := none }) (v := .int .i64 (A 1 : Int)) rfl (by kernel_rfl) (by kernel_rfl) (by kernel_rfl) (fun _ _ _ h => h) (yieldsIf_load2 (by rfl) _ rfl rfl (fun w' hs => hs.1 1 (by decide))) (by assumption) ?qz12
  try simp only [Act.put, List.setIfInBounds_toArray, List.set_cons_zero, List.set_cons_succ]
  refine' wpAnyH_take (i := 14) (oi := { dst := some 25, op := Op.move (Operand.tmp 1), type := 54, pos := "field.go:135", after := #[], guard := none }) (v := .pointer (some ⟨gw, k, none⟩)) rfl (by kernel_rfl) (by kernel_rfl) (by kernel_rfl) (fun _ _ _ h => h) (.inl ⟨by rfl, fun _ _ => rfl⟩) (by assumption) ?qz13
  try simp only [Act.put, List.setIfInBounds_toArray, List.set_cons_zero, List.set_cons_succ]
  refine' wpAnyH_take (i := 15) (oi := { dst := some 26, op := Op.nilCheck (Operand.tmp 25), type := 0, pos := "field.go:135", after := #[{ on := 14, ground := Ground.data }], guard := none }) (v := .pointer (some ⟨gw, k, none⟩)) rfl (by kernel_rfl) (by kernel_rfl) (by kernel_rfl) (fun _ _ _ h => h) (yieldsIf_nil (by rfl) _ rfl rfl) (by assumption) ?qz14
  try simp only [Act.put, List.setIfInBounds_toArray, List.set_cons_zero, List.set_cons_succ]
  refine' wpAnyH_take (i := 16) (oi := { dst := some 27, op := Op.indexAddr 25 (Operand.tmp 26) (Operand.const (Value.int IntKind.i64 3)), type := 0, pos := "field.go:135", after := #[{ on := 15, ground := Ground.data }], guard := none }) (v := .pointer (some ⟨gw, k + 3, none⟩)) rfl (by kernel_rfl) (by kernel_rfl) (by kernel_rfl) (fun _ _ _ h => h) (yieldsIf_index25 (by rfl) _ 3 (by decide) rfl rfl) (by assumption) ?qz15
  try simp only [Act.put, List.setIfInBounds_toArray, List.set_cons_zero, List.set_cons_succ]
  refine' wpAnyH_take (i := 17) (oi := { dst := some 28, op := Op.load 2 (Operand.tmp 27), type := 2, pos := "field.go:135", after := #[{ on := 16, ground := Ground.data }], guard := none }) (v := .int .i64 (R 3 : Int)) rfl (by kernel_rfl) (by kernel_rfl) (by kernel_rfl) (fun _ _ _ h => h) (yieldsIf_load2 (by rfl) _ rfl rfl (fun w' hs => hs.2 3 (by decide))) (by assumption) ?qz16
  try simp only [Act.put, List.setIfInBounds_toArray, List.set_cons_zero, List.set_cons_succ]
  refine' wpAnyH_take (i := 19) (oi := { dst := some 30, op := Op.move (Operand.tmp 0), type := 54, pos := "field.go:135", after := #[], guard := none }) (v := .pointer (some ⟨ga, 0, none⟩)) rfl (by kernel_rfl) (by kernel_rfl) (by kernel_rfl) (fun _ _ _ h => h) (.inl ⟨by rfl, fun _ _ => rfl⟩) (by assumption) ?qz17
  try simp only [Act.put, List.setIfInBounds_toArray, List.set_cons_zero, List.set_cons_succ]
  refine' wpAnyH_take (i := 20) (oi := { dst := some 31, op := Op.nilCheck (Operand.tmp 30), type := 0, pos := "field.go:135", after := #[{ on := 19, ground := Ground.data }], guard := none }) (v := .pointer (some ⟨ga, 0, none⟩)) rfl (by kernel_rfl) (by kernel_rfl) (by kernel_rfl) (fun _ _ _ h => h) (yieldsIf_nil (by rfl) _ rfl rfl) (by assumption) ?qz18
  try simp only [Act.put, List.setIfInBounds_toArray, List.set_cons_zero, List.set_cons_succ]
  refine' wpAnyH_take (i := 21) (oi := { dst := some 32, op := Op.indexAddr 25 (Operand.tmp 31) (Operand.const (Value.int IntKind.i64 2)), type := 0, pos := "field.go:135", after := #[{ on := 20, ground := Ground.data }], guard := none }) (v := .pointer (some ⟨ga, 2, none⟩)) rfl (by kernel_rfl) (by kernel_rfl) (by kernel_rfl) (fun _ _ _ h => h) (by simpa using yieldsIf_index25 (k := 0) (by rfl) _ 2 (by decide) rfl rfl) (by assumption) ?qz19
  try simp only [Act.put, List.setIfInBounds_toArray, List.set_cons_zero, List.set_cons_succ]
  refine' wpAnyH_take (i := 22) (oi := { dst := some 33, op := Op.load 2 (Operand.tmp 32), type := 2, pos := "field.go:135", after := #[{ on := 21, ground := Ground.data }], guard := none }) (v := .int .i64 (A 2 : Int)) rfl (by kernel_rfl) (by kernel_rfl) (by kernel_rfl) (fun _ _ _ h => h) (yieldsIf_load2 (by rfl) _ rfl rfl (fun w' hs => hs.1 2 (by decide))) (by assumption) ?qz20
  try simp only [Act.put, List.setIfInBounds_toArray, List.set_cons_zero, List.set_cons_succ]
  refine' wpAnyH_take (i := 23) (oi := { dst := some 34, op := Op.move (Operand.tmp 1), type := 54, pos := "field.go:135", after := #[], guard := none }) (v := .pointer (some ⟨gw, k, none⟩)) rfl (by kernel_rfl) (by kernel_rfl) (by kernel_rfl) (fun _ _ _ h => h) (.inl ⟨by rfl, fun _ _ => rfl⟩) (by assumption) ?qz21
  try simp only [Act.put, List.setIfInBounds_toArray, List.set_cons_zero, List.set_cons_succ]
  refine' wpAnyH_take (i := 24) (oi := { dst := some 35, op := Op.nilCheck (Operand.tmp 34), type := 0, pos := "field.go:135", after := #[{ on := 23, ground := Ground.data }], guard := none }) (v := .pointer (some ⟨gw, k, none⟩)) rfl (by kernel_rfl) (by kernel_rfl) (by kernel_rfl) (fun _ _ _ h => h) (yieldsIf_nil (by rfl) _ rfl rfl) (by assumption) ?qz22
  try simp only [Act.put, List.setIfInBounds_toArray, List.set_cons_zero, List.set_cons_succ]
  refine' wpAnyH_take (i := 25) (oi := { dst := some 36, op := Op.indexAddr 25 (Operand.tmp 35) (Operand.const (Value.int IntKind.i64 2)), type := 0, pos := "field.go:135", after := #[{ on := 24, ground := Ground.data }], guard := none }) (v := .pointer (some ⟨gw, k + 2, none⟩)) rfl (by kernel_rfl) (by kernel_rfl) (by kernel_rfl) (fun _ _ _ h => h) (yieldsIf_index25 (by rfl) _ 2 (by decide) rfl rfl) (by assumption) ?qz23
  try simp only [Act.put, List.setIfInBounds_toArray, List.set_cons_zero, List.set_cons_succ]
  refine' wpAnyH_take (i := 26) (oi := { dst := some 37, op := Op.load 2 (Operand.tmp 36), type := 2, pos := "field.go:135", after := #[{ on := 25, ground := Ground.data }], guard := none }) (v := .int .i64 (R 2 : Int)) rfl (by kernel_rfl) (by kernel_rfl) (by kernel_rfl) (fun _ _ _ h => h) (yieldsIf_load2 (by rfl) _ rfl rfl (fun w' hs => hs.2 2 (by decide))) (by assumption) ?qz24
  try simp only [Act.put, List.setIfInBounds_toArray, List.set_cons_zero, List.set_cons_succ]
  refine' wpAnyH_take (i := 28) (oi := { dst := some 39, op := Op.move (Operand.tmp 0), type := 54, pos := "field.go:135", after := #[], guard := none }) (v := .pointer (some ⟨ga, 0, none⟩)) rfl (by kernel_rfl) (by kernel_rfl) (by kernel_rfl) (fun _ _ _ h => h) (.inl ⟨by rfl, fun _ _ => rfl⟩) (by assumption) ?qz25
  try simp only [Act.put, List.setIfInBounds_toArray, List.set_cons_zero, List.set_cons_succ]
  refine' wpAnyH_take (i := 29) (oi := { dst := some 40, op := Op.nilCheck (Operand.tmp 39), type := 0, pos := "field.go:135", after := #[{ on := 28, ground := Ground.data }], guard := none }) (v := .pointer (some ⟨ga, 0, none⟩)) rfl (by kernel_rfl) (by kernel_rfl) (by kernel_rfl) (fun _ _ _ h => h) (yieldsIf_nil (by rfl) _ rfl rfl) (by assumption) ?qz26
  try simp only [Act.put, List.setIfInBounds_toArray, List.set_cons_zero, List.set_cons_succ]
  refine' wpAnyH_take (i := 30) (oi := { dst := some 41, op := Op.indexAddr 25 (Operand.tmp 40) (Operand.const (Value.int IntKind.i64 3)), type := 0, pos := "field.go:135", after := #[{ on := 29, ground := Ground.data }], guard := none }) (v := .pointer (some ⟨ga, 3, none⟩)) rfl (by kernel_rfl) (by kernel_rfl) (by kernel_rfl) (fun _ _ _ h => h) (by simpa using yieldsIf_index25 (k := 0) (by rfl) _ 3 (by decide) rfl rfl) (by assumption) ?qz27
  try simp only [Act.put, List.setIfInBounds_toArray, List.set_cons_zero, List.set_cons_succ]
  refine' wpAnyH_take (i := 31) (oi := { dst := some 42, op := Op.load 2 (Operand.tmp 41), type := 2, pos := "field.go:135", after := #[{ on := 30, ground := Ground.data }], guard := none }) (v := .int .i64 (A 3 : Int)) rfl (by kernel_rfl) (by kernel_rfl) (by kernel_rfl) (fun _ _ _ h => h) (yieldsIf_load2 (by rfl) _ rfl rfl (fun w' hs => hs.1 3 (by decide))) (by assumption) ?qz28
  try simp only [Act.put, List.setIfInBounds_toArray, List.set_cons_zero, List.set_cons_succ]
  refine' wpAnyH_take (i := 32) (oi := { dst := some 43, op := Op.move (Operand.tmp 1), type := 54, pos := "field.go:135", after := #[], guard := none }) (v := .pointer (some ⟨gw, k, none⟩)) rfl (by kernel_rfl) (by kernel_rfl) (by kernel_rfl) (fun _ _ _ h => h) (.inl ⟨by rfl, fun _ _ => rfl⟩) (by assumption) ?qz29
  try simp only [Act.put, List.setIfInBounds_toArray, List.set_cons_zero, List.set_cons_succ]
  refine' wpAnyH_take (i := 33) (oi := { dst := some 44, op := Op.nilCheck (Operand.tmp 43), type := 0, pos := "field.go:135", after := #[{ on := 32, ground := Ground.data }], guard := none }) (v := .pointer (some ⟨gw, k, none⟩)) rfl (by kernel_rfl) (by kernel_rfl) (by kernel_rfl) (fun _ _ _ h => h) (yieldsIf_nil (by rfl) _ rfl rfl) (by assumption) ?qz30
  try simp only [Act.put, List.setIfInBounds_toArray, List.set_cons_zero, List.set_cons_succ]
  refine' wpAnyH_take (i := 34) (oi := { dst := some 45, op := Op.indexAddr 25 (Operand.tmp 44) (Operand.const (Value.int IntKind.i64 1)), type := 0, pos := "field.go:135", after := #[{ on := 33, ground := Ground.data }], guard := none }) (v := .pointer (some ⟨gw, k + 1, none⟩)) rfl (by kernel_rfl) (by kernel_rfl) (by kernel_rfl) (fun _ _ _ h => h) (yieldsIf_index25 (by rfl) _ 1 (by decide) rfl rfl) (by assumption) ?qz31
  try simp only [Act.put, List.setIfInBounds_toArray, List.set_cons_zero, List.set_cons_succ]
  refine' wpAnyH_take (i := 35) (oi := { dst := some 46, op := Op.load 2 (Operand.tmp 45), type := 2, pos := "field.go:135", after := #[{ on := 34, ground := Ground.data }], guard := none }) (v := .int .i64 (R 1 : Int)) rfl (by kernel_rfl) (by kernel_rfl) (by kernel_rfl) (fun _ _ _ h => h) (yieldsIf_load2 (by rfl) _ rfl rfl (fun w' hs => hs.2 1 (by decide))) (by assumption) ?qz32
  try simp only [Act.put, List.setIfInBounds_toArray, List.set_cons_zero, List.set_cons_succ]
  refine' wpAnyH_take (i := 37) (oi := { dst := some 48, op := Op.move (Operand.tmp 0), type := 54, pos := "field.go:135", after := #[], guard := none }) (v := .pointer (some ⟨ga, 0, none⟩)) rfl (by kernel_rfl) (by kernel_rfl) (by kernel_rfl) (fun _ _ _ h => h) (.inl ⟨by rfl, fun _ _ => rfl⟩) (by assumption) ?qz33
  try simp only [Act.put, List.setIfInBounds_toArray, List.set_cons_zero, List.set_cons_succ]
  refine' wpAnyH_take (i := 38) (oi := { dst := some 49, op := Op.nilCheck (Operand.tmp 48), type := 0, pos := "field.go:135", after := #[{ on := 37, ground := Ground.data }], guard := none }) (v := .pointer (some ⟨ga, 0, none⟩)) rfl (by kernel_rfl) (by kernel_rfl) (by kernel_rfl) (fun _ _ _ h => h) (yieldsIf_nil (by rfl) _ rfl rfl) (by assumption) ?qz34
  try simp only [Act.put, List.setIfInBounds_toArray, List.set_cons_zero, List.set_cons_succ]
  refine' wpAnyH_take (i := 39) (oi := { dst := some 50, op := Op.indexAddr 25 (Operand.tmp 49) (Operand.const (Value.int IntKind.i64 4)), type := 0, pos := "field.go:135", after := #[{ on := 38, ground := Ground.data }], guard := none }) (v := .pointer (some ⟨ga, 4, none⟩)) rfl (by kernel_rfl) (by kernel_rfl) (by kernel_rfl) (fun _ _ _ h => h) (by simpa using yieldsIf_index25 (k := 0) (by rfl) _ 4 (by decide) rfl rfl) (by assumption) ?qz35
  try simp only [Act.put, List.setIfInBounds_toArray, List.set_cons_zero, List.set_cons_succ]
  refine' wpAnyH_take (i := 40) (oi := { dst := some 51, op := Op.load 2 (Operand.tmp 50), type := 2, pos := "field.go:135", after := #[{ on := 39, ground := Ground.data }], guard := none }) (v := .int .i64 (A 4 : Int)) rfl (by kernel_rfl) (by kernel_rfl) (by kernel_rfl) (fun _ _ _ h => h) (yieldsIf_load2 (by rfl) _ rfl rfl (fun w' hs => hs.1 4 (by decide))) (by assumption) ?qz36
  try simp only [Act.put, List.setIfInBounds_toArray, List.set_cons_zero, List.set_cons_succ]
  refine' wpAnyH_take (i := 41) (oi := { dst := some 52, op := Op.move (Operand.tmp 1), type := 54, pos := "field.go:135", after := #[], guard := none }) (v := .pointer (some ⟨gw, k, none⟩)) rfl (by kernel_rfl) (by kernel_rfl) (by kernel_rfl) (fun _ _ _ h => h) (.inl ⟨by rfl, fun _ _ => rfl⟩) (by assumption) ?qz37
  try simp only [Act.put, List.setIfInBounds_toArray, List.set_cons_zero, List.set_cons_succ]
  refine' wpAnyH_take (i := 42) (oi := { dst := some 53, op := Op.nilCheck (Operand.tmp 52), type := 0, pos := "field.go:135", after := #[{ on := 41, ground := Ground.data }], guard := none }) (v := .pointer (some ⟨gw, k, none⟩)) rfl (by kernel_rfl) (by kernel_rfl) (by kernel_rfl) (fun _ _ _ h => h) (yieldsIf_nil (by rfl) _ rfl rfl) (by assumption) ?qz38
  try simp only [Act.put, List.setIfInBounds_toArray, List.set_cons_zero, List.set_cons_succ]
  refine' wpAnyH_take (i := 43) (oi := { dst := some 54, op := Op.indexAddr 25 (Operand.tmp 53) (Operand.const (Value.int IntKind.i64 0)), type := 0, pos := "field.go:135", after := #[{ on := 42, ground := Ground.data }], guard := none }) (v := .pointer (some ⟨gw, k + 0, none⟩)) rfl (by kernel_rfl) (by kernel_rfl) (by kernel_rfl) (fun _ _ _ h => h) (yieldsIf_index25 (by rfl) _ 0 (by decide) rfl rfl) (by assumption) ?qz39
  try simp only [Act.put, List.setIfInBounds_toArray, List.set_cons_zero, List.set_cons_succ]
  refine' wpAnyH_take (i := 44) (oi := { dst := some 55, op := Op.load 2 (Operand.tmp 54), type := 2, pos := "field.go:135", after := #[{ on := 43, ground := Ground.data }], guard := none }) (v := .int .i64 (R 0 : Int)) rfl (by kernel_rfl) (by kernel_rfl) (by kernel_rfl) (fun _ _ _ h => h) (yieldsIf_load2 (by rfl) _ rfl rfl (fun w' hs => hs.2 0 (by decide))) (by assumption) ?qz40
  try simp only [Act.put, List.setIfInBounds_toArray, List.set_cons_zero, List.set_cons_succ]
  refine wpAnyH_ready (rs := [0]) (by kernel_rfl) (by simp) ?_
  refine AllReadyH.cons (o := { dst := some 11, op := Op.load 61 (Operand.tmp 8), type := 61, pos := "field.go:135", after := #[], guard := none }) rfl (fun K hK => ?_) AllReadyH.nil
  rw [if_pos (by rfl)]
  refine wp_load_mid 61 _ rfl g8 0 rfl (wd on) _ (range_blk hbd) Tryd.underlying61 rfl (wd_size' _) ?_
  refine hK.out _ _ hHeld (fun hHeld => ?_)
  clear hK K
  try simp only [Act.put, List.setIfInBounds_toArray, List.set_cons_zero, List.set_cons_succ]
  refine wpAnyH_ready (rs := [9]) (by kernel_rfl) (by simp) ?_
  refine AllReadyH.cons (o := { dst := some 20, op := Op.call { callee := Callee.value (Operand.func 35), args := #[Operand.tmp 11, Operand.tmp 15, Operand.tmp 19], argTypes := #[61, 2, 2] }, type := 61, pos := "field.go:135", after := #[{ on := 0, ground := Ground.data }, { on := 4, ground := Ground.data }, { on := 8, ground := Ground.data }], guard := none }) rfl (fun K hK => ?_) AllReadyH.nil
  rw [if_pos (by rfl)]
  go_simp
  with_reducible refine (HC1.out _).mono ?_
  rintro _ wz41 ⟨rfl, hgz42⟩
  have hbz43 := Blk.grown hbd hgz42 (by simp)
  have hwz44 := World.grownBy.trans hgd hgz42
  refine hK.out _ _ (hHeld.more hgz42 (by simp) (by simp)) (fun hHeld => ?_)
  clear hK K
  try simp only [Act.put, List.setIfInBounds_toArray, List.set_cons_zero, List.set_cons_succ]
  refine wpAnyH_ready (rs := [18]) (by kernel_rfl) (by simp) ?_
  refine AllReadyH.cons (o := { dst := some 29, op := Op.call { callee := Callee.value (Operand.func 35), args := #[Operand.tmp 20, Operand.tmp 24, Operand.tmp 28], argTypes := #[61, 2, 2] }, type := 61, pos := "field.go:135", after := #[{ on := 9, ground := Ground.data }, { on := 13, ground := Ground.data }, { on := 17, ground := Ground.data }, { on := 9, ground := Ground.chain }], guard := none }) rfl (fun K hK => ?_) AllReadyH.nil
  rw [if_pos (by rfl)]
  go_simp
  with_reducible refine (HC2.out _).mono ?_
  rintro _ wz45 ⟨rfl, hgz46⟩
  have hbz47 := Blk.grown hbz43 hgz46 (by simp)
  have hwz48 := World.grownBy.trans hwz44 hgz46
  refine hK.out _ _ (hHeld.more hgz46 (by simp) (by simp)) (fun hHeld => ?_)
  clear hK K
  try simp only [Act.put, List.setIfInBounds_toArray, List.set_cons_zero, List.set_cons_succ]
  refine wpAnyH_ready (rs := [27]) (by kernel_rfl) (by simp) ?_
  refine AllReadyH.cons (o := { dst := some 38, op := Op.call { callee := Callee.value (Operand.func 35), args := #[Operand.tmp 29, Operand.tmp 33, Operand.tmp 37], argTypes := #[61, 2, 2] }, type := 61, pos := "field.go:135", after := #[{ on := 18, ground := Ground.data }, { on := 22, ground := Ground.data }, { on := 26, ground := Ground.data }, { on := 18, ground := Ground.chain }], guard := none }) rfl (fun K hK => ?_) AllReadyH.nil
  rw [if_pos (by rfl)]
  go_simp
  with_reducible refine (HC3.out _).mono ?_
  rintro _ wz49 ⟨rfl, hgz50⟩
  have hbz51 := Blk.grown hbz47 hgz50 (by simp)
  have hwz52 := World.grownBy.trans hwz48 hgz50
  refine hK.out _ _ (hHeld.more hgz50 (by simp) (by simp)) (fun hHeld => ?_)
  clear hK K
  try simp only [Act.put, List.setIfInBounds_toArray, List.set_cons_zero, List.set_cons_succ]
  refine wpAnyH_ready (rs := [36]) (by kernel_rfl) (by simp) ?_
  refine AllReadyH.cons (o := { dst := some 47, op := Op.call { callee := Callee.value (Operand.func 35), args := #[Operand.tmp 38, Operand.tmp 42, Operand.tmp 46], argTypes := #[61, 2, 2] }, type := 61, pos := "field.go:135", after := #[{ on := 27, ground := Ground.data }, { on := 31, ground := Ground.data }, { on := 35, ground := Ground.data }, { on := 27, ground := Ground.chain }], guard := none }) rfl (fun K hK => ?_) AllReadyH.nil
  rw [if_pos (by rfl)]
  go_simp
  with_reducible refine (HC4.out _).mono ?_
  rintro _ wz53 ⟨rfl, hgz54⟩
  have hbz55 := Blk.grown hbz51 hgz54 (by simp)
  have hwz56 := World.grownBy.trans hwz52 hgz54
  refine hK.out _ _ (hHeld.more hgz54 (by simp) (by simp)) (fun hHeld => ?_)
  clear hK K
  try simp only [Act.put, List.setIfInBounds_toArray, List.set_cons_zero, List.set_cons_succ]
  refine wpAnyH_ready (rs := [45]) (by kernel_rfl) (by simp) ?_
  refine AllReadyH.cons (o := { dst := some 56, op := Op.call { callee := Callee.value (Operand.func 35), args := #[Operand.tmp 47, Operand.tmp 51, Operand.tmp 55], argTypes := #[61, 2, 2] }, type := 61, pos := "field.go:135", after := #[{ on := 36, ground := Ground.data }, { on := 40, ground := Ground.data }, { on := 44, ground := Ground.data }, { on := 36, ground := Ground.chain }], guard := none }) rfl (fun K hK => ?_) AllReadyH.nil
  rw [if_pos (by rfl)]
  go_simp
  with_reducible refine (HC5.out _).mono ?_
  rintro _ wz57 ⟨rfl, hgz58⟩
  have hbz59 := Blk.grown hbz55 hgz58 (by simp)
  have hwz60 := World.grownBy.trans hwz56 hgz58
  refine hK.out _ _ (hHeld.more hgz58 (by simp) (by simp)) (fun hHeld => ?_)
  clear hK K
  try simp only [Act.put, List.setIfInBounds_toArray, List.set_cons_zero, List.set_cons_succ]
  refine wpAnyH_ready (rs := [46]) (by kernel_rfl) (by simp) ?_
  refine AllReadyH.cons rfl (fun K hK => ?_) AllReadyH.nil
  rw [if_pos (by rfl)]
  refine wp_store_row 61 _ _ rfl g8 (wd V).toArray rfl rfl 61 _ hbz59 (wd_size _) rfl (all_oneCell_toArray (wd_one _)) ?_
  refine hK.out _ _ (hHeld.more (grown_setRow _ _ _) (fun e => HNE.out.1 (Option.some.inj e)) (fun e => HNE.out.2 (Option.some.inj e))) (fun hHeld => ?_)
  clear hK K
  dsimp only [Act.put]
  refine wpAnyH_done (by kernel_rfl) ?_ _
  obtain ⟨w9, hw9⟩ : ∃ w9, w9 = wz57.setRow g8 (wd V).toArray := ⟨_, rfl⟩
  rw [← hw9]
  have hb9 : Blk w9 g8 61 (wd V) := by rw [hw9]; exact Blk.setRow hbz59
  have hg9 : W.grownBy w9 none := by rw [hw9]; exact World.grownBy.andThen hwz60 (grown_setRow _ _ _) (by rintro _ ⟨⟩; exact .inl HW1.out)
  have c0 := hb9.get 0 (.int .u64 ((V / 18446744073709551616 : Nat) : Int)) rfl
  have c1 := hb9.get 1 (.int .u64 ((V % 18446744073709551616 : Nat) : Int)) rfl
  obtain ⟨h, hh⟩ : ∃ h, h = V / 18446744073709551616 := ⟨_, rfl⟩
  obtain ⟨l, hl⟩ : ∃ l, l = V % 18446744073709551616 := ⟨_, rfl⟩
  have hp := HP.out
  have hq := HQ.out
  obtain ⟨l', hl'⟩ : ∃ l', l' = l / 2251799813685248 := ⟨_, rfl⟩
  have hVb := HVB.out
  rw [← hh] at c0
  rw [← hl] at c1
  have e1 : bits .and .u64 (l : Int) 2251799813685247 = (p : Int) := by rw [and51u l (by omega)]; omega
  have e2 : IntKind.i64.wrap (p : Int) = (p : Int) := i64_in (by omega)
  have e3 : (l : Int) / 2251799813685248 = (l' : Int) := by omega
  have e5 : bits .or .u64 (IntKind.u64.wrap ((h : Int) * 8192)) (l' : Int) = (q : Int) := by
    rw [hl', or_on h l (by omega) (by omega)]
    omega
  have e6 : IntKind.u64.wrap ((h : Int) * 8192) = ((h * 8192 : Nat) : Int) := by rw [IntKind.wrap_u64]; omega
  rw [e6] at e5
  obtain ⟨h', hh'⟩ : ∃ h', h' = h * 8192 := ⟨_, rfl⟩
  rw [← hh'] at e5 e6
  have HG9 := Lib.hid hg9
  clear hw9 hb9 hg9 hp hq hl' hVb hh hl hh' hHeld
  go_wp2_with (fail)
  go_quiet (fail)
  go_wp2
  go_ret2
  exact ⟨rfl, ⟨HG9.out.os, HG9.out.tape, HG9.out.output, HG9.out.size, HG9.out.block⟩⟩
end Go.Proofs.YtoookolekpblhaaDoor
