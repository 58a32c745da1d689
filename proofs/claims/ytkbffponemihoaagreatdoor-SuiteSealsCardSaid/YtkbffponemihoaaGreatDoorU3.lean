/- Arrays of bytes of either size: made, loaded, stored, in regions that draw their order, too. Conditions: none. -/
import Derived.Test.YtkbffponemihoaaGreatDoorU2
import Derived.Test.YtkbffponemihoaaGreatDoorCk
import Derived.Test.YtkbffponemihoaaGreatDoorSf
import Derived.Test.YtkbffponemihoaaGreatDoorTf
namespace Go.Proofs.YtkbffponemihoaaGreatDoor
open Go.RowKit T
/-- n bytes 0. -/
def zz (n : Nat) : List UInt8 := List.replicate n 0
theorem zz_length (n : Nat) : (zz n).length = n := by simp [zz]
/-- A type that is an array of n bytes. -/
structure Ar (t : TypeId) (n : Nat) : Prop where
  size : (Tryz.prog.info? t).map (·.size) = some n
  und : Tryz.prog.underlying t = some (.array n 5)
  alloc : ∀ w, (Instr.alloc t true (.tuple #[])).run Tryz.prog w = .ok (.pointer (some ⟨w.heap.size, 0, none⟩)) (w.alloc (.cells (u8s (zz n)).toArray t))
theorem ar25 : Ar 22 32 := ⟨by kernel_rfl, Tryz.underlying22, fun _ => by kernel_rfl⟩
theorem ar26 : Ar 40 32 := ⟨by kernel_rfl, Tryz.underlying40, fun _ => by kernel_rfl⟩
theorem ar78 : Ar 48 16 := ⟨by kernel_rfl, Tryz.underlying48, fun _ => by kernel_rfl⟩
theorem Arr.grown {w w' : World} {t : TypeId} {g : Nat} {xs : List UInt8} {row : Option Nat} (h : Arr w t g xs) (hg : w.grownBy w' row) (hr : some g ≠ row) : Arr w' t g xs := h.keep (hg.block g h.lt hr)
section
variable {w : World} {ops : Array Oper} {rest : List Oper} {S : World → Prop} {o : Oper} {a : Act} {K : Act → World → Prop} {Q : Exit → Act → World → Prop} {t : TypeId} {n : Nat}
theorem run_load_ar (hT : Ar t n) (w : World) (ad : Addr) (xs : List UInt8) (hl : xs.length = n) (hc : ∀ j v, (u8s xs)[j]? = some v → w.cell? (ad.add j) = some v) : (Instr.loadAt t (.pointer (some ad))).run Tryz.prog w = .ok (.agg (u8s xs).toArray) w := by
  have hl' : (loadCells ad (u8s xs).length).run Tryz.prog w = .ok (u8s xs).toArray w := run_loadCells_list (P := Tryz.prog) w ad (u8s xs) hc
  have hq : (Tryz.prog.info? t).map (·.size) = some (u8s xs).length := by rw [hT.size, u8s_length, hl]
  generalize u8s xs = z at hl' hq
  simp only [Instr.loadAt, Instr.sureAddr, Sem.run_bind, Sem.run_pure, Result.andThen_ok]
  cases hi : Tryz.prog.info? t with
  | none => simp [hi] at hq
  | some i =>
    have hs : i.size = z.length := by simpa [hi] using hq
    have hagg : (isAgg t).run Tryz.prog w = .ok true w := by
      unfold isAgg
      rw [Sem.run_bind, run_underlying hT.und w]
      rfl
    simp [loadVar, Sem.run_bind, hagg, sizeOf, typeInfo, hi, hs, hl']
theorem yieldsIf_load_ar (hT : Ar t n) (hw : Region.wanted o (yielded ops a.tmps) = true) (x : Operand) (ho : o.op = .load t x) (ad : Addr) (hx : a.eval x = .pointer (some ad)) (xs : List UInt8) (hl : xs.length = n)
    (hS : ∀ w, S w → ∀ j v, (u8s xs)[j]? = some v → w.cell? (ad.add j) = some v) : YieldsIf Tryz.prog ops S o (.agg (u8s xs).toArray) a :=
  .inl ⟨hw, fun w hs => by
    have hrun := run_load_ar hT w ad xs hl (hS w hs)
    unfold execOp
    simp only [ho, hx, hrun, Sem.run_bind, Sem.run_pure, Result.andThen_ok]⟩
theorem wpList_load_ar (hT : Ar t n) (hw : Region.wanted o (yielded ops a.tmps) = true) (x : Operand) (ho : o.op = .load t x) (g : Nat) (hx : a.eval x = .pointer (some ⟨g, 0, none⟩)) (xs : List UInt8) (hk : Arr w t g xs) (hl : xs.length = n)
    (h : wpList Tryz.prog ops Q rest (a.put o.dst (.agg (u8s xs).toArray)) w) : wpList Tryz.prog ops Q (o :: rest) a w :=
  wpList_step fun K hK => by
    rw [if_pos hw]
    exact wp_load_row t x ho g hx t _ (0, 0) _ hk hT.und rfl (by simp [hT.size, u8s_length, hl]) (hK _ _ h)
theorem wp_store_ar (hT : Ar t n) (x y : Operand) (ho : o.op = .store t x y) (g : Nat) (xs ys : List UInt8) (hx : a.eval x = .pointer (some ⟨g, 0, none⟩)) (hy : a.eval y = .agg (u8s ys).toArray) (hk : Arr w t g xs) (hxl : xs.length = n) (hyl : ys.length = n)
    (h : ∀ w', Arr w' t g ys → w.grownBy w' (some g) → w'.heap.size = w.heap.size → K (a.put o.dst undef) w') : o.wp Tryz.prog a w K Q := by
  refine wp_store_row t x y ho g _ hx hy t _ hk (by simp [hT.size, u8s_length, hyl]) (by simp [u8s_length, hxl, hyl]) (all_oneCell_toArray (u8s_one ys)) ?_
  exact h _ (setRow_heap w g _ _ t _ hk) ⟨rfl, rfl, rfl, by simp, fun i _ hi => setRow_other w g i _ fun e => hi (by rw [e])⟩ (by simp)
theorem wpList_store_ar (hT : Ar t n) (hgd : o.guard = none) (x y : Operand) (ho : o.op = .store t x y) (g : Nat) (xs ys : List UInt8) (hx : a.eval x = .pointer (some ⟨g, 0, none⟩)) (hy : a.eval y = .agg (u8s ys).toArray) (hk : Arr w t g xs) (hxl : xs.length = n) (hyl : ys.length = n)
    (h : ∀ w', Arr w' t g ys → w.grownBy w' (some g) → w'.heap.size = w.heap.size → wpList Tryz.prog ops Q rest (a.put o.dst undef) w') : wpList Tryz.prog ops Q (o :: rest) a w :=
  wpList_plain hgd fun _ hK => wp_store_ar hT x y ho g xs ys hx hy hk hxl hyl fun w' h1 h2 h3 => hK _ _ (h w' h1 h2 h3)
theorem wp_alloc_ar (hT : Ar t n) (ho : o.op = .alloc t)
    (h : ∀ w', Arr w' t w.heap.size (zz n) → w.grownBy w' none → w'.heap.size = w.heap.size + 1 → K (a.put o.dst (.pointer (some ⟨w.heap.size, 0, none⟩))) w') : o.wp Tryz.prog a w K Q := by
  have hrun := hT.alloc w
  obtain ⟨z, hz⟩ : ∃ z, z = u8s (zz n) := ⟨_, rfl⟩
  have hA : Arr (w.alloc (.cells z.toArray t)) t w.heap.size (zz n) := by rw [hz]; exact heap_alloc_new w _
  rw [← hz] at hrun
  clear hz
  unfold Oper.wp
  simp only [execOp, ho, Sem.run_bind, hrun, Result.andThen_ok, Sem.run_pure]
  exact h _ hA (World.grownBy_alloc w _ none) (World.size_alloc w _)
theorem wpList_alloc_ar (hT : Ar t n) (hgd : o.guard = none) (ho : o.op = .alloc t)
    (h : ∀ w', Arr w' t w.heap.size (zz n) → w.grownBy w' none → w'.heap.size = w.heap.size + 1 → wpList Tryz.prog ops Q rest (a.put o.dst (.pointer (some ⟨w.heap.size, 0, none⟩))) w') : wpList Tryz.prog ops Q (o :: rest) a w :=
  wpList_plain hgd fun _ hK => wp_alloc_ar hT ho fun w' h1 h2 h3 => hK _ _ (h w' h1 h2 h3)
end
/-- The four bytes by which a seal's key is spread. -/
def sealT : List UInt8 := [115, 101, 97, 108]
theorem byt_mark (w : World) (x : List UInt8) (fr : Nat × Nat) : Byt (w.alloc (.cells (u8s x).toArray 5 fr)) (fun b => b = w.heap.size) (some ⟨w.heap.size, 0, none⟩) x := fun j hj => by
  refine ⟨_, rfl, rfl, ?_⟩
  rw [Addr.add_lit, Nat.zero_add, World.cell?_alloc_mark]
  unfold u8s
  rw [List.getElem?_toArray, List.getElem?_map, List.getElem?_eq_getElem hj]
  rfl
section
variable {w : World} {ops : Array Oper} {rest : List Oper} {o : Oper} {a : Act} {Q : Exit → Act → World → Prop}
/-- A text of four bytes, laid and turned into bytes. -/
theorem wpList_four {o2 : Oper} (x0 x1 x2 x3 : UInt8) (hgd : o.guard = none) (hgd2 : o2.guard = none) (ho : o.op = .buildSlice 23 4 #[(0, .const (.int .u8 (x0.toNat : Int))), (1, .const (.int .u8 (x1.toNat : Int))), (2, .const (.int .u8 (x2.toNat : Int))), (3, .const (.int .u8 (x3.toNat : Int)))])
    (x : Operand) (ho2 : o2.op = .convert 23 23 x) (hx2 : (a.put o.dst (.slice (some ⟨w.heap.size, 0, none⟩) 4 4)).eval x = .slice (some ⟨w.heap.size, 0, none⟩) 4 4)
    (h : ∀ w', Byt w' (fun b => b = w.heap.size) (some ⟨w.heap.size, 0, none⟩) [x0, x1, x2, x3] → w.grownBy w' none → w.heap.size < w'.heap.size → wpList Tryz.prog ops Q rest ((a.put o.dst (.slice (some ⟨w.heap.size, 0, none⟩) 4 4)).put o2.dst (.slice (some ⟨w.heap.size, 0, none⟩) 4 4)) w') : wpList Tryz.prog ops Q (o :: o2 :: rest) a w := by
  refine wpList_plain hgd fun K hK => ?_
  have hrun : (Instr.buildSlice 23 4 #[(0, .int .u8 (x0.toNat : Int)), (1, .int .u8 (x1.toNat : Int)), (2, .int .u8 (x2.toNat : Int)), (3, .int .u8 (x3.toNat : Int))]).run Tryz.prog w = .ok (.slice (some ⟨w.heap.size, 0, none⟩) 4 4) (w.alloc (.cells (u8s [x0, x1, x2, x3]).toArray 5)) := by kernel_rfl
  have hconv := Lib.run_convert_bytes_const (P := Tryz.prog) w 23 5 (u8s [x0, x1, x2, x3]).toArray 4 4 Tryz.underlying23 Tryz.underlying5
  have hb := byt_mark w [x0, x1, x2, x3]
  generalize (u8s [x0, x1, x2, x3]).toArray = z at hrun hconv hb
  have e0 : a.eval (.const (.int .u8 (x0.toNat : Int))) = .int .u8 (x0.toNat : Int) := rfl
  have e1 : a.eval (.const (.int .u8 (x1.toNat : Int))) = .int .u8 (x1.toNat : Int) := rfl
  have e2 : a.eval (.const (.int .u8 (x2.toNat : Int))) = .int .u8 (x2.toNat : Int) := rfl
  have e3 : a.eval (.const (.int .u8 (x3.toNat : Int))) = .int .u8 (x3.toNat : Int) := rfl
  unfold Oper.wp
  simp only [execOp, ho, List.map_toArray, List.map_cons, List.map_nil, e0, e1, e2, e3, Sem.run_bind, hrun, Result.andThen_ok, Sem.run_pure]
  refine hK _ _ ?_
  refine wpList_plain hgd2 fun K2 hK2 => ?_
  unfold Oper.wp
  simp only [execOp, ho2, hx2, Sem.run_bind, hconv, Result.andThen_ok, Sem.run_pure]
  exact hK2 _ _ (h _ (hb _) (World.grownBy_alloc w _ none) (by rw [World.size_alloc]; omega))
end
/-- Three arrays as results. -/
theorem results_three {fn : Func} {p q r : Tmp} (h : fn.results = #[.cell p 22, .cell q 22, .cell r 48]) (tmps : Array Value) (w : World) (g g2 g3 : Nat) (xs ys zs : List UInt8) (hp : tmps.getD p undef = .pointer (some ⟨g, 0, none⟩)) (hq : tmps.getD q undef = .pointer (some ⟨g2, 0, none⟩)) (hr : tmps.getD r undef = .pointer (some ⟨g3, 0, none⟩))
    (hk : Arr w 22 g xs) (hk2 : Arr w 22 g2 ys) (hk3 : Arr w 48 g3 zs) (hl : xs.length = 32) (hl2 : ys.length = 32) (hl3 : zs.length = 16) :
    (results fn tmps).run Tryz.prog w = .ok (.tuple #[.agg (u8s xs).toArray, .agg (u8s ys).toArray, .agg (u8s zs).toArray]) w := by
  have hp' : tmps[p]?.getD undef = .pointer (some ⟨g, 0, none⟩) := by simpa using hp
  have hq' : tmps[q]?.getD undef = .pointer (some ⟨g2, 0, none⟩) := by simpa using hq
  have hr' : tmps[r]?.getD undef = .pointer (some ⟨g3, 0, none⟩) := by simpa using hr
  have h1 := run_loadVar_row (P := Tryz.prog) w g 22 22 _ (0, 0) _ hk Tryz.underlying22 rfl (by rw [ar25.size]; simp [u8s_length, hl])
  have h2 := run_loadVar_row (P := Tryz.prog) w g2 22 22 _ (0, 0) _ hk2 Tryz.underlying22 rfl (by rw [ar25.size]; simp [u8s_length, hl2])
  have h3 := run_loadVar_row (P := Tryz.prog) w g3 48 48 _ (0, 0) _ hk3 Tryz.underlying48 rfl (by rw [ar78.size]; simp [u8s_length, hl3])
  simp [results, h, hp', hq', hr', asAddr, h1, h2, h3]
end Go.Proofs.YtkbffponemihoaaGreatDoor
