/- Values of several cells: made, loaded, stored, in regions that draw their order, too; results of several. Conditions: none. -/
import Derived.Test.YtdnkeaokgkiloaaDoorP1
namespace Go.Proofs.YtdnkeaokgkiloaaDoor
open Go.RowKit T
/-- A type whose values are m cells. -/
structure Ag (t : TypeId) (m : Nat) : Prop where
  size : (Tryd.prog.info? t).map (·.size) = some m
  und : ∃ d, Tryd.prog.underlying t = some d ∧ d.isRow = true
/-- Its zero. -/
structure Ze (t : TypeId) (z : List Value) : Prop where
  alloc : ∀ w, (Instr.alloc t true (.tuple #[])).run Tryd.prog w = .ok (.pointer (some ⟨w.heap.size, 0, none⟩)) (w.alloc (.cells z.toArray t))
  build : ∀ w, (Instr.build t #[]).run Tryd.prog w = .ok (.agg z.toArray) w
theorem agA : Ag 22 32 := ⟨by kernel_rfl, _, Tryd.underlying22, rfl⟩
theorem agY : Ag 24 32 := ⟨by kernel_rfl, _, Tryd.underlying24, rfl⟩
theorem agC : Ag 40 33 := ⟨by kernel_rfl, _, Tryd.underlying40, rfl⟩
theorem agK : Ag 49 65 := ⟨by kernel_rfl, _, Tryd.underlying49, rfl⟩
theorem agS : Ag 29 1 := ⟨by kernel_rfl, _, Tryd.underlying29, rfl⟩
theorem agR : Ag 35 1 := ⟨by kernel_rfl, _, Tryd.underlying35, rfl⟩
theorem zeA : Ze 22 (u8s z32) := ⟨fun _ => by kernel_rfl, fun _ => by kernel_rfl⟩
theorem zeY : Ze 24 (u8s z32) := ⟨fun _ => by kernel_rfl, fun _ => by kernel_rfl⟩
theorem zeC : Ze 40 (rv z32 0) := ⟨fun _ => by kernel_rfl, fun _ => by kernel_rfl⟩
theorem zeK : Ze 49 (kv (z32, 0, z32)) := ⟨fun _ => by kernel_rfl, fun _ => by kernel_rfl⟩
theorem run_boxG (t : TypeId) (w : World) (vs : List Value) : (Instr.box t (.agg vs.toArray)).run Tryd.prog w = .ok (.pointer (some ⟨w.heap.size, 0, none⟩)) (w.alloc (.cells vs.toArray t)) := by
  simp only [Instr.box, newVar, newRow, Sem.run_bind, run_newObj_alloc, Sem.run_pure, Result.andThen_ok, Value.cells]
section
variable {w : World} {ops : Array Oper} {rest : List Oper} {S : World → Prop} {o : Oper} {a : Act} {K : Act → World → Prop} {Q : Exit → Act → World → Prop} {t t' : TypeId} {m g : Nat} {vs z old : List Value}
theorem wp_boxG (x : Operand) (ho : o.op = .box t x) (hx : a.eval x = .agg vs.toArray)
    (h : ∀ g w', Hid (g = w.heap.size) → Hid (C.Blk w' g t vs) → Hid (w.grownBy w' none) → K (a.put o.dst (.pointer (some ⟨g, 0, none⟩))) w') : o.wp Tryd.prog a w K Q := by
  have hb : C.Blk (w.alloc (.cells vs.toArray t)) w.heap.size t vs := C.Blk.of_alloc w vs.toArray t
  have hrun := run_boxG t w vs
  generalize (Value.agg vs.toArray) = zz at hrun hx
  unfold Oper.wp
  simp only [execOp, ho, hx, Sem.run_bind, hrun, Result.andThen_ok, Sem.run_pure]
  exact h _ _ rfl hb (World.grownBy_alloc w _ none)
theorem wpList_boxG (hgd : o.guard = none) (x : Operand) (ho : o.op = .box t x) (hx : a.eval x = .agg vs.toArray)
    (h : ∀ g w', Hid (g = w.heap.size) → Hid (C.Blk w' g t vs) → Hid (w.grownBy w' none) → wpList Tryd.prog ops Q rest (a.put o.dst (.pointer (some ⟨g, 0, none⟩))) w') : wpList Tryd.prog ops Q (o :: rest) a w :=
  wpList_plain hgd fun _ hK => wp_boxG x ho hx fun g w' h1 h2 h3 => hK _ _ (h g w' h1 h2 h3)
theorem wp_allocG (hZ : Ze t z) (ho : o.op = .alloc t)
    (h : ∀ g w', Hid (g = w.heap.size) → Hid (C.Blk w' g t z) → Hid (w.grownBy w' none) → K (a.put o.dst (.pointer (some ⟨g, 0, none⟩))) w') : o.wp Tryd.prog a w K Q := by
  have hb : C.Blk (w.alloc (.cells z.toArray t)) w.heap.size t z := C.Blk.of_alloc w z.toArray t
  have hrun := hZ.alloc w
  unfold Oper.wp
  simp only [execOp, ho, Sem.run_bind, hrun, Result.andThen_ok, Sem.run_pure]
  exact h _ _ rfl hb (World.grownBy_alloc w _ none)
theorem wpList_allocG (hZ : Ze t z) (hgd : o.guard = none) (ho : o.op = .alloc t)
    (h : ∀ g w', Hid (g = w.heap.size) → Hid (C.Blk w' g t z) → Hid (w.grownBy w' none) → wpList Tryd.prog ops Q rest (a.put o.dst (.pointer (some ⟨g, 0, none⟩))) w') : wpList Tryd.prog ops Q (o :: rest) a w :=
  wpList_plain hgd fun _ hK => wp_allocG hZ ho fun g w' h1 h2 h3 => hK _ _ (h g w' h1 h2 h3)
theorem wpList_zeroG (hZ : Ze t z) (hgd : o.guard = none) (ho : o.op = .build t #[])
    (h : wpList Tryd.prog ops Q rest (a.put o.dst (.agg z.toArray)) w) : wpList Tryd.prog ops Q (o :: rest) a w := by
  refine wpList_plain hgd fun K hK => ?_
  have hrun := hZ.build w
  unfold Oper.wp
  simp [execOp, ho, hrun, Result.andThen]
  exact hK _ _ h
theorem yieldsIf_zeroG (hZ : Ze t z) (hw : Region.wanted o (yielded ops a.tmps) = true) (ho : o.op = .build t #[]) : YieldsIf Tryd.prog ops S o (.agg z.toArray) a :=
  .inl ⟨hw, fun w _ => by
    have hrun := hZ.build w
    unfold execOp
    simp [ho, hrun, Result.andThen]⟩
theorem range_of (hb : C.Blk w g t vs) : w.rangeAt g 0 vs := fun j v hv => by rw [Nat.zero_add]; exact hb.get j v hv
theorem wp_loadG (hT : Ag t m) (x : Operand) (ho : o.op = .load t x) (g : Nat) (hx : a.eval x = .pointer (some ⟨g, 0, none⟩)) (hb : C.Blk w g t' vs) (hl : vs.length = m)
    (h : K (a.put o.dst (.agg vs.toArray)) w) : o.wp Tryd.prog a w K Q := by
  obtain ⟨d, hd, hr⟩ := hT.und
  exact wp_load_mid t x ho g 0 hx vs d (range_of hb) hd hr (by rw [hT.size, hl]) h
theorem wpList_loadG (hT : Ag t m) (hgd : o.guard = none) (x : Operand) (ho : o.op = .load t x) (g : Nat) (hx : a.eval x = .pointer (some ⟨g, 0, none⟩)) (hb : C.Blk w g t' vs) (hl : vs.length = m)
    (h : wpList Tryd.prog ops Q rest (a.put o.dst (.agg vs.toArray)) w) : wpList Tryd.prog ops Q (o :: rest) a w :=
  wpList_plain hgd fun _ hK => wp_loadG hT x ho g hx hb hl (hK _ _ h)
theorem wp_loadR (hT : Ag t m) (x : Operand) (ho : o.op = .load t x) (g i : Nat) (hx : a.eval x = .pointer (some ⟨g, i, none⟩)) (hb : w.rangeAt g i vs) (hl : vs.length = m)
    (h : K (a.put o.dst (.agg vs.toArray)) w) : o.wp Tryd.prog a w K Q := by
  obtain ⟨d, hd, hr⟩ := hT.und
  exact wp_load_mid t x ho g i hx vs d hb hd hr (by rw [hT.size, hl]) h
theorem wpList_loadR (hT : Ag t m) (hgd : o.guard = none) (x : Operand) (ho : o.op = .load t x) (g i : Nat) (hx : a.eval x = .pointer (some ⟨g, i, none⟩)) (hb : w.rangeAt g i vs) (hl : vs.length = m)
    (h : wpList Tryd.prog ops Q rest (a.put o.dst (.agg vs.toArray)) w) : wpList Tryd.prog ops Q (o :: rest) a w :=
  wpList_plain hgd fun _ hK => wp_loadR hT x ho g i hx hb hl (hK _ _ h)
theorem yieldsIf_loadR (hT : Ag t m) (hw : Region.wanted o (yielded ops a.tmps) = true) (x : Operand) (ho : o.op = .load t x) (g i : Nat) (hx : a.eval x = .pointer (some ⟨g, i, none⟩)) (hl : vs.length = m) (hS : ∀ w, S w → w.rangeAt g i vs) :
    YieldsIf Tryd.prog ops S o (.agg vs.toArray) a := by
  obtain ⟨d, hd, hr⟩ := hT.und
  exact yieldsIf_load_mid hw t x ho g i hx vs d hS hd hr (by rw [hT.size, hl])
theorem wp_storeG (hT : Ag t m) (x y : Operand) (ho : o.op = .store t x y) (g : Nat) (hx : a.eval x = .pointer (some ⟨g, 0, none⟩)) (hy : a.eval y = .agg vs.toArray) (hb : C.Blk w g t' old) (hol : old.length = m) (hl : vs.length = m) (h1 : ∀ u ∈ vs, u.oneCell' = true)
    (h : ∀ w', Hid (C.Blk w' g t' vs) → Hid (w.grownBy w' (some g)) → Hid (w'.heap.size = w.heap.size) → K (a.put o.dst undef) w') : o.wp Tryd.prog a w K Q := by
  refine wp_store_row t x y ho g _ hx hy t' _ hb (by rw [hT.size, List.size_toArray, hl]) (by rw [List.size_toArray, List.size_toArray, hl, hol]) (all_oneCell_toArray h1) ?_
  exact h _ (setRow_heap w g _ _ t' _ hb) ⟨rfl, rfl, rfl, by simp, fun i _ hi => setRow_other w g i _ fun e => hi (by rw [e])⟩ (by show _ = _; simp)
theorem wpList_storeG (hT : Ag t m) (hgd : o.guard = none) (x y : Operand) (ho : o.op = .store t x y) (g : Nat) (hx : a.eval x = .pointer (some ⟨g, 0, none⟩)) (hy : a.eval y = .agg vs.toArray) (hb : C.Blk w g t' old) (hol : old.length = m) (hl : vs.length = m) (h1 : ∀ u ∈ vs, u.oneCell' = true)
    (h : ∀ w', Hid (C.Blk w' g t' vs) → Hid (w.grownBy w' (some g)) → Hid (w'.heap.size = w.heap.size) → wpList Tryd.prog ops Q rest (a.put o.dst undef) w') : wpList Tryd.prog ops Q (o :: rest) a w :=
  wpList_plain hgd fun _ hK => wp_storeG hT x y ho g hx hy hb hol hl h1 fun w' h1 h2 h3 => hK _ _ (h w' h1 h2 h3)
end
theorem run_buildC_k (w : World) (k : Fin 32 → UInt8) (n : Int) : (Instr.build 40 #[(0, .agg (u8s (k32 k)).toArray), (1, .int .u16 n)]).run Tryd.prog w = .ok (.agg (u8s (k32 k) ++ [Value.int .u16 n]).toArray) w := by kernel_rfl
theorem run_buildC (w : World) {k : List UInt8} (hk : k.length = 32) (n : Nat) : (Instr.build 40 #[(0, .agg (u8s k).toArray), (1, .int .u16 (n : Int))]).run Tryd.prog w = .ok (.agg (rv k n).toArray) w := by
  obtain ⟨k, rfl⟩ := k32_of k hk
  exact run_buildC_k w k n
theorem run_buildK_k (w : World) (r k : Fin 32 → UInt8) (n : Int) : (Instr.build 49 #[(0, .agg (u8s (k32 r)).toArray), (1, .int .u16 n), (2, .agg (u8s (k32 k)).toArray)]).run Tryd.prog w = .ok (.agg (u8s (k32 r) ++ Value.int .u16 n :: u8s (k32 k)).toArray) w := by kernel_rfl
theorem run_buildK (w : World) {r k : List UInt8} (hr : r.length = 32) (hk : k.length = 32) (n : Nat) : (Instr.build 49 #[(0, .agg (u8s r).toArray), (1, .int .u16 (n : Int)), (2, .agg (u8s k).toArray)]).run Tryd.prog w = .ok (.agg (kv (r, n, k)).toArray) w := by
  obtain ⟨r, rfl⟩ := k32_of r hr
  obtain ⟨k, rfl⟩ := k32_of k hk
  exact run_buildK_k w r k n
theorem run_buildSliceK_k (w : World) (r k : Fin 32 → UInt8) (n : Int) : (Instr.buildSlice 47 1 #[(0, .agg (u8s (k32 r) ++ Value.int .u16 n :: u8s (k32 k)).toArray)]).run Tryd.prog w = .ok (.slice (some ⟨w.heap.size, 0, none⟩) 1 1) (w.alloc (.cells (u8s (k32 r) ++ Value.int .u16 n :: u8s (k32 k)).toArray 49)) := by kernel_rfl
theorem run_buildSliceK (w : World) {x : Kep} (hx : KOk x) : (Instr.buildSlice 47 1 #[(0, .agg (kv x).toArray)]).run Tryd.prog w = .ok (.slice (some ⟨w.heap.size, 0, none⟩) 1 1) (w.alloc (.cells (kv x).toArray 49)) := by
  obtain ⟨r, n, k⟩ := x
  obtain ⟨r, rfl⟩ := k32_of r hx.1
  obtain ⟨k, rfl⟩ := k32_of k hx.2.2
  exact run_buildSliceK_k w r k n
section
variable {w : World} {ops : Array Oper} {rest : List Oper} {S : World → Prop} {o : Oper} {a : Act} {K : Act → World → Prop} {Q : Exit → Act → World → Prop}
theorem yieldsIf_buildC (hw : Region.wanted o (yielded ops a.tmps) = true) (x y : Operand) (ho : o.op = .build 40 #[(0, x), (1, y)]) {k : List UInt8} (n : Nat) (hk : k.length = 32) (hx : a.eval x = .agg (u8s k).toArray) (hy : a.eval y = .int .u16 (n : Int)) : YieldsIf Tryd.prog ops S o (.agg (rv k n).toArray) a :=
  .inl ⟨hw, fun w _ => by
    have hrun := run_buildC w hk n
    generalize rv k n = z at *
    generalize u8s k = y' at *
    unfold execOp
    simp only [ho, List.map_toArray, List.map_cons, List.map_nil, hx, hy, Sem.run_bind, hrun, Result.andThen_ok, Sem.run_pure]⟩
theorem wpList_buildK (hgd : o.guard = none) (x y q : Operand) (ho : o.op = .build 49 #[(0, x), (1, y), (2, q)]) {r k : List UInt8} (n : Nat) (hr : r.length = 32) (hk : k.length = 32) (hx : a.eval x = .agg (u8s r).toArray) (hy : a.eval y = .int .u16 (n : Int)) (hq : a.eval q = .agg (u8s k).toArray)
    (h : wpList Tryd.prog ops Q rest (a.put o.dst (.agg (kv (r, n, k)).toArray)) w) : wpList Tryd.prog ops Q (o :: rest) a w := by
  refine wpList_plain hgd fun K hK => ?_
  have hrun := run_buildK w hr hk n
  generalize kv (r, n, k) = z at *
  generalize u8s k = y' at *
  generalize u8s r = r' at *
  unfold Oper.wp
  simp only [execOp, ho, List.map_toArray, List.map_cons, List.map_nil, hx, hy, hq, Sem.run_bind, hrun, Result.andThen_ok, Sem.run_pure]
  exact hK _ _ h
theorem wpList_sliceK (hgd : o.guard = none) (x : Operand) (ho : o.op = .buildSlice 47 1 #[(0, x)]) {y : Kep} (hy : KOk y) (hx : a.eval x = .agg (kv y).toArray)
    (h : ∀ g w', Hid (g = w.heap.size) → Hid (Kps w' (fun b => b = g) (some ⟨g, 0, none⟩) [y]) → Hid (w.grownBy w' none) → wpList Tryd.prog ops Q rest (a.put o.dst (.slice (some ⟨g, 0, none⟩) 1 1)) w') : wpList Tryd.prog ops Q (o :: rest) a w := by
  refine wpList_plain hgd fun K hK => ?_
  have hrun := run_buildSliceK w hy
  have hb : C.Blk (w.alloc (.cells (kv y).toArray 49)) w.heap.size 49 (kv y) := C.Blk.of_alloc w (kv y).toArray 49
  have hk : Hid (Kps (w.alloc (.cells (kv y).toArray 49)) (fun b => b = w.heap.size) (some ⟨w.heap.size, 0, none⟩) [y]) := fun i hi => by
    obtain rfl : i = 0 := by simpa using hi
    exact ⟨_, 0, rfl, rfl, by simpa using range_of hb⟩
  generalize kv y = z at *
  unfold Oper.wp
  simp only [execOp, ho, List.map_toArray, List.map_cons, List.map_nil, hx, Sem.run_bind, hrun, Result.andThen_ok, Sem.run_pure]
  exact hK _ _ (h _ _ rfl hk (World.grownBy_alloc w _ none))
end
/-- Results: values and places. -/
theorem res_place {t : TypeId} {m g : Nat} {vs : List Value} {w : World} (hT : Ag t m) (hb : C.Blk w g t vs) (hl : vs.length = m) : (loadVar t ⟨g, 0, none⟩).run Tryd.prog w = .ok (.agg vs.toArray) w := by
  obtain ⟨d, hd, hr⟩ := hT.und
  exact run_loadVar_mid w g 0 t vs d (range_of hb) hd hr (by rw [hT.size, hl])
section
variable {fn : Func} {tmps : Array Value} {w : World} {p q r : Tmp} {t t2 : TypeId} {m m2 g g2 : Nat} {vs us : List Value} {x y : Value}
theorem res_ccs (h : fn.results = #[.cell p t, .cell q t2, .tmp r]) (hT : Ag t m) (hT2 : Ag t2 m2) (hp : tmps.getD p undef = .pointer (some ⟨g, 0, none⟩)) (hq : tmps.getD q undef = .pointer (some ⟨g2, 0, none⟩)) (hr : tmps.getD r undef = x)
    (hb : C.Blk w g t vs) (hb2 : C.Blk w g2 t2 us) (hl : vs.length = m) (hl2 : us.length = m2) : (results fn tmps).run Tryd.prog w = .ok (.tuple #[.agg vs.toArray, .agg us.toArray, x]) w := by
  have hp' : tmps[p]?.getD undef = .pointer (some ⟨g, 0, none⟩) := by simpa using hp
  have hq' : tmps[q]?.getD undef = .pointer (some ⟨g2, 0, none⟩) := by simpa using hq
  have hr' : tmps[r]?.getD undef = x := by simpa using hr
  have h1 := res_place hT hb hl
  have h2 := res_place hT2 hb2 hl2
  generalize (Value.agg vs.toArray) = z1 at *
  generalize (Value.agg us.toArray) = z2 at *
  simp [results, h, hp', hq', hr', asAddr, h1, h2]
theorem res_css (h : fn.results = #[.cell p t, .tmp q, .tmp r]) (hT : Ag t m) (hp : tmps.getD p undef = .pointer (some ⟨g, 0, none⟩)) (hq : tmps.getD q undef = y) (hr : tmps.getD r undef = x)
    (hb : C.Blk w g t vs) (hl : vs.length = m) : (results fn tmps).run Tryd.prog w = .ok (.tuple #[.agg vs.toArray, y, x]) w := by
  have hp' : tmps[p]?.getD undef = .pointer (some ⟨g, 0, none⟩) := by simpa using hp
  have hq' : tmps[q]?.getD undef = y := by simpa using hq
  have hr' : tmps[r]?.getD undef = x := by simpa using hr
  have h1 := res_place hT hb hl
  generalize (Value.agg vs.toArray) = z1 at *
  simp [results, h, hp', hq', hr', asAddr, h1]
theorem res_scs (h : fn.results = #[.tmp q, .cell p t, .tmp r]) (hT : Ag t m) (hp : tmps.getD p undef = .pointer (some ⟨g, 0, none⟩)) (hq : tmps.getD q undef = y) (hr : tmps.getD r undef = x)
    (hb : C.Blk w g t vs) (hl : vs.length = m) : (results fn tmps).run Tryd.prog w = .ok (.tuple #[y, .agg vs.toArray, x]) w := by
  have hp' : tmps[p]?.getD undef = .pointer (some ⟨g, 0, none⟩) := by simpa using hp
  have hq' : tmps[q]?.getD undef = y := by simpa using hq
  have hr' : tmps[r]?.getD undef = x := by simpa using hr
  have h1 := res_place hT hb hl
  generalize (Value.agg vs.toArray) = z1 at *
  simp [results, h, hp', hq', hr', asAddr, h1]
end
end Go.Proofs.YtdnkeaokgkiloaaDoor
