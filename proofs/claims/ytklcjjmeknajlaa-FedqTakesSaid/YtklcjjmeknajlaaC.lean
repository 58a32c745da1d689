/- Values of several cells: made, loaded, stored, in regions that draw their order, too; results of several; compared. Conditions: none. -/
import Derived.Test.YtklcjjmeknajlaaB
import Derived.Stop.BytesEq
namespace Go.Proofs.Ytklcjjmeknajlaa
open Go.RowKit
/-- A type whose values are m cells. -/
structure Ag (t : TypeId) (m : Nat) : Prop where
  size : (Try.prog.info? t).map (·.size) = some m
  und : ∃ d, Try.prog.underlying t = some d ∧ d.isRow = true
/-- Its zero. -/
structure Ze (t : TypeId) (z : List Value) : Prop where
  alloc : ∀ w, (Instr.alloc t true (.tuple #[])).run Try.prog w = .ok (.pointer (some ⟨w.heap.size, 0, none⟩)) (w.alloc (.cells z.toArray t))
  build : ∀ w, (Instr.build t #[]).run Try.prog w = .ok (.agg z.toArray) w
/-- A queue: its items, how many of them are under way, its number, Wait, Back; a transaction; a writer; shapes. -/
def qv (v : Value) (s i wa ba : Int) : List Value := [v, .int .i64 s, .int .u16 i, .int .u8 wa, .int .u8 ba]
def tv (i : Int) (v : Value) : List Value := [.int .u16 i, v]
def wv (v : Value) : List Value := [v, .bool false]
def sv (k a p : Int) : List Value := .int .u8 k :: .int .u8 a :: .int .u8 p :: (lz (.int .i64 0) ++ (bz ++ oz (.int .i64 0)))
theorem sv_length (k a p : Int) : (sv k a p).length = 433 := by kernel_rfl
theorem agQ : Ag 29 5 := ⟨by kernel_rfl, _, Try.underlying29, rfl⟩
theorem agT : Ag 52 2 := ⟨by kernel_rfl, _, Try.underlying52, rfl⟩
theorem agI : Ag 49 433 := ⟨by kernel_rfl, _, Try.underlying49, rfl⟩
theorem agL : Ag 39 167 := ⟨by kernel_rfl, _, Try.underlying39, rfl⟩
theorem agB : Ag 43 162 := ⟨by kernel_rfl, _, Try.underlying43, rfl⟩
theorem agO : Ag 47 101 := ⟨by kernel_rfl, _, Try.underlying47, rfl⟩
theorem agH : Ag 36 164 := ⟨by kernel_rfl, _, Try.underlying36, rfl⟩
theorem agK : Ag 34 32 := ⟨by kernel_rfl, _, Try.underlying34, rfl⟩
theorem agG : Ag 41 64 := ⟨by kernel_rfl, _, Try.underlying41, rfl⟩
theorem agLs : Ag 75 167 := ⟨by kernel_rfl, _, Try.underlying75, rfl⟩
theorem agOs : Ag 77 101 := ⟨by kernel_rfl, _, Try.underlying77, rfl⟩
theorem agS : Ag 79 433 := ⟨by kernel_rfl, _, Try.underlying79, rfl⟩
theorem agW : Ag 67 2 := ⟨by kernel_rfl, _, Try.underlying67, rfl⟩
theorem zeQ : Ze 29 (qv nl 0 0 0 0) := ⟨fun _ => by kernel_rfl, fun _ => by kernel_rfl⟩
theorem zeT : Ze 52 (tv 0 nl) := ⟨fun _ => by kernel_rfl, fun _ => by kernel_rfl⟩
theorem zeI : Ze 49 (ic 0 0 0) := ⟨fun _ => by kernel_rfl, fun _ => by kernel_rfl⟩
theorem zeLs : Ze 75 (lz (.int .i64 0)) := ⟨fun _ => by kernel_rfl, fun _ => by kernel_rfl⟩
theorem zeOs : Ze 77 (oz (.int .i64 0)) := ⟨fun _ => by kernel_rfl, fun _ => by kernel_rfl⟩
theorem zeS : Ze 79 (sv 0 0 0) := ⟨fun _ => by kernel_rfl, fun _ => by kernel_rfl⟩
theorem zeW : Ze 67 (wv nl) := ⟨fun _ => by kernel_rfl, fun _ => by kernel_rfl⟩
theorem run_boxG (t : TypeId) (w : World) (vs : List Value) : (Instr.box t (.agg vs.toArray)).run Try.prog w = .ok (.pointer (some ⟨w.heap.size, 0, none⟩)) (w.alloc (.cells vs.toArray t)) := by
  simp only [Instr.box, newVar, newRow, Sem.run_bind, run_newObj_alloc, Sem.run_pure, Result.andThen_ok, Value.cells]
section
variable {w : World} {ops : Array Oper} {rest : List Oper} {S : World → Prop} {o : Oper} {a : Act} {K : Act → World → Prop} {Q : Exit → Act → World → Prop} {t t' : TypeId} {m g : Nat} {vs z old : List Value}
theorem wp_boxG (x : Operand) (ho : o.op = .box t x) (hx : a.eval x = .agg vs.toArray)
    (h : ∀ g w', Hid (g = w.heap.size) → Hid (Blk w' g t vs) → Hid (w.grownBy w' none) → K (a.put o.dst (.pointer (some ⟨g, 0, none⟩))) w') : o.wp Try.prog a w K Q := by
  have hb : Blk (w.alloc (.cells vs.toArray t)) w.heap.size t vs := Blk.of_alloc w vs.toArray t
  have hrun := run_boxG t w vs
  generalize (Value.agg vs.toArray) = zz at hrun hx
  unfold Oper.wp
  simp only [execOp, ho, hx, Sem.run_bind, hrun, Result.andThen_ok, Sem.run_pure]
  exact h _ _ rfl hb (World.grownBy_alloc w _ none)
theorem wpList_boxG (hgd : o.guard = none) (x : Operand) (ho : o.op = .box t x) (hx : a.eval x = .agg vs.toArray)
    (h : ∀ g w', Hid (g = w.heap.size) → Hid (Blk w' g t vs) → Hid (w.grownBy w' none) → wpList Try.prog ops Q rest (a.put o.dst (.pointer (some ⟨g, 0, none⟩))) w') : wpList Try.prog ops Q (o :: rest) a w :=
  wpList_plain hgd fun _ hK => wp_boxG x ho hx fun g w' h1 h2 h3 => hK _ _ (h g w' h1 h2 h3)
theorem wp_allocG (hZ : Ze t z) (ho : o.op = .alloc t)
    (h : ∀ g w', Hid (g = w.heap.size) → Hid (Blk w' g t z) → Hid (w.grownBy w' none) → K (a.put o.dst (.pointer (some ⟨g, 0, none⟩))) w') : o.wp Try.prog a w K Q := by
  have hb : Blk (w.alloc (.cells z.toArray t)) w.heap.size t z := Blk.of_alloc w z.toArray t
  have hrun := hZ.alloc w
  unfold Oper.wp
  simp only [execOp, ho, Sem.run_bind, hrun, Result.andThen_ok, Sem.run_pure]
  exact h _ _ rfl hb (World.grownBy_alloc w _ none)
theorem wpList_allocG (hZ : Ze t z) (hgd : o.guard = none) (ho : o.op = .alloc t)
    (h : ∀ g w', Hid (g = w.heap.size) → Hid (Blk w' g t z) → Hid (w.grownBy w' none) → wpList Try.prog ops Q rest (a.put o.dst (.pointer (some ⟨g, 0, none⟩))) w') : wpList Try.prog ops Q (o :: rest) a w :=
  wpList_plain hgd fun _ hK => wp_allocG hZ ho fun g w' h1 h2 h3 => hK _ _ (h g w' h1 h2 h3)
theorem wpList_zeroG (hZ : Ze t z) (hgd : o.guard = none) (ho : o.op = .build t #[])
    (h : wpList Try.prog ops Q rest (a.put o.dst (.agg z.toArray)) w) : wpList Try.prog ops Q (o :: rest) a w := by
  refine wpList_plain hgd fun K hK => ?_
  have hrun := hZ.build w
  unfold Oper.wp
  simp [execOp, ho, hrun, Result.andThen]
  exact hK _ _ h
theorem yieldsIf_zeroG (hZ : Ze t z) (hw : Region.wanted o (yielded ops a.tmps) = true) (ho : o.op = .build t #[]) : YieldsIf Try.prog ops S o (.agg z.toArray) a :=
  .inl ⟨hw, fun w _ => by
    have hrun := hZ.build w
    unfold execOp
    simp [ho, hrun, Result.andThen]⟩
theorem range_of (hb : Blk w g t vs) : w.rangeAt g 0 vs := fun j v hv => by rw [Nat.zero_add]; exact hb.get j v hv
theorem wp_loadG (hT : Ag t m) (x : Operand) (ho : o.op = .load t x) (g : Nat) (hx : a.eval x = .pointer (some ⟨g, 0, none⟩)) (hb : Blk w g t' vs) (hl : vs.length = m)
    (h : K (a.put o.dst (.agg vs.toArray)) w) : o.wp Try.prog a w K Q := by
  obtain ⟨d, hd, hr⟩ := hT.und
  exact wp_load_mid t x ho g 0 hx vs d (range_of hb) hd hr (by rw [hT.size, hl]) h
theorem wpList_loadG (hT : Ag t m) (hgd : o.guard = none) (x : Operand) (ho : o.op = .load t x) (g : Nat) (hx : a.eval x = .pointer (some ⟨g, 0, none⟩)) (hb : Blk w g t' vs) (hl : vs.length = m)
    (h : wpList Try.prog ops Q rest (a.put o.dst (.agg vs.toArray)) w) : wpList Try.prog ops Q (o :: rest) a w :=
  wpList_plain hgd fun _ hK => wp_loadG hT x ho g hx hb hl (hK _ _ h)
theorem wp_loadR (hT : Ag t m) (x : Operand) (ho : o.op = .load t x) (g i : Nat) (hx : a.eval x = .pointer (some ⟨g, i, none⟩)) (hb : w.rangeAt g i vs) (hl : vs.length = m)
    (h : K (a.put o.dst (.agg vs.toArray)) w) : o.wp Try.prog a w K Q := by
  obtain ⟨d, hd, hr⟩ := hT.und
  exact wp_load_mid t x ho g i hx vs d hb hd hr (by rw [hT.size, hl]) h
theorem wpList_loadR (hT : Ag t m) (hgd : o.guard = none) (x : Operand) (ho : o.op = .load t x) (g i : Nat) (hx : a.eval x = .pointer (some ⟨g, i, none⟩)) (hb : w.rangeAt g i vs) (hl : vs.length = m)
    (h : wpList Try.prog ops Q rest (a.put o.dst (.agg vs.toArray)) w) : wpList Try.prog ops Q (o :: rest) a w :=
  wpList_plain hgd fun _ hK => wp_loadR hT x ho g i hx hb hl (hK _ _ h)
theorem yieldsIf_loadR (hT : Ag t m) (hw : Region.wanted o (yielded ops a.tmps) = true) (x : Operand) (ho : o.op = .load t x) (g i : Nat) (hx : a.eval x = .pointer (some ⟨g, i, none⟩)) (hl : vs.length = m) (hS : ∀ w, S w → w.rangeAt g i vs) :
    YieldsIf Try.prog ops S o (.agg vs.toArray) a := by
  obtain ⟨d, hd, hr⟩ := hT.und
  exact yieldsIf_load_mid hw t x ho g i hx vs d hS hd hr (by rw [hT.size, hl])
theorem wp_storeG (hT : Ag t m) (x y : Operand) (ho : o.op = .store t x y) (g : Nat) (hx : a.eval x = .pointer (some ⟨g, 0, none⟩)) (hy : a.eval y = .agg vs.toArray) (hb : Blk w g t' old) (hol : old.length = m) (hl : vs.length = m) (h1 : ∀ u ∈ vs, u.oneCell' = true)
    (h : ∀ w', Hid (Blk w' g t' vs) → Hid (w.grownBy w' (some g)) → Hid (w'.heap.size = w.heap.size) → K (a.put o.dst undef) w') : o.wp Try.prog a w K Q := by
  refine wp_store_row t x y ho g _ hx hy t' _ hb (by rw [hT.size, List.size_toArray, hl]) (by rw [List.size_toArray, List.size_toArray, hl, hol]) (all_oneCell_toArray h1) ?_
  exact h _ (setRow_heap w g _ _ t' _ hb) ⟨rfl, rfl, rfl, by simp, fun i _ hi => setRow_other w g i _ fun e => hi (by rw [e])⟩ (by show _ = _; simp)
theorem wpList_storeG (hT : Ag t m) (hgd : o.guard = none) (x y : Operand) (ho : o.op = .store t x y) (g : Nat) (hx : a.eval x = .pointer (some ⟨g, 0, none⟩)) (hy : a.eval y = .agg vs.toArray) (hb : Blk w g t' old) (hol : old.length = m) (hl : vs.length = m) (h1 : ∀ u ∈ vs, u.oneCell' = true)
    (h : ∀ w', Hid (Blk w' g t' vs) → Hid (w.grownBy w' (some g)) → Hid (w'.heap.size = w.heap.size) → wpList Try.prog ops Q rest (a.put o.dst undef) w') : wpList Try.prog ops Q (o :: rest) a w :=
  wpList_plain hgd fun _ hK => wp_storeG hT x y ho g hx hy hb hol hl h1 fun w' h1 h2 h3 => hK _ _ (h w' h1 h2 h3)
end
/-- Results: values and places. -/
theorem res_place {t : TypeId} {m g : Nat} {vs : List Value} {w : World} (hT : Ag t m) (hb : Blk w g t vs) (hl : vs.length = m) : (loadVar t ⟨g, 0, none⟩).run Try.prog w = .ok (.agg vs.toArray) w := by
  obtain ⟨d, hd, hr⟩ := hT.und
  exact run_loadVar_mid w g 0 t vs d (range_of hb) hd hr (by rw [hT.size, hl])
section
variable {fn : Func} {tmps : Array Value} {w : World} {p q r : Tmp} {t t2 : TypeId} {m m2 g g2 : Nat} {vs us : List Value} {x y : Value}
theorem res_ccs (h : fn.results = #[.cell p t, .cell q t2, .tmp r]) (hT : Ag t m) (hT2 : Ag t2 m2) (hp : tmps.getD p undef = .pointer (some ⟨g, 0, none⟩)) (hq : tmps.getD q undef = .pointer (some ⟨g2, 0, none⟩)) (hr : tmps.getD r undef = x)
    (hb : Blk w g t vs) (hb2 : Blk w g2 t2 us) (hl : vs.length = m) (hl2 : us.length = m2) : (results fn tmps).run Try.prog w = .ok (.tuple #[.agg vs.toArray, .agg us.toArray, x]) w := by
  have hp' : tmps[p]?.getD undef = .pointer (some ⟨g, 0, none⟩) := by simpa using hp
  have hq' : tmps[q]?.getD undef = .pointer (some ⟨g2, 0, none⟩) := by simpa using hq
  have hr' : tmps[r]?.getD undef = x := by simpa using hr
  have h1 := res_place hT hb hl
  have h2 := res_place hT2 hb2 hl2
  generalize (Value.agg vs.toArray) = z1 at *
  generalize (Value.agg us.toArray) = z2 at *
  simp [results, h, hp', hq', hr', asAddr, h1, h2]
theorem res_css (h : fn.results = #[.cell p t, .tmp q, .tmp r]) (hT : Ag t m) (hp : tmps.getD p undef = .pointer (some ⟨g, 0, none⟩)) (hq : tmps.getD q undef = y) (hr : tmps.getD r undef = x)
    (hb : Blk w g t vs) (hl : vs.length = m) : (results fn tmps).run Try.prog w = .ok (.tuple #[.agg vs.toArray, y, x]) w := by
  have hp' : tmps[p]?.getD undef = .pointer (some ⟨g, 0, none⟩) := by simpa using hp
  have hq' : tmps[q]?.getD undef = y := by simpa using hq
  have hr' : tmps[r]?.getD undef = x := by simpa using hr
  have h1 := res_place hT hb hl
  generalize (Value.agg vs.toArray) = z1 at *
  simp [results, h, hp', hq', hr', asAddr, h1]
theorem res_scs (h : fn.results = #[.tmp q, .cell p t, .tmp r]) (hT : Ag t m) (hp : tmps.getD p undef = .pointer (some ⟨g, 0, none⟩)) (hq : tmps.getD q undef = y) (hr : tmps.getD r undef = x)
    (hb : Blk w g t vs) (hl : vs.length = m) : (results fn tmps).run Try.prog w = .ok (.tuple #[y, .agg vs.toArray, x]) w := by
  have hp' : tmps[p]?.getD undef = .pointer (some ⟨g, 0, none⟩) := by simpa using hp
  have hq' : tmps[q]?.getD undef = y := by simpa using hq
  have hr' : tmps[r]?.getD undef = x := by simpa using hr
  have h1 := res_place hT hb hl
  generalize (Value.agg vs.toArray) = z1 at *
  simp [results, h, hp', hq', hr', asAddr, h1]
end
/-- A type whose values are told apart: a value is itself. -/
structure Eqs (t : TypeId) (vs : List Value) : Prop where
  same : ∀ w, (Op.equalIn 10000 t (.agg vs.toArray) (.agg vs.toArray)).run Try.prog w = .ok true w
  guard : Try.prog.eqGuardType Try.prog.depth t = false
section
variable {w : World} {ops : Array Oper} {rest : List Oper} {S : World → Prop} {o : Oper} {a : Act} {K : Act → World → Prop} {Q : Exit → Act → World → Prop} {t : TypeId} {vs : List Value}
theorem yieldsIf_eqs (hE : Eqs t vs) (hw : Region.wanted o (yielded ops a.tmps) = true) (x y : Operand) (ho : o.op = .binOp .eql t x y t) (hx : a.eval x = .agg vs.toArray) (hy : a.eval y = .agg vs.toArray) : YieldsIf Try.prog ops S o (.bool true) a :=
  .inl ⟨hw, fun w _ => by
    have hrun : (binOp .eql t (.agg vs.toArray) (.agg vs.toArray)).run Try.prog w = .ok (.bool true) w := by rw [run_eql_struct, hE.same]; rfl
    unfold execOp
    simp only [ho, hx, hy, hrun, run_eqGuard_agg _ _ _ _ _ _ _ hE.guard, Sem.run_bind, Sem.run_pure, Result.andThen_ok]⟩
theorem yieldsIf_neqs (hE : Eqs t vs) (hw : Region.wanted o (yielded ops a.tmps) = true) (x y : Operand) (ho : o.op = .binOp .neq t x y t) (hx : a.eval x = .agg vs.toArray) (hy : a.eval y = .agg vs.toArray) : YieldsIf Try.prog ops S o (.bool false) a :=
  .inl ⟨hw, fun w _ => by
    have hrun : (binOp .neq t (.agg vs.toArray) (.agg vs.toArray)).run Try.prog w = .ok (.bool false) w := by rw [run_neq_struct, hE.same]; rfl
    unfold execOp
    simp only [ho, hx, hy, hrun, run_eqGuard_agg _ _ _ _ _ _ _ hE.guard, Sem.run_bind, Sem.run_pure, Result.andThen_ok]⟩
theorem wpList_eqs (hE : Eqs t vs) (hw : Region.wanted o (yielded ops a.tmps) = true) (x y : Operand) (ho : o.op = .binOp .eql t x y t) (hx : a.eval x = .agg vs.toArray) (hy : a.eval y = .agg vs.toArray) (h : wpList Try.prog ops Q rest (a.put o.dst (.bool true)) w) : wpList Try.prog ops Q (o :: rest) a w :=
  wpList_step fun K hK => by
    have hrun : (binOp .eql t (.agg vs.toArray) (.agg vs.toArray)).run Try.prog w = .ok (.bool true) w := by rw [run_eql_struct, hE.same]; rfl
    rw [if_pos hw]
    unfold Oper.wp execOp
    simp only [ho, hx, hy, hrun, run_eqGuard_agg _ _ _ _ _ _ _ hE.guard, Sem.run_bind, Sem.run_pure, Result.andThen_ok]
    exact hK _ _ h
theorem wpList_neqs (hE : Eqs t vs) (hw : Region.wanted o (yielded ops a.tmps) = true) (x y : Operand) (ho : o.op = .binOp .neq t x y t) (hx : a.eval x = .agg vs.toArray) (hy : a.eval y = .agg vs.toArray) (h : wpList Try.prog ops Q rest (a.put o.dst (.bool false)) w) : wpList Try.prog ops Q (o :: rest) a w :=
  wpList_step fun K hK => by
    have hrun : (binOp .neq t (.agg vs.toArray) (.agg vs.toArray)).run Try.prog w = .ok (.bool false) w := by rw [run_neq_struct, hE.same]; rfl
    rw [if_pos hw]
    unfold Oper.wp execOp
    simp only [ho, hx, hy, hrun, run_eqGuard_agg _ _ _ _ _ _ _ hE.guard, Sem.run_bind, Sem.run_pure, Result.andThen_ok]
    exact hK _ _ h
end
end Go.Proofs.Ytklcjjmeknajlaa
