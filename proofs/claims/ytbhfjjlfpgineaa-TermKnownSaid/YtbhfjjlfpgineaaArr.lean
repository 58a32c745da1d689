/- Arrays of 32 bytes in memory: made, stored, loaded, copied into. Conditions: none. -/
import Derived.Test.YtbhfjjlfpgineaaSplit
import Derived.Test.YtbhfjjlfpgineaaTMath
import Derived.Deep.MidRow
import Derived.Stop.BytesEq
import Derived.Laws.CopyOwn
import Derived.Lib.BufferWrite
namespace Go.Proofs.Ytbhfjjlfpgineaa
open Go.RowKit

/-- 32 bytes 0. -/
def z32 : List UInt8 := List.replicate 32 0
theorem z32_length : z32.length = 32 := by simp [z32]
/-- Block g is an array, of that type, of these bytes. -/
def Arr (w : World) (T : TypeId) (g : Nat) (xs : List UInt8) : Prop := w.heap[g]? = some (.cells (u8s xs).toArray T (0, 0))
/-- The types that are arrays of 32 bytes. -/
def Is32 (T : TypeId) : Prop := T = 34 ∨ T = 49
theorem size34 : (Try.prog.info? 34).map (·.size) = some 32 := by kernel_rfl
theorem size49 : (Try.prog.info? 49).map (·.size) = some 32 := by kernel_rfl
theorem Is32.size {T : TypeId} (h : Is32 T) : (Try.prog.info? T).map (·.size) = some 32 := by rcases h with rfl | rfl; exact size34; exact size49
theorem Is32.und {T : TypeId} (h : Is32 T) : Try.prog.underlying T = some (.array 32 5) := by rcases h with rfl | rfl; exact Try.underlying34; exact Try.underlying49
theorem run_alloc34 (w : World) : (Instr.alloc 34 true (.tuple #[])).run Try.prog w = .ok (.pointer (some ⟨w.heap.size, 0, none⟩)) (w.alloc (.cells (u8s z32).toArray 34)) := by kernel_rfl
theorem run_alloc49 (w : World) : (Instr.alloc 49 true (.tuple #[])).run Try.prog w = .ok (.pointer (some ⟨w.heap.size, 0, none⟩)) (w.alloc (.cells (u8s z32).toArray 49)) := by kernel_rfl
theorem run_build34 (w : World) : (Instr.build 34 #[]).run Try.prog w = .ok (.agg (u8s z32).toArray) w := by kernel_rfl
theorem run_build49 (w : World) : (Instr.build 49 #[]).run Try.prog w = .ok (.agg (u8s z32).toArray) w := by kernel_rfl
theorem Is32.alloc {T : TypeId} (h : Is32 T) (w : World) : (Instr.alloc T true (.tuple #[])).run Try.prog w = .ok (.pointer (some ⟨w.heap.size, 0, none⟩)) (w.alloc (.cells (u8s z32).toArray T)) := by rcases h with rfl | rfl; exact run_alloc34 w; exact run_alloc49 w
theorem Is32.build {T : TypeId} (h : Is32 T) (w : World) : (Instr.build T #[]).run Try.prog w = .ok (.agg (u8s z32).toArray) w := by rcases h with rfl | rfl; exact run_build34 w; exact run_build49 w
/-- An array of 32 bytes, cell by cell. -/
def k32 (k : Fin 32 → UInt8) : List UInt8 := (List.finRange 32).map k
theorem k32_of (xs : List UInt8) (h : xs.length = 32) : ∃ k, xs = k32 k := by
  refine ⟨fun i => xs[i.1]'(by omega), ?_⟩
  apply List.ext_getElem
  · simp [k32, h]
  · intro j h1 h2
    simp [k32]
theorem run_box34 (w : World) (k : Fin 32 → UInt8) : (Instr.box 34 (.agg (u8s (k32 k)).toArray)).run Try.prog w = .ok (.pointer (some ⟨w.heap.size, 0, none⟩)) (w.alloc (.cells (u8s (k32 k)).toArray 34)) := by kernel_rfl
theorem run_box49 (w : World) (k : Fin 32 → UInt8) : (Instr.box 49 (.agg (u8s (k32 k)).toArray)).run Try.prog w = .ok (.pointer (some ⟨w.heap.size, 0, none⟩)) (w.alloc (.cells (u8s (k32 k)).toArray 49)) := by kernel_rfl
theorem Is32.box {T : TypeId} (h : Is32 T) (w : World) (xs : List UInt8) (hl : xs.length = 32) : (Instr.box T (.agg (u8s xs).toArray)).run Try.prog w = .ok (.pointer (some ⟨w.heap.size, 0, none⟩)) (w.alloc (.cells (u8s xs).toArray T)) := by
  obtain ⟨k, rfl⟩ := k32_of xs hl
  rcases h with rfl | rfl
  · exact run_box34 w k
  · exact run_box49 w k
theorem i34 : Is32 34 := .inl rfl
theorem i49 : Is32 49 := .inr rfl

section
variable {w : World} {ops : Array Oper} {rest : List Oper} {o : Oper} {a : Act} {Q : Exit → Act → World → Prop} {T : TypeId}
theorem wpList_alloc32 (hT : Is32 T) (hgd : o.guard = none) (ho : o.op = .alloc T)
    (h : ∀ w', Arr w' T w.heap.size z32 → Below w.heap.size w w' → w'.heap.size = w.heap.size + 1 → wpList Try.prog ops Q rest (a.put o.dst (.pointer (some ⟨w.heap.size, 0, none⟩))) w') : wpList Try.prog ops Q (o :: rest) a w := by
  refine wpList_plain hgd fun K hK => ?_
  have hrun := hT.alloc w
  unfold Oper.wp
  simp [execOp, ho, hrun, Result.andThen]
  exact hK _ _ (h _ (heap_alloc_new w _) ((Below.refl _ _).alloc (Nat.le_refl _) _) (by simp))
theorem wpList_box32 (hT : Is32 T) (hgd : o.guard = none) (x : Operand) (ho : o.op = .box T x) (xs : List UInt8) (hx : a.eval x = .agg (u8s xs).toArray) (hl : xs.length = 32)
    (h : ∀ w', Hid (Arr w' T w.heap.size xs) → Below w.heap.size w w' → w'.heap.size = w.heap.size + 1 → wpList Try.prog ops Q rest (a.put o.dst (.pointer (some ⟨w.heap.size, 0, none⟩))) w') : wpList Try.prog ops Q (o :: rest) a w := by
  refine wpList_plain hgd fun K hK => ?_
  have hrun := hT.box w xs hl
  have hb : Hid (Arr (w.alloc (.cells (u8s xs).toArray T)) T w.heap.size xs) := heap_alloc_new w _
  generalize (Value.agg (u8s xs).toArray) = z at hrun hx
  unfold Oper.wp
  simp only [execOp, ho, hx, Sem.run_bind, hrun, Result.andThen_ok, Sem.run_pure]
  exact hK _ _ (h _ hb ((Below.refl _ _).alloc (Nat.le_refl _) _) (by simp))
theorem wpList_build32 (hT : Is32 T) (hgd : o.guard = none) (ho : o.op = .build T #[])
    (h : wpList Try.prog ops Q rest (a.put o.dst (.agg (u8s z32).toArray)) w) : wpList Try.prog ops Q (o :: rest) a w := by
  refine wpList_plain hgd fun K hK => ?_
  have hrun := hT.build w
  unfold Oper.wp
  simp [execOp, ho, hrun, Result.andThen]
  exact hK _ _ h
theorem wpList_store32 (hT : Is32 T) (hgd : o.guard = none) (x y : Operand) (ho : o.op = .store T x y) (g : Nat) (xs ys : List UInt8) (hx : a.eval x = .pointer (some ⟨g, 0, none⟩)) (hy : a.eval y = .agg (u8s ys).toArray)
    (hk : Arr w T g xs) (hxl : xs.length = 32) (hyl : ys.length = 32) (B : Nat) (hB : B ≤ g)
    (h : ∀ w', Arr w' T g ys → Below B w w' → (∀ i, i ≠ g → w'.heap[i]? = w.heap[i]?) → w'.heap.size = w.heap.size → wpList Try.prog ops Q rest (a.put o.dst undef) w') : wpList Try.prog ops Q (o :: rest) a w := by
  refine wpList_store_row hgd T x y ho g _ hx hy T _ hk (by simp [hT.size, u8s_length, hyl]) (by simp [u8s_length, hxl, hyl]) (all_oneCell_toArray (u8s_one ys)) ?_
  have hoth : ∀ i, i ≠ g → (w.setRow g (u8s ys).toArray).heap[i]? = w.heap[i]? := fun i hi => setRow_other w g i _ hi
  exact h _ (setRow_heap w g _ _ T _ hk) ⟨rfl, rfl, rfl, by simp, fun i hi => hoth i (by omega)⟩ hoth (by simp)
theorem wpList_load32 (hT : Is32 T) (hw : Region.wanted o (yielded ops a.tmps) = true) (x : Operand) (ho : o.op = .load T x) (g : Nat) (hx : a.eval x = .pointer (some ⟨g, 0, none⟩))
    (ks : List UInt8) (hk : Arr w T g ks) (hl : ks.length = 32) (h : wpList Try.prog ops Q rest (a.put o.dst (.agg (u8s ks).toArray)) w) : wpList Try.prog ops Q (o :: rest) a w :=
  wpList_step fun K hK => by
    rw [if_pos hw]
    exact wp_load_row T x ho g hx T _ (0, 0) _ hk hT.und rfl (by simp [hT.size, u8s_length, hl]) (hK _ _ h)
/-- A text that is copied into a block. -/
theorem wpList_copy_text (hgd : o.guard = none) (d s : Operand) (dT : TypeId) (ho : o.op = .call { callee := .builtin .copy, args := #[d, s], argTypes := #[dT, 9] }) (hu : Try.prog.underlying dT = some (.slice 5))
    (g off dLen dCap : Nat) (t : List UInt8) (hd : a.eval d = .slice (some ⟨g, off, none⟩) dLen dCap) (hs : a.eval s = .string ⟨t.toArray⟩) (pre mid post : List UInt8) (hk : Arr w T g (pre ++ mid ++ post)) (hp : pre.length = off) (hm : mid.length = t.length) (hle : t.length ≤ dLen) (B : Nat) (hB : B ≤ g)
    (h : ∀ w', Hid (Arr w' T g (pre ++ t ++ post)) → Below B w w' → (∀ i, i ≠ g → w'.heap[i]? = w.heap[i]?) → w'.heap.size = w.heap.size → wpList Try.prog ops Q rest (a.put o.dst (goInt t.length)) w') : wpList Try.prog ops Q (o :: rest) a w := by
  subst hp
  refine wpList_plain hgd fun K hK => ?_
  have hsz : (⟨t.toArray⟩ : ByteArray).size = t.length := rfl
  have hrun := Lib.run_copy_row_string (P := Try.prog) w dT 9 o.type 5 g pre.length dLen dCap ⟨t.toArray⟩ _ T hu (by kernel_rfl) hk (by rw [hsz]; exact hle) (by rw [hsz]; simp [u8s_length]; omega)
  have e : ((u8s (pre ++ mid ++ post)).toArray.toList.take pre.length ++ Lib.byteCells t ++ (u8s (pre ++ mid ++ post)).toArray.toList.drop (pre.length + t.length)) = u8s (pre ++ t ++ post) := by
    show (u8s (pre ++ mid ++ post)).take pre.length ++ u8s t ++ (u8s (pre ++ mid ++ post)).drop (pre.length + t.length) = _
    rw [u8s_append, u8s_append, u8s_append, u8s_append, List.append_assoc (u8s pre), List.take_left' (u8s_length pre), ← hm, ← List.append_assoc (u8s pre), List.drop_left' (by rw [List.length_append, u8s_length, u8s_length])]
  have hrun' : (Builtin.copy_ #[dT, 9] o.type #[.slice (some ⟨g, pre.length, none⟩) dLen dCap, .string ⟨t.toArray⟩]).run Try.prog w = .ok (goInt t.length) (w.setRow g (u8s (pre ++ t ++ post)).toArray) := by
    rw [← e]; exact hrun
  have hoth : ∀ i, i ≠ g → (w.setRow g (u8s (pre ++ t ++ post)).toArray).heap[i]? = w.heap[i]? := fun i hi => setRow_other w g i _ hi
  unfold Oper.wp execOp
  simp only [ho, resolve, invoke, builtin, Sem.run_bind, Sem.run_pure, Result.andThen_ok, List.map_toArray, List.map_cons, List.map_nil, hd, hs, hrun']
  exact hK _ _ (h _ (setRow_heap w g _ _ T _ hk) ⟨rfl, rfl, rfl, by simp [World.setRow], fun i hi => hoth i (by omega)⟩ hoth (by simp [World.setRow]))
/-- Bytes that are copied into a block. -/
theorem wpList_copy_byt (hgd : o.guard = none) (d s : Operand) (dT sT : TypeId) (ho : o.op = .call { callee := .builtin .copy, args := #[d, s], argTypes := #[dT, sT] }) (hu : Try.prog.underlying dT = some (.slice 5))
    (g off dLen dCap : Nat) (ok : Nat → Prop) (A : Option Addr) (n c : Nat) (t : List UInt8) (hx : Byt w ok A t) (hn : t.length = n) (hd : a.eval d = .slice (some ⟨g, off, none⟩) dLen dCap) (hs : a.eval s = .slice A n c) (pre mid post : List UInt8) (hk : Arr w T g (pre ++ mid ++ post)) (hp : pre.length = off) (hm : mid.length = n) (h0 : 0 < n) (hle : n ≤ dLen) (B : Nat) (hB : B ≤ g)
    (h : ∀ w', Hid (Arr w' T g (pre ++ t ++ post)) → Below B w w' → (∀ i, i ≠ g → w'.heap[i]? = w.heap[i]?) → w'.heap.size = w.heap.size → wpList Try.prog ops Q rest (a.put o.dst (goInt n)) w') : wpList Try.prog ops Q (o :: rest) a w := by
  subst hp hn
  obtain ⟨ad, rfl, _, hcell⟩ := hx.some_ h0
  have hmin : Nat.min t.length dLen = t.length := Nat.min_eq_left hle
  have e : ((u8s (pre ++ mid ++ post)).take pre.length ++ (u8s t ++ (u8s (pre ++ mid ++ post)).drop (pre.length + (u8s t).length))) = u8s (pre ++ t ++ post) := by
    rw [u8s_length, u8s_append, u8s_append, u8s_append, u8s_append, List.append_assoc (u8s pre), List.take_left' (u8s_length pre), ← hm, ← List.append_assoc (u8s pre) (u8s mid), List.drop_left' (by rw [List.length_append, u8s_length, u8s_length]), List.append_assoc]
  refine wpList_copy_own hgd d s dT sT ho 5 hu (by kernel_rfl) g pre.length dLen dCap ad t.length c hd hs _ T hk (u8s t) (by rw [u8s_length, hmin]) ?_ ?_ (u8s_one t) ?_
  · intro j v hv
    obtain ⟨hj, rfl⟩ := u8s_get t j v hv
    exact hcell j hj
  · simp [u8s_length]; omega
  · rw [u8s_length] at e ⊢
    show wpList Try.prog ops Q rest _ (w.setRow g ((u8s (pre ++ mid ++ post)).take pre.length ++ (u8s t ++ (u8s (pre ++ mid ++ post)).drop (pre.length + t.length))).toArray)
    rw [e]
    have hoth : ∀ i, i ≠ g → (w.setRow g (u8s (pre ++ t ++ post)).toArray).heap[i]? = w.heap[i]? := fun i hi => setRow_other w g i _ hi
    exact h _ (setRow_heap w g _ _ T _ hk) ⟨rfl, rfl, rfl, by simp [World.setRow], fun i hi => hoth i (by omega)⟩ hoth (by simp [World.setRow])
end
theorem results_one {T : TypeId} (hT : Is32 T) {fn : Func} {p : Tmp} (h : fn.results = #[.cell p T]) (tmps : Array Value) (w : World) (g : Nat) (xs : List UInt8) (hp : tmps.getD p undef = .pointer (some ⟨g, 0, none⟩)) (hk : Arr w T g xs) (hl : xs.length = 32) :
    (results fn tmps).run Try.prog w = .ok (.agg (u8s xs).toArray) w := by
  have hp' : tmps[p]?.getD undef = .pointer (some ⟨g, 0, none⟩) := by simpa using hp
  simp [results, h, hp', asAddr, run_loadVar_row w g T T _ (0, 0) _ hk hT.und rfl (by simp [hT.size, u8s_length, hl])]
theorem results_two {T : TypeId} (hT : Is32 T) {fn : Func} {p t : Tmp} (h : fn.results = #[.cell p T, .tmp t]) (tmps : Array Value) (w : World) (g : Nat) (xs : List UInt8) (hp : tmps.getD p undef = .pointer (some ⟨g, 0, none⟩)) (hk : Arr w T g xs) (hl : xs.length = 32) :
    (results fn tmps).run Try.prog w = .ok (.tuple #[.agg (u8s xs).toArray, tmps.getD t undef]) w := by
  have hp' : tmps[p]?.getD undef = .pointer (some ⟨g, 0, none⟩) := by simpa using hp
  simp [results, h, hp', asAddr, run_loadVar_row w g T T _ (0, 0) _ hk hT.und rfl (by simp [hT.size, u8s_length, hl])]
/-- An array's bytes, as a slice. -/
theorem Arr.byt {w : World} {T : TypeId} {g : Nat} {xs : List UInt8} (h : Arr w T g xs) {ok : Nat → Prop} (hok : ok g) : Byt w ok (some ⟨g, 0, none⟩) xs := fun j hj => by
  refine ⟨_, rfl, hok, ?_⟩
  rw [Addr.add_lit, Nat.zero_add]
  unfold Arr at h
  simp [World.cell?, h, u8s, hj]
theorem Arr.keep {w w' : World} {T : TypeId} {g : Nat} {xs : List UInt8} (h : Arr w T g xs) (hk : w'.heap[g]? = w.heap[g]?) : Arr w' T g xs := hk.trans h
theorem Arr.lt {w : World} {T : TypeId} {g : Nat} {xs : List UInt8} (h : Arr w T g xs) : g < w.heap.size := (Array.getElem?_eq_some_iff.1 h).1
end Go.Proofs.Ytbhfjjlfpgineaa
