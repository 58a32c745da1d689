/- Plain mathematics of names in bytes: which stand in any bytes, from the left; however they are looked for. Conditions: none. Arrays of 32 bytes in memory: made, stored, loaded, copied into. Conditions: none. name, and the reference's Name, write a number's name. Conditions: the number has room in four bytes. -/
import Derived.Test.YtdnkeaokgkiloaaDoorTa
import Derived.Lib.Index
import Derived.Test.YtdnkeaokgkiloaaDoorTb
import Derived.Deep.MidRow
import Derived.Stop.BytesEq
import Derived.Laws.CopyOwn
import Derived.Lib.BufferWrite
import Derived.Deep.RegionHeld3
namespace Go.Proofs.YtdnkeaokgkiloaaDoor.T
/-- The mark. -/
def mark : List UInt8 := [116, 101, 114, 109]
/-- The name of a number. -/
def nm (n : Nat) : List UInt8 := mark ++ be 4 n ++ List.replicate 24 0
theorem nm_length (n : Nat) : (nm n).length = 32 := by simp [nm, mark, be_length]
open Go.RowKit
/-- 32 bytes 0. -/
def z32 : List UInt8 := List.replicate 32 0
theorem z32_length : z32.length = 32 := by simp [z32]
/-- Block g is an array, of that type, of these bytes. -/
def Arr (w : World) (T : TypeId) (g : Nat) (xs : List UInt8) : Prop := w.heap[g]? = some (.cells (u8s xs).toArray T (0, 0))
/-- The types that are arrays of 32 bytes. -/
def Is32 (T : TypeId) : Prop := T = 22 ∨ T = 24
theorem size34 : (Tryd.prog.info? 22).map (·.size) = some 32 := by kernel_rfl
theorem size49 : (Tryd.prog.info? 24).map (·.size) = some 32 := by kernel_rfl
theorem Is32.size {T : TypeId} (h : Is32 T) : (Tryd.prog.info? T).map (·.size) = some 32 := by rcases h with rfl | rfl; exact size34; exact size49
theorem Is32.und {T : TypeId} (h : Is32 T) : Tryd.prog.underlying T = some (.array 32 5) := by rcases h with rfl | rfl; exact Tryd.underlying22; exact Tryd.underlying24
theorem run_alloc34 (w : World) : (Instr.alloc 22 true (.tuple #[])).run Tryd.prog w = .ok (.pointer (some ⟨w.heap.size, 0, none⟩)) (w.alloc (.cells (u8s z32).toArray 22)) := by kernel_rfl
theorem run_alloc49 (w : World) : (Instr.alloc 24 true (.tuple #[])).run Tryd.prog w = .ok (.pointer (some ⟨w.heap.size, 0, none⟩)) (w.alloc (.cells (u8s z32).toArray 24)) := by kernel_rfl
theorem run_build34 (w : World) : (Instr.build 22 #[]).run Tryd.prog w = .ok (.agg (u8s z32).toArray) w := by kernel_rfl
theorem run_build49 (w : World) : (Instr.build 24 #[]).run Tryd.prog w = .ok (.agg (u8s z32).toArray) w := by kernel_rfl
theorem Is32.alloc {T : TypeId} (h : Is32 T) (w : World) : (Instr.alloc T true (.tuple #[])).run Tryd.prog w = .ok (.pointer (some ⟨w.heap.size, 0, none⟩)) (w.alloc (.cells (u8s z32).toArray T)) := by rcases h with rfl | rfl; exact run_alloc34 w; exact run_alloc49 w
theorem Is32.build {T : TypeId} (h : Is32 T) (w : World) : (Instr.build T #[]).run Tryd.prog w = .ok (.agg (u8s z32).toArray) w := by rcases h with rfl | rfl; exact run_build34 w; exact run_build49 w
/-- An array of 32 bytes, cell by cell. -/
def k32 (k : Fin 32 → UInt8) : List UInt8 := (List.finRange 32).map k
theorem k32_of (xs : List UInt8) (h : xs.length = 32) : ∃ k, xs = k32 k := by
  refine ⟨fun i => xs[i.1]'(by omega), ?_⟩
  apply List.ext_getElem
  · simp [k32, h]
  · intro j h1 h2
    simp [k32]
theorem run_box34 (w : World) (k : Fin 32 → UInt8) : (Instr.box 22 (.agg (u8s (k32 k)).toArray)).run Tryd.prog w = .ok (.pointer (some ⟨w.heap.size, 0, none⟩)) (w.alloc (.cells (u8s (k32 k)).toArray 22)) := by kernel_rfl
theorem run_box49 (w : World) (k : Fin 32 → UInt8) : (Instr.box 24 (.agg (u8s (k32 k)).toArray)).run Tryd.prog w = .ok (.pointer (some ⟨w.heap.size, 0, none⟩)) (w.alloc (.cells (u8s (k32 k)).toArray 24)) := by kernel_rfl
theorem Is32.box {T : TypeId} (h : Is32 T) (w : World) (xs : List UInt8) (hl : xs.length = 32) : (Instr.box T (.agg (u8s xs).toArray)).run Tryd.prog w = .ok (.pointer (some ⟨w.heap.size, 0, none⟩)) (w.alloc (.cells (u8s xs).toArray T)) := by
  obtain ⟨k, rfl⟩ := k32_of xs hl
  rcases h with rfl | rfl
  · exact run_box34 w k
  · exact run_box49 w k
theorem i34 : Is32 22 := .inl rfl
theorem i49 : Is32 24 := .inr rfl
section
variable {w : World} {ops : Array Oper} {rest : List Oper} {o : Oper} {a : Act} {Q : Exit → Act → World → Prop} {T : TypeId}
theorem wpList_alloc32 (hT : Is32 T) (hgd : o.guard = none) (ho : o.op = .alloc T)
    (h : ∀ w', Arr w' T w.heap.size z32 → Below w.heap.size w w' → w'.heap.size = w.heap.size + 1 → wpList Tryd.prog ops Q rest (a.put o.dst (.pointer (some ⟨w.heap.size, 0, none⟩))) w') : wpList Tryd.prog ops Q (o :: rest) a w := by
  refine wpList_plain hgd fun K hK => ?_
  have hrun := hT.alloc w
  unfold Oper.wp
  simp [execOp, ho, hrun, Result.andThen]
  exact hK _ _ (h _ (heap_alloc_new w _) ((Below.refl _ _).alloc (Nat.le_refl _) _) (by simp))
theorem wpList_box32 (hT : Is32 T) (hgd : o.guard = none) (x : Operand) (ho : o.op = .box T x) (xs : List UInt8) (hx : a.eval x = .agg (u8s xs).toArray) (hl : xs.length = 32)
    (h : ∀ w', Hid (Arr w' T w.heap.size xs) → Below w.heap.size w w' → w'.heap.size = w.heap.size + 1 → wpList Tryd.prog ops Q rest (a.put o.dst (.pointer (some ⟨w.heap.size, 0, none⟩))) w') : wpList Tryd.prog ops Q (o :: rest) a w := by
  refine wpList_plain hgd fun K hK => ?_
  have hrun := hT.box w xs hl
  have hb : Hid (Arr (w.alloc (.cells (u8s xs).toArray T)) T w.heap.size xs) := heap_alloc_new w _
  generalize (Value.agg (u8s xs).toArray) = z at hrun hx
  unfold Oper.wp
  simp only [execOp, ho, hx, Sem.run_bind, hrun, Result.andThen_ok, Sem.run_pure]
  exact hK _ _ (h _ hb ((Below.refl _ _).alloc (Nat.le_refl _) _) (by simp))
theorem wpList_build32 (hT : Is32 T) (hgd : o.guard = none) (ho : o.op = .build T #[])
    (h : wpList Tryd.prog ops Q rest (a.put o.dst (.agg (u8s z32).toArray)) w) : wpList Tryd.prog ops Q (o :: rest) a w := by
  refine wpList_plain hgd fun K hK => ?_
  have hrun := hT.build w
  unfold Oper.wp
  simp [execOp, ho, hrun, Result.andThen]
  exact hK _ _ h
theorem wpList_store32 (hT : Is32 T) (hgd : o.guard = none) (x y : Operand) (ho : o.op = .store T x y) (g : Nat) (xs ys : List UInt8) (hx : a.eval x = .pointer (some ⟨g, 0, none⟩)) (hy : a.eval y = .agg (u8s ys).toArray)
    (hk : Arr w T g xs) (hxl : xs.length = 32) (hyl : ys.length = 32) (B : Nat) (hB : B ≤ g)
    (h : ∀ w', Arr w' T g ys → Below B w w' → (∀ i, i ≠ g → w'.heap[i]? = w.heap[i]?) → w'.heap.size = w.heap.size → wpList Tryd.prog ops Q rest (a.put o.dst undef) w') : wpList Tryd.prog ops Q (o :: rest) a w := by
  refine wpList_store_row hgd T x y ho g _ hx hy T _ hk (by simp [hT.size, u8s_length, hyl]) (by simp [u8s_length, hxl, hyl]) (all_oneCell_toArray (u8s_one ys)) ?_
  have hoth : ∀ i, i ≠ g → (w.setRow g (u8s ys).toArray).heap[i]? = w.heap[i]? := fun i hi => setRow_other w g i _ hi
  exact h _ (setRow_heap w g _ _ T _ hk) ⟨rfl, rfl, rfl, by simp, fun i hi => hoth i (by omega)⟩ hoth (by simp)
theorem wpList_load32 (hT : Is32 T) (hw : Region.wanted o (yielded ops a.tmps) = true) (x : Operand) (ho : o.op = .load T x) (g : Nat) (hx : a.eval x = .pointer (some ⟨g, 0, none⟩))
    (ks : List UInt8) (hk : Arr w T g ks) (hl : ks.length = 32) (h : wpList Tryd.prog ops Q rest (a.put o.dst (.agg (u8s ks).toArray)) w) : wpList Tryd.prog ops Q (o :: rest) a w :=
  wpList_step fun K hK => by
    rw [if_pos hw]
    exact wp_load_row T x ho g hx T _ (0, 0) _ hk hT.und rfl (by simp [hT.size, u8s_length, hl]) (hK _ _ h)
/-- A text that is copied into a block. -/
theorem wpList_copy_text (hgd : o.guard = none) (d s : Operand) (dT : TypeId) (ho : o.op = .call { callee := .builtin .copy, args := #[d, s], argTypes := #[dT, 9] }) (hu : Tryd.prog.underlying dT = some (.slice 5))
    (g off dLen dCap : Nat) (t : List UInt8) (hd : a.eval d = .slice (some ⟨g, off, none⟩) dLen dCap) (hs : a.eval s = .string ⟨t.toArray⟩) (pre mid post : List UInt8) (hk : Arr w T g (pre ++ mid ++ post)) (hp : pre.length = off) (hm : mid.length = t.length) (hle : t.length ≤ dLen) (B : Nat) (hB : B ≤ g)
    (h : ∀ w', Hid (Arr w' T g (pre ++ t ++ post)) → Below B w w' → (∀ i, i ≠ g → w'.heap[i]? = w.heap[i]?) → w'.heap.size = w.heap.size → wpList Tryd.prog ops Q rest (a.put o.dst (goInt t.length)) w') : wpList Tryd.prog ops Q (o :: rest) a w := by
  subst hp
  refine wpList_plain hgd fun K hK => ?_
  have hsz : (⟨t.toArray⟩ : ByteArray).size = t.length := rfl
  have hrun := Lib.run_copy_row_string (P := Tryd.prog) w dT 9 o.type 5 g pre.length dLen dCap ⟨t.toArray⟩ _ T hu (by kernel_rfl) hk (by rw [hsz]; exact hle) (by rw [hsz]; simp [u8s_length]; omega)
  have e : ((u8s (pre ++ mid ++ post)).toArray.toList.take pre.length ++ Lib.byteCells t ++ (u8s (pre ++ mid ++ post)).toArray.toList.drop (pre.length + t.length)) = u8s (pre ++ t ++ post) := by
    show (u8s (pre ++ mid ++ post)).take pre.length ++ u8s t ++ (u8s (pre ++ mid ++ post)).drop (pre.length + t.length) = _
    rw [u8s_append, u8s_append, u8s_append, u8s_append, List.append_assoc (u8s pre), List.take_left' (u8s_length pre), ← hm, ← List.append_assoc (u8s pre), List.drop_left' (by rw [List.length_append, u8s_length, u8s_length])]
  have hrun' : (Builtin.copy_ #[dT, 9] o.type #[.slice (some ⟨g, pre.length, none⟩) dLen dCap, .string ⟨t.toArray⟩]).run Tryd.prog w = .ok (goInt t.length) (w.setRow g (u8s (pre ++ t ++ post)).toArray) := by
    rw [← e]; exact hrun
  have hoth : ∀ i, i ≠ g → (w.setRow g (u8s (pre ++ t ++ post)).toArray).heap[i]? = w.heap[i]? := fun i hi => setRow_other w g i _ hi
  unfold Oper.wp execOp
  simp only [ho, resolve, invoke, builtin, Sem.run_bind, Sem.run_pure, Result.andThen_ok, List.map_toArray, List.map_cons, List.map_nil, hd, hs, hrun']
  exact hK _ _ (h _ (setRow_heap w g _ _ T _ hk) ⟨rfl, rfl, rfl, by simp [World.setRow], fun i hi => hoth i (by omega)⟩ hoth (by simp [World.setRow]))
/-- Bytes that are copied into a block. -/
theorem wpList_copy_byt (hgd : o.guard = none) (d s : Operand) (dT sT : TypeId) (ho : o.op = .call { callee := .builtin .copy, args := #[d, s], argTypes := #[dT, sT] }) (hu : Tryd.prog.underlying dT = some (.slice 5))
    (g off dLen dCap : Nat) (ok : Nat → Prop) (A : Option Addr) (n c : Nat) (t : List UInt8) (hx : Byt w ok A t) (hn : t.length = n) (hd : a.eval d = .slice (some ⟨g, off, none⟩) dLen dCap) (hs : a.eval s = .slice A n c) (pre mid post : List UInt8) (hk : Arr w T g (pre ++ mid ++ post)) (hp : pre.length = off) (hm : mid.length = n) (h0 : 0 < n) (hle : n ≤ dLen) (B : Nat) (hB : B ≤ g)
    (h : ∀ w', Hid (Arr w' T g (pre ++ t ++ post)) → Below B w w' → (∀ i, i ≠ g → w'.heap[i]? = w.heap[i]?) → w'.heap.size = w.heap.size → wpList Tryd.prog ops Q rest (a.put o.dst (goInt n)) w') : wpList Tryd.prog ops Q (o :: rest) a w := by
  subst hp hn
  obtain ⟨ad, rfl, _, hcell⟩ := hx.some_ h0
  have hmin : Nat.min t.length dLen = t.length := Nat.min_eq_left hle
  have e : ((u8s (pre ++ mid ++ post)).take pre.length ++ (u8s t ++ (u8s (pre ++ mid ++ post)).drop (pre.length + (u8s t).length))) = u8s (pre ++ t ++ post) := by
    rw [u8s_length, u8s_append, u8s_append, u8s_append, u8s_append, List.append_assoc (u8s pre), List.take_left' (u8s_length pre), ← hm, ← List.append_assoc (u8s pre) (u8s mid), List.drop_left' (by rw [List.length_append, u8s_length, u8s_length]), List.append_assoc]
  refine wpList_copy_own hgd d s dT sT ho 5 hu (by kernel_rfl) g pre.length dLen dCap ad t.length c hd hs _ T hk (u8s t) (by rw [u8s_length, hmin]) ?_ ?_ (u8s_one t) ?_
  · intro j v hv
    obtain ⟨hj, rfl⟩ := u8s_get t j v hv
    exact hcell j hj
  · simp [u8s_length]; omega
  · rw [u8s_length] at e ⊢
    show wpList Tryd.prog ops Q rest _ (w.setRow g ((u8s (pre ++ mid ++ post)).take pre.length ++ (u8s t ++ (u8s (pre ++ mid ++ post)).drop (pre.length + t.length))).toArray)
    rw [e]
    have hoth : ∀ i, i ≠ g → (w.setRow g (u8s (pre ++ t ++ post)).toArray).heap[i]? = w.heap[i]? := fun i hi => setRow_other w g i _ hi
    exact h _ (setRow_heap w g _ _ T _ hk) ⟨rfl, rfl, rfl, by simp [World.setRow], fun i hi => hoth i (by omega)⟩ hoth (by simp [World.setRow])
end
theorem results_one {T : TypeId} (hT : Is32 T) {fn : Func} {p : Tmp} (h : fn.results = #[.cell p T]) (tmps : Array Value) (w : World) (g : Nat) (xs : List UInt8) (hp : tmps.getD p undef = .pointer (some ⟨g, 0, none⟩)) (hk : Arr w T g xs) (hl : xs.length = 32) :
    (results fn tmps).run Tryd.prog w = .ok (.agg (u8s xs).toArray) w := by
  have hp' : tmps[p]?.getD undef = .pointer (some ⟨g, 0, none⟩) := by simpa using hp
  simp [results, h, hp', asAddr, run_loadVar_row w g T T _ (0, 0) _ hk hT.und rfl (by simp [hT.size, u8s_length, hl])]
theorem results_two {T : TypeId} (hT : Is32 T) {fn : Func} {p t : Tmp} (h : fn.results = #[.cell p T, .tmp t]) (tmps : Array Value) (w : World) (g : Nat) (xs : List UInt8) (hp : tmps.getD p undef = .pointer (some ⟨g, 0, none⟩)) (hk : Arr w T g xs) (hl : xs.length = 32) :
    (results fn tmps).run Tryd.prog w = .ok (.tuple #[.agg (u8s xs).toArray, tmps.getD t undef]) w := by
  have hp' : tmps[p]?.getD undef = .pointer (some ⟨g, 0, none⟩) := by simpa using hp
  simp [results, h, hp', asAddr, run_loadVar_row w g T T _ (0, 0) _ hk hT.und rfl (by simp [hT.size, u8s_length, hl])]
/-- An array's bytes, as a slice. -/
theorem Arr.byt {w : World} {T : TypeId} {g : Nat} {xs : List UInt8} (h : Arr w T g xs) {ok : Nat → Prop} (hok : ok g) : Byt w ok (some ⟨g, 0, none⟩) xs := fun j hj => by
  refine ⟨_, rfl, hok, ?_⟩
  rw [Addr.add_lit, Nat.zero_add]
  unfold Arr at h
  simp [World.cell?, h, u8s, hj]
theorem Arr.keep {w w' : World} {T : TypeId} {g : Nat} {xs : List UInt8} (h : Arr w T g xs) (hk : w'.heap[g]? = w.heap[g]?) : Arr w' T g xs := hk.trans h
theorem Arr.lt {w : World} {T : TypeId} {g : Nat} {xs : List UInt8} (h : Arr w T g xs) : g < w.heap.size := (Array.getElem?_eq_some_iff.1 h).1
open Go.RowKit
/-- The name of n is told; nothing old has turned. -/
def NameE (w : World) (n : Nat) (e : Ending) (w' : World) : Prop := e = .returned (.agg (u8s (nm n)).toArray) ∧ Below w.heap.size w w'
theorem z32_cut : z32 = [] ++ List.replicate 4 0 ++ List.replicate 28 0 := by decide
theorem z32_cut2 : mark ++ List.replicate 4 (0 : UInt8) ++ List.replicate 24 0 = mark ++ [0, 0, 0, 0, 0, 0, 0, 0, 0, 0, 0, 0, 0, 0, 0, 0, 0, 0, 0, 0, 0, 0, 0, 0, 0, 0, 0, 0] := by decide
set_option maxRecDepth 100000 in
set_option maxHeartbeats 1000000 in
theorem name_any (n : Nat) (w : World) (hn : n < 4294967296) : Calls Tryd.prog 47 #[.int .i64 n] w (NameE w n) := by
  have HP := Lib.hid (fun W => put_yes n 4 W (by omega) (by omega) (by show n < 256 ^ 4; omega))
  have c1 : IntKind.u64.wrap (n : Int) = (n : Int) := IntWalk.u64_in _ (by omega)
  go_enter Tryd.func47, Tryd.ntmps47
  go_wp2_with (refine wpList_alloc32 i49 rfl rfl ?_)
  intro w1 hk1 hb1 hz1
  rw [z32_cut] at hk1
  have K1 := Lib.hid hk1
  clear hk1
  have Z1 := Lib.hid hz1
  clear hz1
  go_wp2_with fail
  go_at_call 54
  refine (HP.out _).mono ?_
  rintro e w2 ⟨A, c, rfl, h1, h2, h3, h4⟩
  have hb2 : Below w.heap.size w w2 := hb1.trans (h4.mono hb1.size)
  have K2 : Hid (Arr w2 24 w.heap.size ([] ++ List.replicate 4 0 ++ List.replicate 28 0)) := (h4.block _ (by have := Z1.out; omega)).trans K1.out
  rw [be_length] at *
  clear K1
  go_wp2_with (refine wpList_copy_text (t := mark) rfl _ _ 66 rfl Tryd.underlying66 w.heap.size 0 32 32 rfl rfl [] _ _ K2.out rfl rfl ?c2 w.heap.size (Nat.le_refl _) ?_)
  case c2 => simp [mark]
  intro w3 hk3 hb3 ho3 hz3
  have K3 : Hid (Arr w3 24 w.heap.size (mark ++ List.replicate 4 0 ++ List.replicate 24 0)) := by
    rw [z32_cut2]
    exact hk3.out
  have X3 : Hid (Byt w3 (fun b => w1.heap.size ≤ b ∧ b < w2.heap.size) A (be 4 n)) := h3.keep fun b hb => ho3 b (by have := Z1.out; omega)
  have hb3' := hb2.trans hb3
  clear hk3 K2 h3
  go_wp2_with (refine wpList_copy_byt rfl _ _ 66 66 rfl Tryd.underlying66 w.heap.size 4 28 28 _ A 4 c (be 4 n) X3.out (be_length 4 n) rfl rfl mark _ _ K3.out rfl rfl (by omega) (by omega) w.heap.size (Nat.le_refl _) ?_)
  intro w4 hk4 hb4 ho4 hz4
  have K4 : Hid (Arr w4 24 w.heap.size (nm n)) := hk4.out
  have hb4' := hb3'.trans hb4
  clear hk4
  go_wp2_with (first | (refine wpList_load32 i49 rfl (.tmp 2) rfl w.heap.size rfl (nm n) K4.out (nm_length n) ?_) | (refine wpList_store32 i49 rfl _ _ rfl w.heap.size (nm n) (nm n) rfl rfl K4.out (nm_length n) (nm_length n) w.heap.size (Nat.le_refl _) ?_))
  intro w5 hk5 hb5 ho5 hz5
  have hb5' := hb4'.trans hb5
  go_wp2
  exact bodyPost_ret (results_one i49 rfl _ _ w.heap.size (nm n) rfl hk5 (nm_length n)) rfl ⟨rfl, hb5'⟩
theorem src_of {w : World} {ok : Nat → Prop} {A : Option Addr} {xs : List UInt8} (h : Byt w ok A xs) (h0 : 0 < xs.length) : ∃ ad, A = some ad ∧ ∀ j v, (u8s xs)[j]? = some v → w.cell? (ad.add j) = some v := by
  obtain ⟨ad, e, _, hc⟩ := h.some_ h0
  refine ⟨ad, e, fun j v hv => ?_⟩
  obtain ⟨hj, rfl⟩ := u8s_get xs j v hv
  exact hc j hj
theorem splice_name (n : Nat) : splice (u8s (mark ++ List.replicate 4 0 ++ List.replicate 24 0)) 4 (u8s (be 4 n)) = u8s (nm n) := by
  have hl : (u8s (be 4 n)).length = 4 := by rw [u8s_length, be_length]
  unfold splice nm
  rw [hl, u8s_append, u8s_append, u8s_append, u8s_append]
  rfl
theorem num_any4 (n : Nat) (w : World) (hn : n < 4294967296) : Calls Tryd.prog 45 #[.int .i64 n, .int .i64 4] w (NewN w (be 4 n) 4) := by
  have c1 : IntKind.u64.wrap (n : Int) = (n : Int) := IntWalk.u64_in _ (by omega)
  go_enter Tryd.func45, Tryd.ntmps45
  go_wp2_with fail
  go_at_call 52
  refine (refput_any n 4 _ (by omega) (by omega) (by omega)).mono ?_
  rintro e w1 (⟨_, A, c, rfl, h1, h2, h3, h4⟩ | ⟨h, _⟩)
  · go_wp2
    go_ret
    rw [be_length] at *
    exact ⟨A, c, rfl, h1, h2, h3, h4⟩
  · omega
set_option maxRecDepth 100000 in
set_option maxHeartbeats 1000000 in
theorem refname_any (n : Nat) (w : World) (hn : n < 4294967296) : Calls Tryd.prog 44 #[.int .i64 n] w (NameE w n) := by
  have HP := Lib.hid (fun W => num_any4 n W hn)
  go_enter Tryd.func44, Tryd.ntmps44
  go_wp2_with (refine wpList_alloc32 i34 rfl rfl ?_)
  intro w1 hk1 hb1 hz1
  have Z1 := Lib.hid hz1
  have K1 := Lib.hid hk1
  clear hk1 hz1
  go_wp2_with (refine wpList_alloc32 i34 rfl rfl ?_)
  intro w2 hk2 hb2 hz2
  have hb2' : Below w.heap.size w w2 := hb1.trans (hb2.mono hb1.size)
  have K1' : Hid (Arr w2 22 w.heap.size z32) := (hb2.block _ (by have := Z1.out; omega)).trans K1.out
  rw [z32_cut] at hk2
  have K2 := Lib.hid hk2
  have Z2 := Lib.hid hz2
  clear hk2 K1 hz2
  go_wp2_with (refine wpList_copy_text (t := mark) rfl _ _ 66 rfl Tryd.underlying66 w1.heap.size 0 32 32 rfl rfl [] _ _ K2.out rfl rfl ?c2 w1.heap.size (Nat.le_refl _) ?_)
  case c2 => simp [mark]
  intro w3 hk3 hb3 ho3 hz3
  have K3 : Hid (Arr w3 22 w1.heap.size (mark ++ List.replicate 4 0 ++ List.replicate 24 0)) := by
    rw [z32_cut2]
    exact hk3.out
  have hb3' : Below w.heap.size w w3 := hb2'.trans (hb3.mono hb1.size)
  have K3' : Hid (Arr w3 22 w.heap.size z32) := (ho3 _ (by have := Z1.out; omega)).trans K1'.out
  clear hk3 K2 K1'
  go_wp2_with fail
  go_region_held3 (fun _ => True) (exact trivial) (first
    | (go_at_call 45; refine (HP.out _).mono ?_; rintro e w4 ⟨A, c, rfl, h41, h42, h43, h44⟩; have K4 := Lib.hid (Arr.keep K3.out (h44.block _ (Arr.lt K3.out))); have X4 := Lib.hid (src_of h43 (by rw [be_length]; omega)); have hb4 : Below w.heap.size w w4 := hb3'.drew.trans (h44.mono hb3'.size); have K4' : Hid (Arr w4 22 w.heap.size z32) := (h44.block _ (Arr.lt K3'.out)).trans K3'.out)
    | ((refine step_copy_splice rfl _ _ 66 66 (by rfl) 5 Tryd.underlying66 (by kernel_rfl) _ _ 28 28 4 _ (by rfl) (by rfl) w1.heap.size 4 _ 22 K4.out (u8s (be 4 n)) rfl (fun _ => ⟨rfl, X4.out⟩) (by rw [u8s_length, be_length]; decide) (u8s_one _) w1.heap.size w4 (Below.refl _ _) (Nat.le_refl _) ?_); intro w5 hk5 hb5)
    | fail)
  have hb5' : Below w.heap.size w w5 := hb4.trans (hb5.mono (by have := Z1.out; omega))
  have K5' : Hid (Arr w5 22 w.heap.size z32) := (hb5.block _ (by have := Z1.out; omega)).trans K4'.out
  have K5 : Hid (Arr w5 22 w1.heap.size (nm n)) := by
    have h := hk5.out
    rw [splice_name] at h
    exact h
  clear hk5 K4' X4 K4 K3 K3' h43 h44
  go_wp2_with (first | (refine wpList_load32 i34 rfl (.tmp 3) rfl w1.heap.size rfl (nm n) K5.out (nm_length n) ?_) | (refine wpList_store32 i34 rfl _ _ rfl w.heap.size z32 (nm n) rfl rfl K5'.out z32_length (nm_length n) w.heap.size (Nat.le_refl _) ?_))
  intro w6 hk6 hb6 ho6 hz6
  have hb6' := hb5'.trans hb6
  go_wp2
  exact bodyPost_ret (results_one i34 rfl _ _ w.heap.size (nm n) rfl hk6 (nm_length n)) rfl ⟨rfl, hb6'⟩
end Go.Proofs.YtdnkeaokgkiloaaDoor.T
