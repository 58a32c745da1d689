/- Key makes a key of just 32 bytes; of other bytes it makes none. Conditions: none. -/
import Derived.Test.YtogikipoedbklaaOpen
import Derived.Deep.MidRow
namespace Go.Proofs.Ytogikipoedbklaa
open Go.RowKit

/-- 32 bytes 0. -/
def z32 : List UInt8 := List.replicate 32 0
theorem z32_length : z32.length = 32 := by simp [z32]
/-- Block g is an array of these bytes. -/
def Key32 (w : World) (g : Nat) (xs : List UInt8) : Prop := w.heap[g]? = some (.cells (u8s xs).toArray 32 (0, 0))
theorem size32 : (Try.prog.info? 32).map (·.size) = some 32 := by kernel_rfl
theorem run_alloc32 (w : World) : (Instr.alloc 32 true (.tuple #[])).run Try.prog w = .ok (.pointer (some ⟨w.heap.size, 0, none⟩)) (w.alloc (.cells (u8s z32).toArray 32)) := by kernel_rfl
theorem run_build32 (w : World) : (Instr.build 32 #[]).run Try.prog w = .ok (.agg (u8s z32).toArray) w := by kernel_rfl

section
variable {w : World} {ops : Array Oper} {rest : List Oper} {o : Oper} {a : Act} {Q : Exit → Act → World → Prop}
theorem wpList_alloc32 (hgd : o.guard = none) (ho : o.op = .alloc 32)
    (h : ∀ w', Key32 w' w.heap.size z32 → Below w.heap.size w w' → w'.heap.size = w.heap.size + 1 → wpList Try.prog ops Q rest (a.put o.dst (.pointer (some ⟨w.heap.size, 0, none⟩))) w') : wpList Try.prog ops Q (o :: rest) a w := by
  refine wpList_plain hgd fun K hK => ?_
  have hrun := run_alloc32 w
  unfold Oper.wp
  simp [execOp, ho, hrun, Result.andThen]
  exact hK _ _ (h _ (heap_alloc_new w _) ((Below.refl _ _).alloc (Nat.le_refl _) _) (by simp))
theorem wpList_build32 (hgd : o.guard = none) (ho : o.op = .build 32 #[])
    (h : wpList Try.prog ops Q rest (a.put o.dst (.agg (u8s z32).toArray)) w) : wpList Try.prog ops Q (o :: rest) a w := by
  refine wpList_plain hgd fun K hK => ?_
  have hrun := run_build32 w
  unfold Oper.wp
  simp [execOp, ho, hrun, Result.andThen]
  exact hK _ _ h
theorem wpList_store32 (hgd : o.guard = none) (x y : Operand) (ho : o.op = .store 32 x y) (g : Nat) (xs ys : List UInt8) (hx : a.eval x = .pointer (some ⟨g, 0, none⟩)) (hy : a.eval y = .agg (u8s ys).toArray)
    (hk : Key32 w g xs) (hxl : xs.length = 32) (hyl : ys.length = 32) (B : Nat) (hB : B ≤ g)
    (h : ∀ w', Key32 w' g ys → Below B w w' → (∀ i, i ≠ g → w'.heap[i]? = w.heap[i]?) → w'.heap.size = w.heap.size → wpList Try.prog ops Q rest (a.put o.dst undef) w') : wpList Try.prog ops Q (o :: rest) a w := by
  refine wpList_store_row hgd 32 x y ho g _ hx hy 32 _ hk (by simp [size32, u8s_length, hyl]) (by simp [u8s_length, hxl, hyl]) (all_oneCell_toArray (u8s_one ys)) ?_
  have hoth : ∀ i, i ≠ g → (w.setRow g (u8s ys).toArray).heap[i]? = w.heap[i]? := fun i hi => setRow_other w g i _ hi
  exact h _ (setRow_heap w g _ _ 32 _ hk) ⟨rfl, rfl, rfl, by simp, fun i hi => hoth i (by omega)⟩ hoth (by simp)
end

theorem results_key {fn : Func} {p t : Tmp} (h : fn.results = #[.cell p 32, .tmp t]) (tmps : Array Value) (w : World) (g : Nat) (xs : List UInt8) (hp : tmps.getD p undef = .pointer (some ⟨g, 0, none⟩)) (hk : Key32 w g xs) (hl : xs.length = 32) :
    (results fn tmps).run Try.prog w = .ok (.tuple #[.agg (u8s xs).toArray, tmps.getD t undef]) w := by
  have hp' : tmps[p]?.getD undef = .pointer (some ⟨g, 0, none⟩) := by simpa using hp
  simp [results, h, hp', asAddr, run_loadVar_row w g 32 32 _ (0, 0) _ hk Try.underlying32 rfl (by simp [size32, u8s_length, hl])]

set_option maxRecDepth 100000 in
set_option maxHeartbeats 1000000 in
theorem key_no {w : World} {A : Option Addr} {n c : Nat} (h : n ≠ 32) :
    Calls Try.prog 15 #[.slice A n c] w fun e w' => e = .returned (.tuple #[.agg (u8s z32).toArray, .bool false]) ∧ Below w.heap.size w w' := by
  have d1 : ((n : Int) != 32) = true := by simp; omega
  go_enter Try.func15, Try.ntmps15
  go_wp2_with (refine wpList_alloc32 rfl rfl ?_)
  intro w1 hk1 hb1 hz1
  have HK1 := Lib.hid hk1
  have HZ1 := Lib.hid hz1
  clear hk1 hz1
  go_wp2_with (first | (refine wpList_build32 rfl rfl ?_) | (refine wpList_store32 rfl _ _ rfl w.heap.size z32 z32 rfl rfl HK1.out z32_length z32_length w.heap.size (Nat.le_refl _) ?_))
  intro w2 hk2 hb2 _ hz2
  have HK2 := Lib.hid hk2
  have HZ2 := Lib.hid hz2
  clear hk2 hz2
  go_wp2
  exact bodyPost_ret (results_key rfl _ _ w.heap.size z32 rfl HK2.out z32_length) rfl ⟨rfl, hb1.trans hb2⟩

set_option maxRecDepth 100000 in
set_option maxHeartbeats 1000000 in
theorem key_yes {w : World} {ok : Nat → Prop} {A : Option Addr} {xs : List UInt8} {c : Nat} (hx : Byt w ok A xs) (hok : ∀ g, ok g → g < w.heap.size) (h : xs.length = 32) :
    Calls Try.prog 15 #[.slice A 32 c] w fun e w' => e = .returned (.tuple #[.agg (u8s xs).toArray, .bool true]) ∧ Below w.heap.size w w' := by
  obtain ⟨ab, ao, rfl, hoka, -, -⟩ := at_two hx (by omega)
  have hs : ∀ W : World, (Instr.arrayAt 32 (.slice (some ⟨ab, ao, none⟩) 32 c)).run Try.prog W = .ok (.pointer (some ⟨ab, ao, none⟩)) W := fun W => by
    simp [Instr.arrayAt, run_underlying Try.underlying32]
  have HX := Lib.hid h
  clear h
  go_enter Try.func15, Try.ntmps15
  go_wp2_with (refine wpList_alloc32 rfl rfl ?_)
  intro w1 hk1 hb1 hz1
  have hx1 := hx.below hb1 hok
  have hrg : Hid (w1.rangeAt ab ao (u8s xs)) := fun j v hv => by
    obtain ⟨hj, rfl⟩ := u8s_get xs j v hv
    obtain ⟨ad, e, _, hc⟩ := hx1 j hj
    cases e
    rw [Addr.add_lit] at hc
    exact hc
  have HK1 := Lib.hid hk1
  have HZ1 := Lib.hid hz1
  clear hk1 hz1
  go_wp2_with (first | (refine wpList_load_mid rfl 32 _ rfl ab ao rfl (u8s xs) _ hrg.out Try.underlying32 rfl (by rw [size32, u8s_length, HX.out]) ?_) | (refine wpList_store32 rfl _ _ rfl w.heap.size z32 xs rfl rfl HK1.out z32_length HX.out w.heap.size (Nat.le_refl _) ?_))
  intro w2 hk2 hb2 _ hz2
  have HK2 := Lib.hid hk2
  have HZ2 := Lib.hid hz2
  clear hk2 hz2
  go_wp2
  exact bodyPost_ret (results_key rfl _ _ w.heap.size xs rfl HK2.out HX.out) rfl ⟨rfl, hb1.trans hb2⟩
end Go.Proofs.Ytogikipoedbklaa
