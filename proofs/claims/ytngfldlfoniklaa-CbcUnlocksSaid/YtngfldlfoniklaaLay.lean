/- What the reference's Lock reads and lays: words as slices of numbers, a block of 16 bytes, a table of four rows of four numbers. Conditions: none. -/
import Derived.Test.YtngfldlfoniklaaTable
namespace Go.Proofs.Ytngfldlfoniklaa
open Go.RowKit
/-- Words of four numbers lie at A, all of it in blocks that are 'ok'. -/
def Wds (w : World) (ok : Nat → Prop) (A : Addr) (ws : List (List Nat)) : Prop :=
  ∀ n, n < ws.length → ∃ (ad : Addr) (c : Nat), w.cell? (A.add n) = some (.slice (some ad) 4 c) ∧ ok A.block ∧ ok ad.block ∧ 4 ≤ c ∧ ∀ r, r < 4 → w.cell? (ad.add r) = some (.int .i64 ((wb ws n r : Nat) : Int))
theorem Wds.keep {w w' : World} {ok : Nat → Prop} {A : Addr} {ws : List (List Nat)} (h : Wds w ok A ws) (hk : ∀ b, ok b → w'.heap[b]? = w.heap[b]?) : Wds w' ok A ws := fun n hn => by
  obtain ⟨ad, c, h1, h2, h3, h4, h5⟩ := h n hn
  refine ⟨ad, c, (World.cell?_of_block (by rw [block_of_plus]; exact hk _ h2)).trans h1, h2, h3, h4, fun r hr => ?_⟩
  exact (World.cell?_of_block (by rw [block_of_plus]; exact hk _ h3)).trans (h5 r hr)
theorem Wds.grown {w w' : World} {ok : Nat → Prop} {A : Addr} {ws : List (List Nat)} {row : Option Nat} (h : Wds w ok A ws) (hg : w.grownBy w' row) (hok : ∀ b, ok b → b < w.heap.size ∧ some b ≠ row) : Wds w' ok A ws := h.keep fun b hb => hg.block b (hok b hb).1 (hok b hb).2
/-- The bytes of a state, as values. -/
def bytesOf (s : State) : List Value := (List.finRange 16).map fun i => Value.int .u8 ((s i).toNat : Int)
theorem bytesOf_length (s : State) : (bytesOf s).length = 16 := by simp [bytesOf]
theorem bytesOf_get (s : State) (i : Nat) (h : i < 16) : (bytesOf s)[i]? = some (.int .u8 ((s ⟨i, h⟩).toNat : Int)) := by
  unfold bytesOf
  rw [List.getElem?_map, List.getElem?_eq_getElem (by simpa using h)]
  simp
theorem run_box23 (w : World) (s : State) : (Instr.box 23 (.agg (bytesOf s).toArray)).run Try.prog w = .ok (.pointer (some ⟨w.heap.size, 0, none⟩)) (w.alloc (.cells (bytesOf s).toArray 23)) := by kernel_rfl
theorem run_box31 (w : World) (A B : Option Addr) (n c m d : Nat) : (Instr.box 43 (.agg #[.slice A n c, .slice B m d])).run Try.prog w = .ok (.pointer (some ⟨w.heap.size, 0, none⟩)) (w.alloc (.cells #[.slice A n c, .slice B m d] 43)) := by kernel_rfl
theorem run_alloc47 (w : World) : (Instr.alloc 58 true (.tuple #[])).run Try.prog w = .ok (.pointer (some ⟨w.heap.size, 0, none⟩)) (w.alloc (.cells (ints (List.replicate 16 0)).toArray 58)) := by kernel_rfl
theorem run_alloc23 (w : World) : (Instr.alloc 23 true (.tuple #[])).run Try.prog w = .ok (.pointer (some ⟨w.heap.size, 0, none⟩)) (w.alloc (.cells (bytesOf (fun _ => 0)).toArray 23)) := by kernel_rfl
/-- Four rows of four numbers; where they aren't told yet: old. -/
def rows (done : Nat → Nat → Bool) (f old : Nat → Nat → Nat) : List Nat := (List.range 16).map fun q => if done (q / 4) (q % 4) then f (q / 4) (q % 4) else old (q / 4) (q % 4)
theorem rows_length (done : Nat → Nat → Bool) (f old : Nat → Nat → Nat) : (rows done f old).length = 16 := by simp [rows]
theorem rows_get (done : Nat → Nat → Bool) (f old : Nat → Nat → Nat) (r k : Nat) (hr : r < 4) (hk : k < 4) : (rows done f old).getD (r * 4 + k) 0 = if done r k then f r k else old r k := by
  have h1 : (r * 4 + k) / 4 = r := by omega
  have h2 : (r * 4 + k) % 4 = k := by omega
  unfold rows
  rw [List.getD_eq_getElem?_getD, List.getElem?_map, List.getElem?_range (by omega)]
  simp only [Option.map_some, Option.getD_some, h1, h2]
theorem rows_set (done done' : Nat → Nat → Bool) (f old : Nat → Nat → Nat) (r k : Nat) (hk : k < 4) (h : ∀ r', r' < 4 → ∀ k', k' < 4 → done' r' k' = (done r' k' || (decide (r' = r) && decide (k' = k)))) :
    (rows done f old).set (r * 4 + k) (f r k) = rows done' f old := by
  apply List.ext_getElem (by simp [rows])
  intro q h1 h2
  have hq : q < 16 := by rw [rows_length] at h2; exact h2
  have hd := h (q / 4) (by omega) (q % 4) (by omega)
  rw [List.getElem_set]
  simp only [rows, List.getElem_map, List.getElem_range, hd]
  by_cases e : r * 4 + k = q
  · have e1 : q / 4 = r := by omega
    have e2 : q % 4 = k := by omega
    simp [e, e1, e2]
  · have e1 : ¬ (q / 4 = r ∧ q % 4 = k) := by omega
    rw [if_neg e]
    by_cases e2 : q / 4 = r
    · have e3 : ¬ q % 4 = k := fun h => e1 ⟨e2, h⟩
      simp [e3]
    · simp [e2]
theorem rows_all (done : Nat → Nat → Bool) (f old : Nat → Nat → Nat) (h : ∀ r, r < 4 → ∀ k, k < 4 → done r k = true) : rows done f old = (List.range 16).map fun q => f (q / 4) (q % 4) := by
  apply List.ext_getElem (by simp [rows])
  intro q h1 h2
  have hq : q < 16 := by rw [rows_length] at h1; exact h1
  simp only [rows, List.getElem_map, List.getElem_range]
  rw [if_pos (h _ (by omega) _ (by omega))]
/-- A state as the reference lays it. -/
def cellsOf (s : State) : List Nat := (List.range 16).map fun q => at_ s (q / 4) (q % 4)
theorem cellsOf_length (s : State) : (cellsOf s).length = 16 := by simp [cellsOf]
theorem cellsOf_get (s : State) (r k : Nat) (hr : r < 4) (hk : k < 4) : (cellsOf s).getD (r * 4 + k) 0 = at_ s r k := by
  have h1 : (r * 4 + k) / 4 = r := by omega
  have h2 : (r * 4 + k) % 4 = k := by omega
  unfold cellsOf
  rw [List.getD_eq_getElem?_getD, List.getElem?_map, List.getElem?_range (by omega)]
  simp only [Option.map_some, Option.getD_some, h1, h2]
theorem rows_none (f : Nat → Nat → Nat) (s : State) : rows (fun _ _ => false) f (at_ s) = cellsOf s := by simp [rows, cellsOf]
theorem rows_state (done : Nat → Nat → Bool) (s : State) (old : Nat → Nat → Nat) (h : ∀ r, r < 4 → ∀ k, k < 4 → done r k = true) : rows done (at_ s) old = cellsOf s := rows_all done (at_ s) old h
end Go.Proofs.Ytngfldlfoniklaa
