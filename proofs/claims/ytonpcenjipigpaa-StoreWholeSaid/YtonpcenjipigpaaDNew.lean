/- A new disk. Conditions: none. -/
import Derived.Test.YtonpcenjipigpaaDBrn
import Derived.Laws.MakeOwn
import Derived.Lib.MinMax
namespace Go.Proofs.Ytonpcenjipigpaa
open Go.RowKit
theorem Try.info91 : (Try.prog.info? 91).map (fun i => (i.zero, i.size, i.bytes)) = some (some (.agg (u8s (zb 64)).toArray), 64, 64) := by kernel_rfl
theorem made_zeros (N : Nat) : madeCells (u8s (zb 64)).toArray N = (u8s (zb N)).toArray := by
  apply Array.ext
  · simp [u8s_length, zb_length, size_madeCells]
  · intro i h1 h2
    have hz : ∀ k, k < 64 → (u8s (zb 64))[k]? = some (.int .u8 0) := fun k hk => by
      unfold u8s zb
      rw [List.getElem?_map, List.getElem?_replicate, if_pos hk]
      rfl
    have hl : (u8s (zb 64)).toArray.size = 64 := by simp [u8s_length, zb_length]
    have hm : i % 64 < 64 := Nat.mod_lt _ (by omega)
    have e1 : (madeCells (u8s (zb 64)).toArray N)[i] = (u8s (zb 64)).toArray[i % (u8s (zb 64)).toArray.size]! := by simp [madeCells]
    rw [e1, hl, getElem!_def]
    have := hz (i % 64) hm
    simp only [List.getElem?_toArray, this]
    simp [u8s, zb]
theorem run_make52 {N : Nat} (hN : N ≤ 4096) (w : World) : (Instr.makeSlice 49 (.int .i64 (N : Int)) (.int .i64 (N : Int))).run Try.prog w = .ok (.slice (some ⟨w.heap.size, 0, none⟩) N N) (w.alloc (.cells (u8s (zb (64 * N))).toArray 91)) := by
  obtain ⟨i, hi, hz, hs, hb⟩ := info_parts Try.info91
  have h := run_makeSlice (P := Try.prog) w 49 91 i _ Try.underlying49 hi hz .i64 .i64 (N : Int) (N : Int) (by omega) (by omega) (by rw [hs]; simp; omega) (by rw [hb]; simp; omega) (by omega)
  rw [h, hs]
  simp only [Int.toNat_natCast, Value.cells]
  rw [made_zeros, Nat.mul_comm]
/-- How many blocks there are. -/
def nOf (b : Int) : Nat := (min (max b 1) 4096).toNat
theorem nOf_bd (b : Int) : 1 ≤ nOf b ∧ nOf b ≤ 4096 := by unfold nOf; omega
theorem nOf_cast (b : Int) : (nOf b : Int) = min (max b 1) 4096 := by unfold nOf; omega
/-- A pointer to a new disk. -/
def NewD (w : World) (n : Nat) (e : Ending) (w' : World) : Prop := ∃ p foot, e = .returned (.pointer (some ⟨p, 0, none⟩)) ∧ Dsk w' foot p (St.mk0 n) ∧ (∀ k, foot k → w.heap.size ≤ k) ∧ w.grownBy w' none
theorem new_any (w : World) (b : Int) : Calls Try.prog 6 #[.int .i64 b] w (NewD w (nOf b)) := by
  obtain ⟨h1, h2⟩ := nOf_bd b
  have hc := nOf_cast b
  generalize nOf b = n at *
  have hm := fun w => run_make52 (N := n) h2 w
  rw [hc] at hm
  have HC := Lib.hid hc
  clear hc
  go_enter Try.func6, Try.ntmps6
  go_wp2
  go_ret
  have hb : Blk ((w.alloc (.cells (u8s (zb (64 * n))).toArray 91)).alloc (.cells #[.slice (some ⟨w.heap.size, 0, none⟩) n n, .slice none 0 0, .int .i64 (-1), .bool false] 52)) (w.heap.size + 1) 52 (dcells w.heap.size n (.slice none 0 0) (-1) false) := by
    have := heap_alloc_new (w.alloc (.cells (u8s (zb (64 * n))).toArray 91)) (.cells #[.slice (some ⟨w.heap.size, 0, none⟩) n n, .slice none 0 0, .int .i64 (-1), .bool false] 52)
    rw [World.size_alloc] at this
    exact this
  refine ⟨w.heap.size + 1, fun k => w.heap.size ≤ k ∧ k < w.heap.size + 2, by simp, ?_, fun k hk => hk.1, (World.grownBy_alloc _ _ _).trans (World.grownBy_alloc _ _ _)⟩
  refine ⟨w.heap.size, .slice none 0 0, zb (64 * n), [], hb, ?_, World.ownsRow_nil _ _ _ _, ⟨by omega, by omega, by omega, fun k hk => by simp [Value.ownBlock] at hk, fun k hk => by simp; omega⟩, ⟨St.mk0_ok h1 h2, zb_length _, Fit.nil _, Inv.nil _⟩⟩
  exact heap_alloc2_old w _ _
end Go.Proofs.Ytonpcenjipigpaa
