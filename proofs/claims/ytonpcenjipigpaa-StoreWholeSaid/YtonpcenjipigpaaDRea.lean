/- Read of a disk. Conditions: none. -/
import Derived.Test.YtonpcenjipigpaaDNew
namespace Go.Proofs.Ytonpcenjipigpaa
open Go.RowKit
theorem lay_full {xs ys : List UInt8} (h : xs.length = ys.length) : lay xs ys = xs := by
  unfold lay
  rw [← h, List.take_length, List.drop_eq_nil_of_le (Nat.le_of_eq h.symm), List.append_nil]
theorem lay_over {xs a b : List UInt8} (h : xs.length = a.length) : lay xs (a ++ b) = xs ++ b := by
  unfold lay
  rw [List.take_of_length_le (by simp [h]), h, List.drop_left]
theorem mid_parts (B : List UInt8) (i : Nat) : u8s B = u8s (B.take (64 * i)) ++ u8s (blk B i) ++ u8s (B.drop (64 * i + 64)) := by
  rw [← u8s_append, ← u8s_append, List.append_assoc, ← parts]
theorem run_make64 (w : World) : (Instr.makeSlice 40 (.int .i64 64) (.int .i64 64)).run Try.prog w = .ok (.slice (some ⟨w.heap.size, 0, none⟩) 64 64) (w.alloc (.cells (u8s (zb 64)).toArray 5)) := by
  obtain ⟨i, hi, hz, hs, hb⟩ := info_parts Try.info5
  have h := run_makeSlice (P := Try.prog) w 40 5 i _ Try.underlying40 hi hz .i64 .i64 64 64 (by omega) (by omega) (by rw [hs]; simp) (by rw [hb]; simp) (by omega)
  rw [h, hs]
  have e : madeCells (Value.int .u8 0).cells (Int.toNat 64 * 1) = (u8s (zb 64)).toArray := by
    rw [show (Value.int .u8 0).cells = #[Value.int .u8 0] from rfl]
    apply Array.toList_inj.1
    rw [toList_madeCells_one]
    rfl
  rw [e]
  rfl
theorem run_index52 (w : World) (g n c i : Nat) (hi : i < n) : (Instr.indexAt 49 (.slice (some ⟨g, 0, none⟩) n c) (.int .i64 (i : Int))).run Try.prog w = .ok (.pointer (some ⟨g, 64 * i, none⟩)) w := by
  have h := run_indexAt_slice (P := Try.prog) w 49 ⟨g, 0, none⟩ n c .i64 (i : Int) (by kernel_rfl)
  have hc : (0 : Int) ≤ (i : Int) ∧ (i : Int) < (n : Int) := by omega
  have hs : (sizeOf (Try.prog.elem 49)).run Try.prog w = .ok 64 w := by kernel_rfl
  rw [if_pos hc, hs] at h
  rw [h]
  simp [Addr.add_mid, Nat.mul_comm]
/-- What Read answers of a block. -/
def ReadOk (w : World) (b : List UInt8) (e : Ending) (w' : World) : Prop :=
  ∃ g, e = .returned (.tuple #[.slice (some ⟨g, 0, none⟩) 64 64, .int .i64 0]) ∧ Blk w' g 5 (u8s b) ∧ w.heap.size ≤ g ∧ w.grownBy w' none
section
variable {foot : Nat → Prop} {w : World} {p : Nat} {s : St}
theorem has_yes (h : Dsk w foot p s) {i : Nat} (hi : i < s.n) : Calls Try.prog 54 #[.pointer (some ⟨p, 0, none⟩), .int .i64 (i : Int)] w fun e w' => e = .returned (.bool true) ∧ w = w' :=
  (has_any h (i : Int)).mono fun e w' ⟨he, hw⟩ => ⟨he.trans (bool_end (by simpa using hi)), hw⟩
theorem has_no (h : Dsk w foot p s) {a : Int} (ha : ¬ (0 ≤ a ∧ a < (s.n : Int))) : Calls Try.prog 54 #[.pointer (some ⟨p, 0, none⟩), .int .i64 a] w fun e w' => e = .returned (.bool false) ∧ w = w' :=
  (has_any h a).mono fun e w' ⟨he, hw⟩ => ⟨he.trans (bool_end (by simpa using ha)), hw⟩
theorem read_no (h : Dsk w foot p s) {a : Int} (ha : ¬ (0 ≤ a ∧ a < (s.n : Int))) : Calls Try.prog 51 #[.pointer (some ⟨p, 0, none⟩), .int .i64 a] w fun e w' => e = .returned (.tuple #[.slice none 0 0, .int .i64 1]) ∧ w = w' := by
  have HC := Lib.hid (has_no h ha)
  clear ha
  go_enter Try.func51, Try.ntmps51
  go_wp2_with (first | (go_at_call 54; refine HC.out.mono ?_; rintro e w1 ⟨rfl, rfl⟩) | fail)
  go_ret2
  exact ⟨rfl, rfl⟩
theorem read_dead (h : Dsk w foot p s) {i : Nat} (hi : i < s.n) (hd : s.dead = true) : Calls Try.prog 51 #[.pointer (some ⟨p, 0, none⟩), .int .i64 (i : Int)] w fun e w' => e = .returned (.tuple #[.slice none 0 0, .int .i64 150]) ∧ w = w' := by
  have HC := Lib.hid (has_yes h hi)
  obtain ⟨gb, Wv, B, W, h1, h2, h3, h4, h5⟩ := h
  have c3 : w.cell? ⟨p, 3, none⟩ = some (.bool s.dead) := h1.get 3 _ rfl
  rw [hd] at c3
  clear h1 h2 h3 h4 h5 hi hd
  go_enter Try.func51, Try.ntmps51
  go_wp2_with (first | (go_at_call 54; refine HC.out.mono ?_; rintro e w1 ⟨rfl, rfl⟩) | fail)
  go_ret2
  exact ⟨rfl, rfl⟩
set_option maxHeartbeats 800000 in
theorem read_yes (h : Dsk w foot p s) {i : Nat} (hi : i < s.n) (hd : s.dead = false) : Calls Try.prog 51 #[.pointer (some ⟨p, 0, none⟩), .int .i64 (i : Int)] w (ReadOk w (blk (redo s.K s.L) i)) := by
  have HC := Lib.hid (has_yes h hi)
  obtain ⟨gb, Wv, B, W, h1, h2, h3, h4, h5⟩ := h
  have c3 : w.cell? ⟨p, 3, none⟩ = some (.bool s.dead) := h1.get 3 _ rfl
  have c0 : w.cell? ⟨p, 0, none⟩ = some (.slice (some ⟨gb, 0, none⟩) s.n s.n) := h1.get 0 _ rfl
  rw [hd] at c3
  have hB := h5.inv.now
  have hlt := h4.lt gb h4.hgb
  have hl : (blk B i).length = 64 := blk_length h5.len hi
  rw [← hB]
  rw [mid_parts B i] at h2
  have hx : Byt w (fun b => b = gb) (some ⟨gb, 64 * i, none⟩) (blk B i) := h2.byt (by rw [u8s_length, List.length_take, h5.len]; omega)
  have hx2 : Byt (w.alloc (.cells (u8s (zb 64)).toArray 5)) (fun b => b = gb) (some ⟨gb, 64 * i, none⟩) (blk B i) := hx.grown (World.grownBy_alloc _ _ none) (fun b hb => ⟨by omega, by simp⟩)
  have hb2 : Blk (w.alloc (.cells (u8s (zb 64)).toArray 5)) w.heap.size 5 ([] ++ u8s (zb 64) ++ []) := by
    have := Blk.of_alloc w (u8s (zb 64)).toArray 5
    simpa using this
  have c0' : (w.alloc (.cells (u8s (zb 64)).toArray 5)).cell? ⟨p, 0, none⟩ = some (.slice (some ⟨gb, 0, none⟩) s.n s.n) := by
    rw [World.cell?_alloc_lt _ _ _ (World.block_lt_of_cell? w _ c0)]
    exact c0
  have HX := Lib.hid hx2
  have HB := Lib.hid hb2
  have HL := Lib.hid hl
  have hm := run_make64
  have hix := fun w => run_index52 w gb s.n s.n i hi
  clear h1 h2 h3 h4 h5 hd hB hlt hl hx hx2 hb2 c0
  go_enter Try.func51, Try.ntmps51
  go_wp2_with (first | (go_at_call 54; refine HC.out.mono ?_; rintro e w1 ⟨rfl, rfl⟩) | (refine wpList_copy_blk rfl _ _ rfl w.heap.size 0 64 64 64 64 (some ⟨gb, 64 * i, none⟩) (blk B i) (zb 64) rfl rfl HL.out (zb_length _) 5 [] [] HB.out rfl _ HX.out 64 (by rw [HL.out, zb_length]; rfl) ?_) | fail)
  intro w2 hb3 hg hz
  rw [lay_full (by rw [HL.out, zb_length])] at hb3
  have HB3 := Lib.hid hb3
  have HG := Lib.hid hg
  clear hb3 hg hz
  go_wp2
  go_ret2
  refine ⟨w.heap.size, rfl, by simpa using HB3.out, Nat.le_refl _, ?_⟩
  exact World.grownBy.andThen (World.grownBy_alloc _ _ none) HG.out (by rintro j ⟨⟩; exact .inl (Nat.le_refl _))
end
end Go.Proofs.Ytonpcenjipigpaa
