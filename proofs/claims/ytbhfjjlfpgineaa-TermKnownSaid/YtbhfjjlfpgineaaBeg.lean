/- A search at its beginning. Conditions: none. -/
import Derived.Test.YtbhfjjlfpgineaaOpn
import Derived.Laws.MakeOwn
import Derived.Laws.OwnMore
namespace Go.Proofs.Ytbhfjjlfpgineaa
open Go.RowKit

theorem info105 : (Try.prog.info? 105).map (fun i => (i.zero, i.size, i.bytes)) = some (some (.slice none 0 0), 1, 24) := by kernel_rfl
theorem info4 : (Try.prog.info? 4).map (fun i => (i.zero, i.size, i.bytes)) = some (some (.bool false), 1, 1) := by kernel_rfl
theorem run_mk55 {N : Nat} (hN : N ≤ 70000) (w : World) : (Instr.makeSlice 55 (.int .i64 (N : Int)) (.int .i64 (N : Int))).run Try.prog w = .ok (.slice (some ⟨w.heap.size, 0, none⟩) N N) (w.alloc (.cells (List.replicate N (Value.bool false)).toArray 4)) := by
  obtain ⟨i, hi, h0, h1, h2⟩ := info_parts info4
  have h := run_make (P := Try.prog) w 55 4 i (.bool false) Try.underlying55 hi h0 .i64 .i64 (N : Int) (N : Int) (by omega) (by omega) (by rw [h2]; omega) (by omega)
  rw [Int.toNat_natCast, h1, Nat.mul_one] at h
  rw [h]
  have e : madeCells #[Value.bool false] N = (List.replicate N (Value.bool false)).toArray := by
    rw [← toList_madeCells_one (Value.bool false) N]
  rw [show (Value.bool false).cells = #[Value.bool false] from rfl, e]
theorem run_mk84 {N : Nat} (hN : N ≤ 70000) (w : World) : (Instr.makeSlice 84 (.int .i64 (N : Int)) (.int .i64 (N : Int))).run Try.prog w = .ok (.slice (some ⟨w.heap.size, 0, none⟩) N N) (w.alloc (.cells (List.replicate N (Value.slice none 0 0)).toArray 105)) := by
  obtain ⟨i, hi, h0, h1, h2⟩ := info_parts info105
  have h := run_make (P := Try.prog) w 84 105 i (.slice none 0 0) Try.underlying84 hi h0 .i64 .i64 (N : Int) (N : Int) (by omega) (by omega) (by rw [h2]; omega) (by omega)
  rw [Int.toNat_natCast, h1, Nat.mul_one] at h
  rw [h]
  have e : madeCells #[Value.slice none 0 0] N = (List.replicate N (Value.slice none 0 0)).toArray := by
    rw [← toList_madeCells_one (Value.slice none 0 0) N]
  rw [show (Value.slice none 0 0).cells = #[Value.slice none 0 0] from rfl, e]

def g0 (sb nb wb : Nat) : Gh := ⟨fun b => if b = sb then .sb else if b = nb then .nb else if b = wb then .wb else .still, fun _ => 0⟩
theorem Mem.start {C : Cs} {T : List Trm} {w : World} {bx : Nat → Prop} (hbx : ∀ n, ¬ bx n) (hx : C.x = 0) (hn : w.heap[C.nb]? = some (.cells (List.replicate C.N (Value.bool false)).toArray 4 (0, 0))) (hw : w.heap[C.wb]? = some (.cells (List.replicate C.N (Value.slice none 0 0)).toArray 105 (0, 0)))
    (hk : w.heap[C.kb]? = some (.cells #[.slice (some ⟨C.nb, 0, none⟩) C.N C.N] 83 (0, 0))) (hs : w.heap[C.sb]? = some (.cells #[ptr C.kb, .slice none 0 0, .slice (some ⟨C.wb, 0, none⟩) C.N C.N] 86 (0, 0)))
    (b1 : C.base ≤ C.nb) (b2 : C.base ≤ C.wb) (b3 : C.base ≤ C.sb) (b4 : C.base ≤ w.heap.size) (d1 : C.nb ≠ C.wb) (d2 : C.nb ≠ C.kb) (d3 : C.nb ≠ C.sb) (d4 : C.wb ≠ C.kb) (d5 : C.wb ≠ C.sb) (d6 : C.kb ≠ C.sb) :
    Mem C T w (g0 C.sb C.nb C.wb) bx (sch0 C.N) := by
  have l1 := lt_of_block hn
  have l2 := lt_of_block hw
  have l3 := lt_of_block hk
  have l4 := lt_of_block hs
  refine ⟨fun b hb => ?_, fun b hb => ?_, b4, if_pos rfl, ?_, ?_, ⟨⟨l3, ?_⟩, by rw [cell_of_block hk]; rfl⟩, ⟨.slice none 0 0, hs, World.ownsRow_nil _ _ _ _, fun b hb => by simp [Value.ownBlock] at hb⟩, ?_, by simp [sch0], ⟨_, hw, by simp, fun m hm _ => ?_⟩, by simp [sch0], fun n hn => absurd hn (hbx n), by simp [sch0], .inl hx⟩
  · show (if b = C.sb then Role.sb else if b = C.nb then .nb else if b = C.wb then .wb else .still) = .still
    rw [if_neg (by omega), if_neg (by omega), if_neg (by omega)]
  · have hb' : (if b = C.sb then Role.sb else if b = C.nb then .nb else if b = C.wb then .wb else .still) ≠ .still := hb
    by_cases e1 : b = C.sb
    · omega
    · by_cases e2 : b = C.nb
      · omega
      · by_cases e3 : b = C.wb
        · omega
        · rw [if_neg e1, if_neg e2, if_neg e3] at hb'
          exact absurd rfl hb'
  · show (if C.nb = C.sb then Role.sb else if C.nb = C.nb then .nb else if C.nb = C.wb then .wb else .still) = .nb
    rw [if_neg d3, if_pos rfl]
  · show (if C.wb = C.sb then Role.sb else if C.wb = C.nb then .nb else if C.wb = C.wb then .wb else .still) = .wb
    rw [if_neg d5, if_neg (Ne.symm d1), if_pos rfl]
  · show (if C.kb = C.sb then Role.sb else if C.kb = C.nb then .nb else if C.kb = C.wb then .wb else .still) = .still
    rw [if_neg d6, if_neg (Ne.symm d2), if_neg (Ne.symm d4)]
  · rw [hn]
    simp [sch0]
  · have e : (List.replicate C.N (Value.slice none 0 0))[m] = .slice none 0 0 := by simp
    rw [e, row_sch0]
    exact ⟨[], World.ownsRow_nil _ _ _ _, fun b hb => by simp [Value.ownBlock] at hb, fun i hi => by simp at hi⟩
end Go.Proofs.Ytbhfjjlfpgineaa
