/- What the laws begin with: the example, two tables, the terms made on both. Conditions: none. -/
import Derived.Test.YtbhfjjlfpgineaaAlw
import Derived.Test.YtbhfjjlfpgineaaPlay
import Derived.Test.YtbhfjjlfpgineaaPby
namespace Go.Proofs.Ytbhfjjlfpgineaa
open Go.RowKit

theorem below_dN {B : Nat} {w w' : World} (h : Below B w w') (n : Nat) : Below B w (w'.drewN n) := ⟨h.os, h.tape, h.output, h.size, h.block⟩
section
variable {w w' : World} {B tb rb : Nat} {T : List Trm}
theorem Both.up (h : Both B w tb rb T) (hb : Below w.heap.size w w') : Both B w' tb rb T := by
  obtain ⟨ok1, ok2, t1, t2, t3, t4, t5⟩ := h
  exact ⟨ok1, ok2, t1.below hb, t2.below hb, fun b hb' => ⟨(t3 b hb').1, Nat.lt_of_lt_of_le (t3 b hb').2 hb.size⟩, fun b hb' => ⟨(t4 b hb').1, Nat.lt_of_lt_of_le (t4 b hb').2 hb.size⟩, t5⟩
theorem both_new {w0 w1 : World} (hb : w0.heap.size ≤ w1.heap.size) (h : Tbl w (fun b => w1.heap.size ≤ b ∧ b < w.heap.size) tb []) : Both w0.heap.size (w.alloc (.cells #[.slice none 0 0] 29)) tb w.heap.size [] := by
  refine ⟨_, fun b => b = w.heap.size, h.below (below_alc _ _), ⟨.slice none 0 0, [], heap_alloc_new w _, rfl, by simp [Value.ownBlock], ⟨rfl, .inl ⟨rfl, rfl⟩⟩, rfl, fun i hi => by simp at hi, by simp⟩, fun b hb' => ⟨by omega, by rw [alloc_size]; omega⟩, fun b hb' => ?_, fun b h1 h2 => by omega⟩
  subst hb'
  refine ⟨?_, by rw [alloc_size]; omega⟩
  obtain ⟨v, mb, D, _, h2, _⟩ := h
  omega
theorem Both.lists (h : Both B w tb rb T) : ∃ A c, w.cell? ⟨rb, 0, none⟩ = some (.slice A T.length c) ∧ T.length ≤ c ∧ c ≤ maxLen ∧ ∀ i (hi : i < T.length), ∃ g A' c', A = some ⟨g, 0, none⟩ ∧ w.cell? ⟨g, i * 2, none⟩ = some (.int .i64 T[i].1) ∧ w.cell? ⟨g, i * 2 + 1, none⟩ = some (.slice A' T[i].2.length c') ∧ Lst w (fun b => b < w.heap.size) A' T[i].2 := by
  obtain ⟨ok1, ok2, t1, t2, t3, t4, t5⟩ := h
  exact (t2.imp (ok' := fun b => b < w.heap.size) fun b hb _ => hb).head
theorem Both.tbl (h : Both B w tb rb T) : Tbl w (fun b => B ≤ b ∧ b < w.heap.size) tb T := by
  obtain ⟨ok1, ok2, t1, t2, t3, t4, t5⟩ := h
  exact t1.imp fun b hb h1 => ⟨(t3 b h1).1, hb⟩
theorem Both.max (h : Both B w tb rb T) : T.length ≤ 65535 := h.tbl.max
theorem Both.good (h : Both B w tb rb T) : ∀ x ∈ T, Good x := h.tbl.good
theorem Both.of (h : Both B w tb rb T) {i : Nat} (hi : i < T.length) : Calls Try.prog 11 #[.pointer (some ⟨tb, 0, none⟩), .agg (u8s (nm (i + 1))).toArray] w fun e w' => ∃ A c, e = .returned (.tuple #[.int .i64 T[i].1, .slice A T[i].2.length c, .bool true]) ∧ Lst w' (fun b => b < w'.heap.size) A T[i].2 ∧ Below w.heap.size w w' := by
  have hm := h.max
  have hn : num (nm (i + 1)) (T.length + 1) = i + 1 := by
    have := num_nm (i + 1) (T.length + 1) [] (by omega) (by omega) (by omega)
    rwa [List.append_nil] at this
  have hh := of_any h.tbl (nm_length (i + 1))
  rw [hn] at hh
  refine hh.mono fun e w2 ⟨h1, h2⟩ => ?_
  rcases h2 with ⟨h2, _⟩ | ⟨h2, A, c, _, h4, h5⟩
  · omega
  · exact ⟨A, c, h4, h5.imp fun b hb => hb.2, h1⟩
end
end Go.Proofs.Ytbhfjjlfpgineaa
