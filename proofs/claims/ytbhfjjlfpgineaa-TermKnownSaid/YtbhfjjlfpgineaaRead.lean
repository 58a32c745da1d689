/- read tells a term's kind and parts, in new memory. Conditions: the number is a term's. -/
import Derived.Test.YtbhfjjlfpgineaaTab
namespace Go.Proofs.Ytbhfjjlfpgineaa
open Go.RowKit

/-- A text's bytes, in new memory. -/
theorem str_bytes (w : World) (s : ByteArray) (xs : List UInt8) (hs : s.data.toList = xs) (hm : s.size ≤ maxLen) :
    ∃ c w1, (convert 9 41 (.string s)).run Try.prog w = .ok (.slice (some ⟨w.heap.size, 0, none⟩) s.size c) w1 ∧ s.size ≤ c ∧ c ≤ maxLen ∧ Byt w1 (fun b => w.heap.size ≤ b ∧ b < w1.heap.size) (some ⟨w.heap.size, 0, none⟩) xs ∧ Below w.heap.size w w1 := by
  refine ⟨_, _, run_bytes_of_string w 9 41 5 s Try.underlying9 Try.underlying41 Try.underlying5, grownCap_ge _ _ _ _, grownCap_le_maxLen _ _ _ _ hm, ?_, ((Below.refl _ _).drew.alloc (Nat.le_refl _) _)⟩
  intro j hj
  refine ⟨_, rfl, ⟨Nat.le_refl _, by simp⟩, ?_⟩
  rw [Addr.add_lit, Nat.zero_add]
  have hb : (w.drew.alloc (.cells (bytesRow s (grownCap w s.size 0 5)) 5 ((bytesRow s (grownCap w s.size 0 5)).size, (bytesRow s (grownCap w s.size 0 5)).size + 1))).heap[w.heap.size]? = _ := heap_alloc_new w.drew _
  rw [cell_of_block hb]
  subst hs
  unfold bytesRow
  rw [Array.getElem?_append_left (by simpa using hj)]
  simp at hj
  simp [hj]
/-- A term is told, in new memory. -/
def TermE (w : World) (x : Trm) (e : Ending) (w' : World) : Prop :=
  ∃ A c, e = .returned (.tuple #[.int .i64 x.1, .slice A x.2.length c]) ∧ Lst w' (fun b => w.heap.size ≤ b ∧ b < w'.heap.size) A x.2 ∧ Below w.heap.size w w'
set_option maxRecDepth 100000 in
set_option maxHeartbeats 1000000 in
theorem read_any {w : World} {ok : Nat → Prop} {tb : Nat} {T : List Trm} {j : Nat} (h : Tbl w ok tb T) (hj : j < T.length) : Calls Try.prog 27 #[.pointer (some ⟨tb, 0, none⟩), .int .i64 ((j : Int) + 1)] w (TermE w T[j]) := by
  have hmax := h.max
  obtain ⟨A, c, hc, h1, h2, h3⟩ := h.head
  obtain ⟨g, rfl, hg⟩ := h3 j hj
  have hgood := h.good _ (List.getElem_mem hj)
  obtain ⟨x, hx⟩ : ∃ x, T[j] = x := ⟨_, rfl⟩
  rw [hx] at hg hgood ⊢
  obtain ⟨s, hs⟩ : ∃ s : ByteArray, (⟨(txt x).toArray⟩ : ByteArray) = s := ⟨_, rfl⟩
  have hl := txt_length hgood
  have hsz : s.size = (txt x).length := by rw [← hs]; rfl
  have hs1 : 1 ≤ s.size := by omega
  have hs2 : s.size ≤ 262274 := by omega
  have hcell : w.cell? ⟨g, j, none⟩ = some (.string s) := by rw [← hs]; exact hg
  have q1 : IntKind.i64.wrap ((j : Int) + 1 - 1) = (j : Int) := by rw [IntWalk.i64_in _ (by omega)]; omega
  have q2 : (j : Int) < (T.length : Int) := by omega
  have HS := Lib.hid hs
  have HSZ := Lib.hid hsz
  unfold maxLen at h2
  have hext : (s.extract 1 s.size).data.toList = jn x.2 := by
    rw [← hs]
    show ((⟨(txt x).toArray⟩ : ByteArray).extract 1 (txt x).length).data.toList = jn x.2
    rw [Lib.extract_data]
    simp [txt]
  have hexs : (s.extract 1 s.size).size = s.size - 1 := by simp
  obtain ⟨c', w1, r1, hc1, hc2, hb1, hbl⟩ := str_bytes w (s.extract 1 s.size) _ hext (by rw [hexs]; unfold maxLen; omega)
  have hjl : (jn x.2).length = s.size - 1 := by rw [← hexs, ← hext]; rfl
  rw [hexs] at hc1
  have HP : Hid (Calls Try.prog 41 #[.slice (some ⟨w.heap.size, 0, none⟩) (s.size - 1) c'] w1 (SplitE w1 (jn x.2))) := by
    have := split_any (c := c') hb1 (fun b hb => hb.2) (by rw [hjl]; exact hc1) hc2
    rw [hjl] at this
    exact this
  have hk0 : ∀ W : World, (Instr.index 9 (.string s) (.int .i64 0)).run Try.prog W = .ok (.int .u8 (x.1 : Int)) W := fun W => by
    have hk := hgood.2.1
    subst hs
    rw [run_index_string W 9 _ .i64 0 Try.underlying9, dif_pos ⟨by omega, by omega⟩]
    have e : (UInt8.ofNat x.1).toNat = x.1 := by rw [u8_ofNat]; omega
    show Result.ok (Value.int .u8 ((UInt8.ofNat x.1).toNat : Int)) W = _
    rw [e]
  have hkw : x.1 ≤ 8 := hgood.2.1
  clear hs hsz hg h3 hx hext hjl
  go_enter Try.func27, Try.ntmps27
  go_wp2_with fail
  go_at_call 41
  refine HP.out.mono ?_
  rintro e w2 ⟨A2, c2, rfl, h21, h22, h23, h24⟩
  have hspl := split_jn x.2 hgood.2.2
  rw [hspl] at h23
  rw [hspl]
  have hb2 : Below w.heap.size w w2 := hbl.trans (h24.mono hbl.size)
  go_wp2
  go_ret2
  refine ⟨A2, c2, rfl, ?_, hb2⟩
  exact h23.imp fun b (hb : w1.heap.size ≤ b ∧ b < w2.heap.size) => ⟨Nat.le_trans hbl.size hb.1, hb.2⟩
end Go.Proofs.Ytbhfjjlfpgineaa
