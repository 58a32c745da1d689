/- The reference's fold: what it needs. Conditions: none. -/
import Derived.Test.YtoookolekpblhaaDoorNum2
namespace Go.Proofs.YtoookolekpblhaaDoor
open Go.RowKit
theorem run_int1 (w : World) (n : Nat) : (Instr.buildSlice 43 1 #[(0, .int .i64 (n : Int))]).run Tryd.prog w = .ok (.slice (some ⟨w.heap.size, 0, none⟩) 1 1) (w.alloc (.cells (ints [n]).toArray 3)) := by kernel_rfl
section
variable {w : World} {ops : Array Oper} {rest : List Oper} {o : Oper} {a : Act} {Q : Exit → Act → World → Prop}
theorem wpList_int1 (hgd : o.guard = none) (x : Operand) (ho : o.op = .buildSlice 43 1 #[(0, x)]) (n : Nat) (hx : a.eval x = .int .i64 (n : Int))
    (h : ∀ w', Blk w' w.heap.size 3 (ints [n]) → w.grownBy w' none → w'.heap.size = w.heap.size + 1 → wpList Tryd.prog ops Q rest (a.put o.dst (.slice (some ⟨w.heap.size, 0, none⟩) 1 1)) w') : wpList Tryd.prog ops Q (o :: rest) a w := by
  refine wpList_plain hgd fun K hK => ?_
  have hrun := run_int1 w n
  unfold Oper.wp
  simp only [execOp, ho, List.map_toArray, List.map_cons, List.map_nil, hx, Sem.run_bind, hrun, Result.andThen_ok, Sem.run_pure]
  exact hK _ _ (h _ (Blk.of_alloc w _ 3) (World.grownBy_alloc w _ none) (World.size_alloc w _))
theorem blk_owns {b K cap : Nat} {D : List Nat} {post : List Value} (hK : D.length = K) (hb : Blk w b 3 (ints D ++ post)) (hc : K ≤ cap) (hm : cap ≤ maxLen) (hl : (ints D ++ post).length = cap) : w.ownsRow 0 3 1 (.slice (some ⟨b, 0, none⟩) K cap) K (ints D) := by
  subst hK
  refine ⟨by rw [ints_length, Nat.mul_one], .inr ⟨b, cap, (ints D ++ post).toArray, rfl, Nat.zero_le _, hb, hc, hm, by rw [List.size_toArray, hl, Nat.mul_one], ?_⟩⟩
  rw [Nat.mul_one, List.take_append_of_le_length (by rw [ints_length]; exact Nat.le_refl _), List.take_of_length_le (by rw [ints_length]; exact Nat.le_refl _)]
theorem owns_blk {b K cap : Nat} {D : List Nat} (h : w.ownsRow 0 3 1 (.slice (some ⟨b, 0, none⟩) K cap) K (ints D)) : ∃ post, Blk w b 3 (ints D ++ post) ∧ K ≤ cap ∧ cap ≤ maxLen ∧ (ints D ++ post).length = cap := by
  rcases h.2 with ⟨e1, _⟩ | ⟨g', cap', cur, e1, _, hg, h1, h2, hs, ht⟩
  · cases e1
  · cases e1
    have he : ints D ++ cur.toList.drop K = cur.toList := by rw [← ht, Nat.mul_one, List.take_append_drop]
    refine ⟨cur.toList.drop K, ?_, h1, h2, ?_⟩
    · unfold Blk
      rw [hg, he]
    · rw [he]
      simpa using hs
theorem wpList_append_int (hgd : o.guard = none) (s x : Operand) (ho : o.op = .call { callee := .builtin .append, args := #[s, x], argTypes := #[43, 43] })
    (b K cap : Nat) (D : List Nat) (post : List Value) (hK : D.length = K) (hb : Blk w b 3 (ints D ++ post)) (hc : K ≤ cap) (hm : cap ≤ maxLen) (hl : (ints D ++ post).length = cap) (hs : a.eval s = .slice (some ⟨b, 0, none⟩) K cap)
    (g1 y : Nat) (hy : Blk w g1 3 (ints [y])) (hx : a.eval x = .slice (some ⟨g1, 0, none⟩) 1 1) (hle : K ≤ 1000)
    (h : ∀ b' cap' post' w', Blk w' b' 3 (ints (D ++ [y]) ++ post') → K + 1 ≤ cap' → cap' ≤ maxLen → (ints (D ++ [y]) ++ post').length = cap' → w.grownBy w' (some b) → (b' = b ∨ b' = w.heap.size) → wpList Tryd.prog ops Q rest (a.put o.dst (.slice (some ⟨b', 0, none⟩) (K + 1) cap')) w') : wpList Tryd.prog ops Q (o :: rest) a w := by
  refine wpList_plain hgd fun Kk hKk => ?_
  obtain ⟨i0, hi, hz0, hz1, hz2⟩ := info_parts Tryd.info3
  obtain ⟨v', w', hr, h2, h3, _, h5⟩ := run_append_own_at (P := Tryd.prog) w 0 43 o.type 3 i0 (.int .i64 0) 1 8 Tryd.underlying43 hi hz0 hz1 hz2 rfl (by omega) (.slice (some ⟨b, 0, none⟩) K cap) K (ints D) (blk_owns hK hb hc hm hl) ⟨g1, 0, none⟩ 1 1 (ints [y]) rfl
    (fun j u hu => by
      rw [Addr.add_lit, Nat.zero_add]
      exact hy.get j u hu) (ints_one _) (by unfold maxLen; omega) (by omega) (Nat.zero_le _)
  rw [← ints_append] at h2
  rcases h2.2 with ⟨rfl, e0⟩ | ⟨b', cap', cur, rfl, _, hg', _⟩
  · omega
  · obtain ⟨post', hb', hc', hm', hl'⟩ := owns_blk h2
    unfold Oper.wp execOp
    simp only [ho, resolve, invoke, builtin, Sem.run_bind, Sem.run_pure, Result.andThen_ok, List.map_toArray, List.map_cons, List.map_nil, hs, hx, hr]
    refine hKk _ _ (h b' cap' post' w' hb' hc' hm' hl' h3 ?_)
    rcases h5 with h5 | h5
    · exact .inl (by simpa [Value.ownBlock] using h5)
    · exact .inr (by simpa [Value.ownBlock] using h5)
end
end Go.Proofs.YtoookolekpblhaaDoor
