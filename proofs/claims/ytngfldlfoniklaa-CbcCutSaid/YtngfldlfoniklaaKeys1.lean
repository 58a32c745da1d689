/- Words as slices of four numbers, collected in a slice of the call's own. Conditions: none. -/
import Derived.Test.YtngfldlfoniklaaCod11
import Derived.Deep.AppendLies
namespace Go.Proofs.Ytngfldlfoniklaa
open Go.RowKit
/-- Numbers lie at the beginning of a block. -/
def T4 (w : World) (g : Nat) (ys : List Nat) : Prop := ∃ rest, Blk w g 3 (ints ys ++ rest)
section
variable {w w' : World} {g : Nat} {ys : List Nat}
theorem T4.keep (h : T4 w g ys) (hk : w'.heap[g]? = w.heap[g]?) : T4 w' g ys := by
  obtain ⟨rest, hb⟩ := h
  exact ⟨rest, hb.keep hk⟩
theorem T4.lt (h : T4 w g ys) : g < w.heap.size := by
  obtain ⟨rest, hb⟩ := h
  exact hb.lt
theorem T4.grown (h : T4 w g ys) {row : Option Nat} (hg : w.grownBy w' row) (hr : some g ≠ row) : T4 w' g ys := h.keep (hg.block g h.lt hr)
theorem T4.get (h : T4 w g ys) (r : Nat) (hr : r < ys.length) : w.cell? ⟨g, r, none⟩ = some (.int .i64 ((ys.getD r 0 : Nat) : Int)) := by
  obtain ⟨rest, hb⟩ := h
  refine hb.get r _ ?_
  rw [List.getElem?_append_left (by rw [ints_length]; exact hr)]
  exact ints_get _ _ hr
theorem T4.frozen (h : T4 w g ys) (r : Nat) : w.frozen? ⟨g, r, none⟩ = false := by
  obtain ⟨rest, hb⟩ := h
  exact hb.frozen r
theorem T4.set (h : T4 w g ys) (r n : Nat) (hr : r < ys.length) : T4 (w.setCell ⟨g, r, none⟩ (.int .i64 (n : Int))) g (ys.set r n) := by
  obtain ⟨rest, hb⟩ := h
  have h1 := hb.set r (.int .i64 (n : Int))
  rw [List.set_append_left _ _ (by rw [ints_length]; exact hr), ints_set] at h1
  exact ⟨rest, h1⟩
theorem T4.blk (h : Blk w g 3 (ints ys)) : T4 w g ys := ⟨[], by simpa using h⟩
theorem T4.own {B cap : Nat} (h : w.ownsRow B 3 1 (.slice (some ⟨g, 0, none⟩) 4 cap) 4 (ints ys)) : T4 w g ys ∧ 4 ≤ cap := by
  rcases h.2 with ⟨e, _⟩ | ⟨g', cap', cur, e, _, hg, hc, _, _, ht⟩
  · cases e
  · cases e
    refine ⟨⟨cur.toList.drop 4, ?_⟩, hc⟩
    unfold Blk
    rw [hg, ← ht]
    simp
end
/-- n numbers, the first k of them told. -/
def pl (n : Nat) (f old : Nat → Nat) (k : Nat) : List Nat := (List.range n).map fun j => if j < k then f j else old j
section
variable (n : Nat) (f old : Nat → Nat) (k : Nat)
theorem pl_length : (pl n f old k).length = n := by simp [pl]
theorem pl_get (j : Nat) (hj : j < n) : (pl n f old k).getD j 0 = if j < k then f j else old j := by
  unfold pl
  rw [List.getD_eq_getElem?_getD, List.getElem?_map, List.getElem?_range hj]
  rfl
theorem pl_set : (pl n f old k).set k (f k) = pl n f old (k + 1) := by
  apply List.ext_getElem (by simp [pl])
  intro q h1 h2
  rw [List.getElem_set]
  simp only [pl, List.getElem_map, List.getElem_range]
  by_cases e : k = q
  · subst e; simp
  · have : (q < k + 1) = (q < k) := by simp; omega
    simp [e, this]
end
/-- Words in a slice of the call's own: each in a block of the call's own, none in the slice's own block. -/
def Wps (w : World) (B : Nat) (v : Value) (ws : List (List Nat)) : Prop :=
  ∃ vals : List Value, w.ownsRow B 40 1 v ws.length vals ∧ ∀ n, n < ws.length → ∃ gt c, vals[n]? = some (.slice (some ⟨gt, 0, none⟩) 4 c) ∧ 4 ≤ c ∧ B ≤ gt ∧ gt < w.heap.size ∧ v.ownBlock ≠ some gt ∧ T4 w gt (ws.getD n [])
section
variable {w w1 w2 w3 : World} {B : Nat} {v : Value} {ws : List (List Nat)}
theorem Wps.nil (w : World) (B : Nat) : Wps w B (.slice none 0 0) [] := ⟨[], World.ownsRow_nil w B 40 1, fun _ h => absurd h (by simp)⟩
theorem Wps.grown (h : Wps w B v ws) (hg : w.grownBy w1 none) : Wps w1 B v ws := by
  obtain ⟨vals, ho, hp⟩ := h
  refine ⟨vals, ho.kept hg (by cases hv : v.ownBlock <;> simp), fun n hn => ?_⟩
  obtain ⟨gt, c, e1, e2, e3, e4, e5, e6⟩ := hp n hn
  exact ⟨gt, c, e1, e2, e3, Nat.lt_of_lt_of_le e4 hg.size, e5, e6.grown hg (by simp)⟩
theorem Wps.form (h : Wps w B v ws) (h0 : 0 < ws.length) : ∃ g cap, v = .slice (some ⟨g, 0, none⟩) ws.length cap := by
  obtain ⟨vals, ho, _⟩ := h
  obtain ⟨g, cap, e, _⟩ := ho.form h0
  exact ⟨g, cap, e⟩
theorem Wps.read {g cap : Nat} (h : Wps w B (.slice (some ⟨g, 0, none⟩) ws.length cap) ws) (n : Nat) (hn : n < ws.length) : ∃ gt c, w.cell? ⟨g, n, none⟩ = some (.slice (some ⟨gt, 0, none⟩) 4 c) ∧ 4 ≤ c ∧ B ≤ gt ∧ gt < w.heap.size ∧ T4 w gt (ws.getD n []) := by
  obtain ⟨vals, ho, hp⟩ := h
  obtain ⟨gt, c, e1, e2, e3, e4, _, e6⟩ := hp n hn
  have h1 := ho.cells (g := g) rfl n _ e1
  rw [Addr.add_lit, Nat.zero_add] at h1
  exact ⟨gt, c, h1, e2, e3, e4, e6⟩
theorem Wps.push {gt c g' cap : Nat} {y : List Nat} {vals : List Value} (h : Wps w B v ws) (hvals : w.ownsRow B 40 1 v ws.length vals) (hg : w.grownBy w1 none) (h1 : w.heap.size ≤ gt) (hB : B ≤ w.heap.size) (hc : 4 ≤ c) (hT : T4 w1 gt y)
    (hg2 : w1.grownBy w2 none) (hz2 : w2.heap.size = w1.heap.size + 1)
    (hown : w3.ownsRow B 40 1 (.slice (some ⟨g', 0, none⟩) (ws.length + 1) cap) (ws.length + 1) (vals ++ [.slice (some ⟨gt, 0, none⟩) 4 c])) (hg3 : w2.grownBy w3 v.ownBlock) (hat : v.ownBlock = some g' ∨ g' = w2.heap.size) :
    Wps w3 B (.slice (some ⟨g', 0, none⟩) (ws.length + 1) cap) (ws ++ [y]) := by
  obtain ⟨vals', ho, hp⟩ := h
  have hvv : vals' = vals := by
    rcases ho.2 with ⟨rfl, e0⟩ | ⟨g, cap, cur, rfl, _, hh, _, _, _, ht⟩
    · have l1 := ho.1
      have l2 := hvals.1
      have n1 : vals' = [] := List.eq_nil_of_length_eq_zero (by omega)
      have n2 : vals = [] := List.eq_nil_of_length_eq_zero (by omega)
      rw [n1, n2]
    · rcases hvals.2 with ⟨e, _⟩ | ⟨g', cap', cur', e, _, hh', _, _, _, ht'⟩
      · cases e
      · cases e
        rw [hh] at hh'
        injection hh' with hh'
        injection hh' with hcur
        rw [← ht, ← ht', hcur]
  subst hvv
  have hlen : vals'.length = ws.length := by have := ho.1; omega
  have hgt1 := hT.lt
  have hs3 := hg3.size
  have hs1 := hg.size
  have hlt := ho.lt
  refine ⟨vals' ++ [.slice (some ⟨gt, 0, none⟩) 4 c], by simpa using hown, fun n hn => ?_⟩
  by_cases e : n < ws.length
  · obtain ⟨gn, cn, e1, e2, e3, e4, e5, e6⟩ := hp n e
    refine ⟨gn, cn, by rw [List.getElem?_append_left (by omega)]; exact e1, e2, e3, by omega, fun e7 => ?_, ?_⟩
    · have e8 : g' = gn := by injection e7
      rcases hat with h | h
      · exact e5 (by rw [h, e8])
      · omega
    · rw [List.getD_eq_getElem?_getD, List.getElem?_append_left e, ← List.getD_eq_getElem?_getD]
      exact ((e6.grown hg (by simp)).grown hg2 (by simp)).grown hg3 (fun h => e5 h.symm)
  · have en : n = ws.length := by rw [List.length_append, List.length_singleton] at hn; omega
    subst en
    have hne : v.ownBlock ≠ some gt := fun h => by have := (hlt gt h).2; omega
    refine ⟨gt, c, by rw [List.getElem?_append_right (by omega), hlen, Nat.sub_self]; rfl, hc, by omega, by omega, fun e7 => ?_, ?_⟩
    · have e8 : g' = gt := by injection e7
      rcases hat with h | h
      · exact hne (by rw [h, e8])
      · omega
    · rw [List.getD_eq_getElem?_getD, List.getElem?_append_right (Nat.le_refl _), Nat.sub_self]
      exact (hT.grown hg2 (by simp)).grown hg3 (fun h => hne h.symm)
end
theorem run_words (w : World) (v0 v1 v2 v3 : Int) : (Instr.buildSlice 40 4 #[(0, .int .i64 v0), (1, .int .i64 v1), (2, .int .i64 v2), (3, .int .i64 v3)]).run Try.prog w = .ok (.slice (some ⟨w.heap.size, 0, none⟩) 4 4) (w.alloc (.cells #[.int .i64 v0, .int .i64 v1, .int .i64 v2, .int .i64 v3] 3)) := by kernel_rfl
theorem run_one (w : World) (A : Option Addr) (n c : Nat) : (Instr.buildSlice 41 1 #[(0, .slice A n c)]).run Try.prog w = .ok (.slice (some ⟨w.heap.size, 0, none⟩) 1 1) (w.alloc (.cells #[.slice A n c] 40)) := by kernel_rfl
section
variable {w : World} {ops : Array Oper} {rest : List Oper} {o : Oper} {a : Act} {Q : Exit → Act → World → Prop}
theorem wpList_words (hgd : o.guard = none) (x0 x1 x2 x3 : Operand) (ho : o.op = .buildSlice 40 4 #[(0, x0), (1, x1), (2, x2), (3, x3)]) (n0 n1 n2 n3 : Nat)
    (h0 : a.eval x0 = .int .i64 (n0 : Int)) (h1 : a.eval x1 = .int .i64 (n1 : Int)) (h2 : a.eval x2 = .int .i64 (n2 : Int)) (h3 : a.eval x3 = .int .i64 (n3 : Int))
    (h : ∀ w', Blk w' w.heap.size 3 (ints [n0, n1, n2, n3]) → w.grownBy w' none → w'.heap.size = w.heap.size + 1 → wpList Try.prog ops Q rest (a.put o.dst (.slice (some ⟨w.heap.size, 0, none⟩) 4 4)) w') : wpList Try.prog ops Q (o :: rest) a w := by
  refine wpList_plain hgd fun K hK => ?_
  have hrun := run_words w n0 n1 n2 n3
  unfold Oper.wp
  simp only [execOp, ho, List.map_toArray, List.map_cons, List.map_nil, h0, h1, h2, h3, Sem.run_bind, hrun, Result.andThen_ok, Sem.run_pure]
  exact hK _ _ (h _ (Blk.of_alloc w _ 3) (World.grownBy_alloc w _ none) (World.size_alloc w _))
theorem wpList_one (hgd : o.guard = none) (x : Operand) (ho : o.op = .buildSlice 41 1 #[(0, x)]) (A : Option Addr) (n c : Nat) (hx : a.eval x = .slice A n c)
    (h : ∀ w', Blk w' w.heap.size 40 [.slice A n c] → w.grownBy w' none → w'.heap.size = w.heap.size + 1 → wpList Try.prog ops Q rest (a.put o.dst (.slice (some ⟨w.heap.size, 0, none⟩) 1 1)) w') : wpList Try.prog ops Q (o :: rest) a w := by
  refine wpList_plain hgd fun K hK => ?_
  have hrun := run_one w A n c
  unfold Oper.wp
  simp only [execOp, ho, List.map_toArray, List.map_cons, List.map_nil, hx, Sem.run_bind, hrun, Result.andThen_ok, Sem.run_pure]
  exact hK _ _ (h _ (Blk.of_alloc w _ 40) (World.grownBy_alloc w _ none) (World.size_alloc w _))
end
theorem Try.info28 : (Try.prog.info? 40).map (fun i => (i.zero, i.size, i.bytes)) = some (some (.slice none 0 0), 1, 24) := by kernel_rfl
theorem ints_one (l : List Nat) : ∀ u ∈ ints l, u.oneCell' = true := by
  intro u hu
  simp only [ints, List.mem_map] at hu
  obtain ⟨_, _, rfl⟩ := hu
  rfl
end Go.Proofs.Ytngfldlfoniklaa
