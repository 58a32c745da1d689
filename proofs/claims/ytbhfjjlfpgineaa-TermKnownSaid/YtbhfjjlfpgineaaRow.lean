/- Lists of bytes that a call puts together; what is known, asked by names. Conditions: none. -/
import Derived.Test.YtbhfjjlfpgineaaUMa
namespace Go.Proofs.Ytbhfjjlfpgineaa
open Go.RowKit

theorem list_at {α : Type} {Q : Nat → α → Prop} : ∀ n, (∀ i, i < n → ∃ a, Q i a) → ∃ l : List α, l.length = n ∧ ∀ i (h : i < l.length), Q i l[i]
  | 0, _ => ⟨[], rfl, fun i h => by simp at h⟩
  | n + 1, h => by
    obtain ⟨l, hl, hq⟩ := list_at n fun i hi => h i (by omega)
    obtain ⟨a, ha⟩ := h n (by omega)
    refine ⟨l ++ [a], by simp [hl], fun i hi => ?_⟩
    by_cases hn : i < l.length
    · rw [List.getElem_append_left hn]
      exact hq i hn
    · have hin : i = n := by simp at hi; omega
      subst hin
      simp [hl, ha]
/-- A row of the call's own that holds these lists. -/
def Row31 (B : Nat) (w : World) (v : Value) (n : Nat) (L : List (List UInt8)) : Prop :=
  ∃ ss : List Value, w.ownsRow B 41 1 v n ss ∧ L.length = n ∧ ∀ i (h : i < L.length), ∃ A c, ss[i]? = some (.slice A L[i].length c) ∧ L[i].length ≤ c ∧ c ≤ maxLen ∧ Byt w (fun b => b < w.heap.size ∧ some b ≠ v.ownBlock) A L[i]
section
variable {B n m : Nat} {w w' : World} {v : Value} {L L2 : List (List UInt8)} {A A2 : Option Addr}
theorem Row31.up (h : Row31 B w v n L) (hb : Below w.heap.size w w') : Row31 B w' v n L := by
  obtain ⟨ss, h1, h2, h3⟩ := h
  refine ⟨ss, ownsRow_keep h1 fun g hg => hb.block g (h1.lt g hg).2, h2, fun i hi => ?_⟩
  obtain ⟨A, c, q1, q2, q3, q4⟩ := h3 i hi
  exact ⟨A, c, q1, q2, q3, (q4.keep fun b hb' => hb.block b hb'.1).imp fun b hb' => ⟨Nat.lt_of_lt_of_le hb'.1 hb.size, hb'.2⟩⟩
theorem Row31.own (h : Row31 B w v n L) : ∀ g, v.ownBlock = some g → B ≤ g ∧ g < w.heap.size := by
  obtain ⟨ss, h1, _⟩ := h
  exact h1.lt
theorem Row31.new (hB : B ≤ w.heap.size) : Row31 B (w.alloc (.cells #[] 41)) (.slice (some ⟨w.heap.size, 0, none⟩) 0 0) 0 [] :=
  ⟨[], ⟨rfl, .inr ⟨w.heap.size, 0, #[], rfl, hB, heap_alloc_new w _, Nat.le_refl _, Nat.zero_le _, rfl, rfl⟩⟩, rfl, fun i hi => by simp at hi⟩
theorem Row31.lst (h : Row31 B w v n L) : ∃ A c, v = .slice A n c ∧ Lst w (fun b => b < w.heap.size) A L := by
  obtain ⟨ss, o1, h2, o2⟩ := h
  rcases o1.2 with ⟨e, h0⟩ | ⟨gb, cap, cur, e, _⟩
  · refine ⟨none, 0, by rw [e, h0], fun j hj => by omega⟩
  · subst e
    refine ⟨_, cap, rfl, fun j hj => ?_⟩
    obtain ⟨A', c', q1, q2, q3, q4⟩ := o2 j hj
    have hgb := o1.lt gb rfl
    refine ⟨⟨gb, 0, none⟩, A', c', rfl, hgb.2, ?_, q2, q3, q4.imp fun b hb => hb.1⟩
    rw [Addr.add_lit, Nat.zero_add]
    exact ownsRow_cell1 o1 q1
theorem run_app31 {ty : TypeId} {c2 k : Nat} (h : Row31 B w v n L) (h2 : Lst w (fun b => b < w.heap.size ∧ some b ≠ v.ownBlock) A2 L2) (hm : L2.length = m) (hk : n + m = k) (hle : k ≤ 1000) (hB : B ≤ w.heap.size) :
    ∃ A c w', (Builtin.append_ #[31, 31] ty #[v, .slice A2 m c2]).run Try.prog w = .ok (.slice A k c) w' ∧ Row31 B w' (.slice A k c) k (L ++ L2) ∧ Below B w w' := by
  subst hk
  obtain ⟨i41, hi41, hx0, hx1, hx2⟩ := info_parts info41
  obtain ⟨ss, o1, hL, o2⟩ := h
  have hown := o1.lt
  have hssl : ss.length = n := by have := o1.1; omega
  -- what is put behind
  have hsrc : ∃ ss2 : List Value, ss2.length = m ∧ (∀ ad, A2 = some ad → ∀ j u, ss2[j]? = some u → w.cell? (ad.add j) = some u) ∧ (∀ u ∈ ss2, u.oneCell' = true) ∧ ∀ i (h : i < L2.length), ∃ A c, ss2[i]? = some (.slice A L2[i].length c) ∧ L2[i].length ≤ c ∧ c ≤ maxLen ∧ Byt w (fun b => b < w.heap.size ∧ some b ≠ v.ownBlock) A L2[i] := by
    obtain ⟨ss2, hl, hq⟩ := list_at (Q := fun i (u : Value) => (∀ ad, A2 = some ad → w.cell? (ad.add i) = some u) ∧ u.oneCell' = true ∧ ∃ h : i < L2.length, ∃ A c, u = .slice A L2[i].length c ∧ L2[i].length ≤ c ∧ c ≤ maxLen ∧ Byt w (fun b => b < w.heap.size ∧ some b ≠ v.ownBlock) A L2[i]) m fun i hi => by
      have hi2 : i < L2.length := by omega
      obtain ⟨ad, A', c', rfl, _, q1, q2, q3, q4⟩ := h2 i hi2
      refine ⟨.slice A' L2[i].length c', fun ad' e => ?_, rfl, hi2, A', c', rfl, q2, q3, q4⟩
      cases e
      exact q1
    refine ⟨ss2, hl, fun ad e j u hu => ?_, fun u hu => ?_, fun i hi => ?_⟩
    · obtain ⟨hj, rfl⟩ := List.getElem?_eq_some_iff.1 hu
      exact (hq j hj).1 ad e
    · obtain ⟨j, hj, rfl⟩ := List.getElem_of_mem hu
      exact (hq j hj).2.1
    · obtain ⟨_, _, _, A, c, e, q2, q3, q4⟩ := hq i (by omega)
      exact ⟨A, c, by rw [List.getElem?_eq_getElem (by omega), e], q2, q3, q4⟩
  obtain ⟨ss2, hl2, hs1, hs2, hs3⟩ := hsrc
  rcases A2 with _ | ad
  · have hm0 : m = 0 := by
      rcases Nat.eq_zero_or_pos m with h0 | h0
      · exact h0
      · obtain ⟨ad, _, _, e, _⟩ := h2 0 (by omega)
        cases e
    subst hm0
    obtain rfl : L2 = [] := List.eq_nil_of_length_eq_zero hm
    obtain ⟨A, c, rfl⟩ : ∃ A c, v = .slice A n c := by
      rcases o1.2 with ⟨rfl, rfl⟩ | ⟨g, cap, cur, rfl, _⟩
      · exact ⟨none, 0, rfl⟩
      · exact ⟨_, cap, rfl⟩
    refine ⟨A, c, w, ?_, ⟨ss, by simpa using o1, by simpa using hL, by simpa using o2⟩, Below.refl _ _⟩
    rcases o1.2 with ⟨e, rfl⟩ | ⟨g, cap, cur, e, _, _, hnc, _⟩
    · cases e
      simp [Builtin.append_, run_underlying Try.underlying31, sizeOf, typeInfo, hi41, Builtin.lenOf, Builtin.firstCells]
    · cases e
      simp [Builtin.append_, run_underlying Try.underlying31, sizeOf, typeInfo, hi41, Builtin.lenOf, Builtin.firstCells, hnc, storeCells]
  · obtain ⟨v', w', hr, ho, hg, _, hat⟩ := run_append_own_at (P := Try.prog) w B 31 ty 41 i41 (.slice none 0 0) 1 24 Try.underlying31 hi41 hx0 hx1 hx2 rfl Nat.one_pos v n ss o1 ad m c2 ss2 (by omega) (hs1 ad rfl) hs2 (by unfold maxLen; omega) (by omega) hB
    have hbl : Below B w w' := ⟨hg.os, hg.tape, hg.output, hg.size, fun b hb => hg.block b (by omega) fun e => by have := (hown b e.symm).1; omega⟩
    have hne : ∀ b, b < w.heap.size → some b ≠ v.ownBlock → some b ≠ v'.ownBlock := fun b hb hn => by
      rcases hat with e | e
      · rw [e]; exact hn
      · rw [e]; intro e2; have := Option.some.inj e2; omega
    have hfin : Row31 B w' v' (n + m) (L ++ L2) := by
      refine ⟨ss ++ ss2, ho, by simp [hL, hm], fun i hi => ?_⟩
      have hkeep : ∀ {A : Option Addr} {xs : List UInt8}, Byt w (fun b => b < w.heap.size ∧ some b ≠ v.ownBlock) A xs → Byt w' (fun b => b < w'.heap.size ∧ some b ≠ v'.ownBlock) A xs := fun q => (q.keep fun b hb => hg.block b hb.1 hb.2).imp fun b hb => ⟨Nat.lt_of_lt_of_le hb.1 hg.size, hne b hb.1 hb.2⟩
      by_cases hin : i < L.length
      · obtain ⟨A, c, q1, q2, q3, q4⟩ := o2 i hin
        have e : (L ++ L2)[i] = L[i] := List.getElem_append_left hin
        rw [e]
        exact ⟨A, c, by rw [List.getElem?_append_left (by omega)]; exact q1, q2, q3, hkeep q4⟩
      · have hi2 : i - L.length < L2.length := by simp at hi; omega
        obtain ⟨A, c, q1, q2, q3, q4⟩ := hs3 (i - L.length) hi2
        have e : (L ++ L2)[i] = L2[i - L.length] := List.getElem_append_right (by omega)
        rw [e]
        exact ⟨A, c, by rw [List.getElem?_append_right (by omega), hssl, ← hL]; exact q1, q2, q3, hkeep q4⟩
    obtain ⟨A, c, rfl, _⟩ := hfin.lst
    exact ⟨A, c, w', hr, hfin, hbl⟩
theorem step_app31 {ops : Array Oper} {o : Oper} {a : Act} {K : Act → World → Prop} {Q : Exit → Act → World → Prop} {E : Prop} (hgd : o.guard = none) (s x : Operand) (ho : o.op = .call { callee := .builtin .append, args := #[s, x], argTypes := #[31, 31] })
    {c2 k : Nat} (hs : a.eval s = v) (hx : a.eval x = .slice A2 m c2) (h1 : Row31 B w v n L) (h2 : Lst w (fun b => b < w.heap.size ∧ some b ≠ v.ownBlock) A2 L2) (hm : L2.length = m) (hk : n + m = k) (hle : k ≤ 1000) (hB : B ≤ w.heap.size)
    (h : ∀ A c w', Row31 B w' (.slice A k c) k (L ++ L2) → Below B w w' → K (a.put o.dst (.slice A k c)) w') : if Region.wanted o (yielded ops a.tmps) = true then Oper.wp Try.prog o a w K Q else E := by
  have hw : Region.wanted o (yielded ops a.tmps) = true := by simp [Region.wanted, hgd]
  rw [if_pos hw]
  obtain ⟨A, c, w', hr, q1, q2⟩ := run_app31 (ty := o.type) (c2 := c2) h1 h2 hm hk hle hB
  unfold Oper.wp execOp
  simp only [ho, resolve, invoke, builtin, Sem.run_bind, Sem.run_pure, Result.andThen_ok, List.map_toArray, List.map_cons, List.map_nil, hs, hx, hr]
  exact h A c w' q1 q2
theorem lst_lit1 {ok : Nat → Prop} {xs : List UInt8} {c xl : Nat} (hl : xs.length = xl) (h1 : xl ≤ c) (h2 : c ≤ maxLen) (hx : Byt w ok A xs) (hok : ∀ b, ok b → b < w.heap.size) :
    Lst (w.alloc (.cells #[.slice A xl c] 41)) (fun b => ok b ∨ b = w.heap.size) (some ⟨w.heap.size, 0, none⟩) [xs] := fun i hi => by
  obtain rfl : i = 0 := by simpa using hi
  subst hl
  refine ⟨_, A, c, rfl, .inr rfl, ?_, h1, h2, (hx.keep fun b hb => Below.heap_alloc _ _ _ (hok b hb)).imp fun b hb => .inl hb⟩
  rw [Addr.add_lit, Nat.zero_add, cell_of_block (heap_alloc_new w _)]
  rfl
end
theorem own_apart {B n : Nat} {w w' : World} {v : Value} {L : List (List UInt8)} {o : Obj} (h : Row31 B w v n L) (hz : w.heap.size ≤ w'.heap.size) : ∀ b, ((w.heap.size ≤ b ∧ b < w'.heap.size) ∨ b = w'.heap.size) → b < (w'.alloc o).heap.size ∧ some b ≠ v.ownBlock := fun b hb => by
  rw [alloc_size]
  refine ⟨by omega, fun e => ?_⟩
  have := (h.own b e.symm).2
  omega
theorem more_le {L : List (List UInt8)} {m : List UInt8} (h : ∀ s ∈ L, s.length ≤ 5128) (hm : m.length ≤ 5128) : ∀ s ∈ L ++ [m], s.length ≤ 5128 := fun s hs => by
  rcases List.mem_append.1 hs with hs | hs
  · exact h s hs
  · obtain rfl : s = m := by simpa using hs
    exact hm
theorem both_known {B tb rb n c : Nat} {w : World} {T : List Trm} {A : Option Addr} {ps : List (List UInt8)} (h : Both B w tb rb T) (hx : Lst w (fun b => b < w.heap.size) A ps) (hn : ps.length = n) (hm : n ≤ 1000) (hl : ∀ s ∈ ps, s.length ≤ 5128) (hM : Mx w) :
    Calls Try.prog 18 #[.pointer (some ⟨tb, 0, none⟩), .slice A n c] w (KnwE w T ps) :=
  known_any (h.tbl.imp (ok' := fun b => b < w.heap.size) fun b hb _ => hb) (fun _ h => h) hn hx hM (by omega) fun s hs => by have := hl s hs; omega
/-- Whether the name of a number is known. -/
theorem name_has {kb nb g i N : Nat} {K : Nat → Bool} {b : Bool} {w : World} (hk : Knm w kb nb (N + 1) K) (hg : Arr w 34 g (nm i)) (h1 : 0 < i) (h2 : i ≤ N) (hN : N ≤ 65535) (hb : K i = b) (hM : Mx w) :
    Calls Try.prog 20 #[.pointer (some ⟨kb, 0, none⟩), .slice (some ⟨g, 0, none⟩) 32 32] w fun e w' => e = .returned (.bool b) ∧ Below w.heap.size w w' := by
  have hh := has_any hk (nm_length i) (hg.byt (ok := fun b => b < w.heap.size) (Arr.lt hg)) (fun _ h => h) (Nat.le_refl _) (by unfold maxLen; omega) (by omega) (by omega) hM
  have he : decide ((ms K (nm i) (N + 1)).1 = 0) = b := by
    rw [← hb]
    have := ms_iff (K := K) (b := nm i) (below := N + 1)
    rw [nms_is i (N + 1) h1 (by omega) (by omega)] at this
    rw [Bool.eq_iff_iff, decide_eq_true_iff, this]
    simp
  rw [he] at hh
  exact hh
/-- Whether bytes are known. -/
theorem byt_has {kb nb N n c : Nat} {K : Nat → Bool} {b : Bool} {w : World} {A : Option Addr} {xs : List UInt8} (hk : Knm w kb nb (N + 1) K) (hx : Byt w (fun b => b < w.heap.size) A xs) (hn : xs.length = n) (hc : n ≤ c) (hm : c ≤ maxLen) (hl : n ≤ 5128) (hN : N ≤ 65535) (hb : (nms xs (N + 1)).all K = b) (hM : Mx w) :
    Calls Try.prog 20 #[.pointer (some ⟨kb, 0, none⟩), .slice A n c] w fun e w' => e = .returned (.bool b) ∧ Below w.heap.size w w' := by
  have hh := has_any (c := c) hk hn hx (fun _ h => h) hc hm (by omega) (by omega) hM
  have he : decide ((ms K xs (N + 1)).1 = 0) = b := by
    rw [← hb, Bool.eq_iff_iff, decide_eq_true_iff, List.all_eq_true]
    exact ms_iff
  rw [he] at hh
  exact hh
end Go.Proofs.Ytbhfjjlfpgineaa
