/- A store of one cell, with the world behind it as a letter. Conditions: none. add takes a name as known. Conditions: the number is a name's. The reference's table, in memory; its Make of what can't be made. Conditions: none. The reference's Make, whatever is to be made. Conditions: none. -/
import Derived.Deep.RegionHeld3
import Derived.Laws.EntriesVeiled
import Derived.Deep.AppendLies
import Derived.Test.YtdnkeaokgkiloaaDoorTf
import Derived.Test.YtdnkeaokgkiloaaDoorTb
import Derived.Deep.LoopGhost
namespace Go.Proofs.YtdnkeaokgkiloaaDoor.T
open Go.RowKit
/-- Just block b has turned. -/
structure Wr (b : Nat) (w w' : World) : Prop where
  os : w'.os = w.os
  tape : w'.tape = w.tape
  output : w'.output = w.output
  size : w'.heap.size = w.heap.size
  block : ∀ k, k ≠ b → w'.heap[k]? = w.heap[k]?
section
variable {w : World} {ops : Array Oper} {rest : List Oper} {o : Oper} {a : Act} {Q : Exit → Act → World → Prop}
theorem run_storeAt_cell (w : World) (ty : TypeId) (b i : Nat) (v : Value) (h1 : v.oneCell' = true) (cs : List Value) (t : TypeId) (hb : w.heap[b]? = some (.cells cs.toArray t (0, 0))) (hi : i < cs.length) (hs : (Tryd.prog.info? ty).map (·.size) = some 1) :
    (Instr.storeAt ty (.pointer (some ⟨b, i, none⟩)) v).run Tryd.prog w = .ok () (w.setRow b (cs.set i v).toArray) := by
  have hc : v.cells = #[v] := by cases v <;> first | rfl | cases h1
  have hst := run_storeCells_at Tryd.prog b i t [v] 0 cs.toArray w hb (by simp; omega) (fun u hu => by simp at hu; subst hu; exact h1)
  have e : (cs.toArray.toList.take (i + 0) ++ [v] ++ cs.toArray.toList.drop (i + 0 + [v].length)) = cs.set i v := by
    rw [List.set_eq_take_append_cons_drop, if_pos hi]
    simp
  rw [e] at hst
  cases hq : Tryd.prog.info? ty with
  | none => simp [hq] at hs
  | some inf =>
    have hsz : inf.size = 1 := by simpa [hq] using hs
    simp [Instr.storeAt, Instr.sureAddr, storeVar, sizeOf, typeInfo, hq, hc, hsz, hst]
theorem wr_setRow (w : World) (b : Nat) (cs : Array Value) : Wr b w (w.setRow b cs) := ⟨rfl, rfl, rfl, by simp [World.setRow], fun k hk => setRow_other w b k cs hk⟩
theorem wpList_store_cell (hgd : o.guard = none) (ty : TypeId) (x y : Operand) (ho : o.op = .store ty x y) (hs : (Tryd.prog.info? ty).map (·.size) = some 1) (b i : Nat) (v : Value) (hx : a.eval x = .pointer (some ⟨b, i, none⟩)) (hy : a.eval y = v) (h1 : v.oneCell' = true)
    (cs : List Value) (t : TypeId) (hb : w.heap[b]? = some (.cells cs.toArray t (0, 0))) (hi : i < cs.length)
    (h : ∀ w', Hid (w'.heap[b]? = some (.cells (cs.set i v).toArray t (0, 0))) → Hid (Wr b w w') → wpList Tryd.prog ops Q rest (a.put o.dst undef) w') : wpList Tryd.prog ops Q (o :: rest) a w :=
  wpList_plain hgd fun _ hK => by
    have hrun := run_storeAt_cell w ty b i v h1 cs t hb hi hs
    unfold Oper.wp execOp
    simp only [ho, hx, hy, Sem.run_bind, hrun, Sem.run_pure, Result.andThen_ok]
    exact hK _ _ (h _ (setRow_heap w b _ _ t _ hb) (wr_setRow w b _))
end
open Go.RowKit
open Go.RowKit
/-- Kinds and lists, one behind the other. -/
def c2 : List Trm → List Value → List Value
  | x :: T, s :: ss => .int .i64 x.1 :: s :: c2 T ss
  | _, _ => []
theorem c2_append : ∀ (T : List Trm) (ss : List Value) (x : Trm) (s : Value), ss.length = T.length → c2 (T ++ [x]) (ss ++ [s]) = c2 T ss ++ [.int .i64 x.1, s]
  | [], [], _, _, _ => rfl
  | [], _ :: _, _, _, h => by simp at h
  | _ :: _, [], _, _, h => by simp at h
  | y :: T, t :: ss, x, s, h => by
    have := c2_append T ss x s (by simpa using h)
    simp only [List.cons_append, c2, this]
theorem c2_get : ∀ (T : List Trm) (ss : List Value) (i : Nat) (_ : ss.length = T.length) (hi : i < T.length), (c2 T ss)[i * 2]? = some (.int .i64 T[i].1) ∧ (c2 T ss)[i * 2 + 1]? = ss[i]?
  | [], _, i, _, hi => by simp at hi
  | _ :: _, [], _, h, _ => by simp at h
  | x :: T, s :: ss, 0, _, _ => ⟨rfl, rfl⟩
  | x :: T, s :: ss, i + 1, h, hi => by
    have := c2_get T ss i (by simpa using h) (by simpa using hi)
    refine ⟨?_, ?_⟩
    · show (Value.int .i64 x.1 :: s :: c2 T ss)[(i + 1) * 2]? = _
      rw [show (i + 1) * 2 = (i * 2 + 1) + 1 by omega, List.getElem?_cons_succ, List.getElem?_cons_succ]
      exact this.1
    · show (Value.int .i64 x.1 :: s :: c2 T ss)[(i + 1) * 2 + 1]? = _
      rw [show (i + 1) * 2 + 1 = (i * 2 + 1 + 1) + 1 by omega, List.getElem?_cons_succ, List.getElem?_cons_succ, List.getElem?_cons_succ]
      exact this.2
/-- The reference's table. -/
def RTbl (w : World) (ok : Nat → Prop) (rb : Nat) (T : List Trm) : Prop :=
  ∃ (v : Value) (ss : List Value), w.heap[rb]? = some (.cells #[v] 85 (0, 0)) ∧ ok rb ∧ (∀ g, v.ownBlock = some g → ok g ∧ g ≠ rb) ∧ w.ownsRow 0 95 2 v T.length (c2 T ss) ∧ ss.length = T.length ∧
    (∀ i (h : i < T.length), ∃ A c, ss[i]? = some (.slice A T[i].2.length c) ∧ Lst w (fun b => ok b ∧ b ≠ rb ∧ some b ≠ v.ownBlock ∧ b < w.heap.size) A T[i].2) ∧ T.length ≤ 65535
section
variable {w w' : World} {ok ok' : Nat → Prop} {rb : Nat} {T : List Trm}
theorem RTbl.keep (h : RTbl w ok rb T) (hs : w.heap.size ≤ w'.heap.size) (hk : ∀ b, ok b → b < w.heap.size → w'.heap[b]? = w.heap[b]?) : RTbl w' ok rb T := by
  obtain ⟨v, ss, h1, h2, h3, h4, h5, h6, h7⟩ := h
  refine ⟨v, ss, (hk _ h2 (lt_of_block h1)).trans h1, h2, h3, ownsRow_keep h4 fun g hg => hk g (h3 g hg).1 (h4.lt g hg).2, h5, fun i hi => ?_, h7⟩
  obtain ⟨A, c, e, hl⟩ := h6 i hi
  exact ⟨A, c, e, (hl.keep fun b hb => hk b hb.1 hb.2.2.2).imp fun b hb => ⟨hb.1, hb.2.1, hb.2.2.1, Nat.lt_of_lt_of_le hb.2.2.2 hs⟩⟩
theorem RTbl.imp (h : RTbl w ok rb T) (hi : ∀ b, b < w.heap.size → ok b → ok' b) : RTbl w ok' rb T := by
  obtain ⟨v, ss, h1, h2, h3, h4, h5, h6, h7⟩ := h
  refine ⟨v, ss, h1, hi _ (lt_of_block h1) h2, fun g hg => ⟨hi g (h4.lt g hg).2 (h3 g hg).1, (h3 g hg).2⟩, h4, h5, fun i hi' => ?_, h7⟩
  obtain ⟨A, c, e, hl⟩ := h6 i hi'
  exact ⟨A, c, e, hl.imp fun b hb => ⟨hi b hb.2.2.2 hb.1, hb.2⟩⟩
theorem RTbl.below (h : RTbl w ok rb T) (hb : Below w.heap.size w w') : RTbl w' ok rb T := h.keep hb.size fun b _ hlt => hb.block b hlt
theorem RTbl.lt (h : RTbl w ok rb T) : rb < w.heap.size := by
  obtain ⟨v, ss, h1, _⟩ := h
  exact lt_of_block h1
theorem RTbl.max (h : RTbl w ok rb T) : T.length ≤ 65535 := by
  obtain ⟨v, ss, _, _, _, _, _, _, h7⟩ := h
  exact h7
/-- The list's header; its cells. -/
theorem RTbl.head (h : RTbl w ok rb T) : ∃ A c, w.cell? ⟨rb, 0, none⟩ = some (.slice A T.length c) ∧ T.length ≤ c ∧ c ≤ maxLen ∧ ∀ i (hi : i < T.length), ∃ g A' c', A = some ⟨g, 0, none⟩ ∧ w.cell? ⟨g, i * 2, none⟩ = some (.int .i64 T[i].1) ∧ w.cell? ⟨g, i * 2 + 1, none⟩ = some (.slice A' T[i].2.length c') ∧ Lst w ok A' T[i].2 := by
  obtain ⟨v, ss, h1, h2, h3, h4, h5, h6, h7⟩ := h
  have hc := cell_of_block h1 0
  rcases h4.2 with ⟨rfl, h0⟩ | ⟨g, cap, cur, rfl, _, hg, hnc, hcm, _, htk⟩
  · exact ⟨none, 0, by rw [hc, h0]; rfl, by omega, by unfold maxLen; omega, fun i hi => by omega⟩
  · refine ⟨_, cap, by rw [hc]; rfl, hnc, hcm, fun i hi => ?_⟩
    obtain ⟨A', c', e, hl⟩ := h6 i hi
    have hget : ∀ j u, (c2 T ss)[j]? = some u → w.cell? ⟨g, j, none⟩ = some u := fun j u hu => by
      rw [← htk, List.getElem?_take] at hu
      split at hu
      · rw [cell_of_block hg]
        show cur[j]? = some u
        rw [← Array.getElem?_toList]; exact hu
      · cases hu
    obtain ⟨e1, e2⟩ := c2_get T ss i h5 hi
    exact ⟨g, A', c', rfl, hget _ _ e1, hget _ _ (e2.trans e), hl.imp fun b hb => hb.1⟩
end
/-- What the reference's Make tells. -/
def RMakE (w : World) (ok : Nat → Prop) (rb : Nat) (p : Nat × List Trm) (e : Ending) (w' : World) : Prop :=
  e = .returned (.tuple #[.agg (u8s (nm0 p.1)).toArray, .bool (decide (0 < p.1))]) ∧ RTbl w' (More ok w w') rb p.2 ∧ Md ok w w'
theorem rmakE_no {w w' : World} {ok : Nat → Prop} {rb : Nat} {p : Nat × List Trm} {T : List Trm} (hp : p = (0, T)) (h : RTbl w ok rb T) (hb : Below w.heap.size w w') : RMakE w ok rb p (.returned (.tuple #[.agg (u8s z32).toArray, .bool false])) w' := by
  subst hp
  exact ⟨rfl, (h.below hb).imp fun _ _ ho => .inl ho, Md.of_below hb⟩
theorem rmakE_yes {w w' : World} {ok : Nat → Prop} {rb n : Nat} {p : Nat × List Trm} {T : List Trm} (hp : p = (n, T)) (hn : 0 < n) (h : RTbl w' (More ok w w') rb T) (hb : Md ok w w') : RMakE w ok rb p (.returned (.tuple #[.agg (u8s (nm n)).toArray, .bool true])) w' := by
  subst hp
  refine ⟨?_, h, hb⟩
  unfold nm0
  rw [if_neg (by show ¬ n = 0; omega)]
  simp only [hn, decide_true]
set_option maxRecDepth 100000 in
set_option maxHeartbeats 1000000 in
theorem rmake_no {w : World} {ok ok' : Nat → Prop} {rb : Nat} {T : List Trm} {kind : Int} {A : Option Addr} {ps : List (List UInt8)} {c : Nat} (h : RTbl w ok rb T) (hx : Lst w ok' A ps) (hok : ∀ b, ok' b → b < w.heap.size) (hm : ps.length ≤ maxLen) (hbad : ¬ (Fit ps ∧ 1 ≤ kind ∧ kind ≤ 8)) :
    Calls Tryd.prog 34 #[.pointer (some ⟨rb, 0, none⟩), .int .i64 kind, .slice A ps.length c] w (RMakE w ok rb (mk T kind ps)) := by
  have hmk : mk T kind ps = (0, T) := by unfold mk; rw [if_neg hbad]
  have HM := Lib.hid hmk
  clear hmk
  by_cases hf : Fit ps
  · have hk : kind < 1 ∨ (1 ≤ kind ∧ 8 < kind) := by
      rcases Int.lt_or_le kind 1 with hk | hk
      · exact .inl hk
      · refine .inr ⟨hk, ?_⟩
        rcases Int.lt_or_le 8 kind with h8 | h8
        · exact h8
        · exact absurd ⟨hf, hk, h8⟩ hbad
    have HF := Lib.hid hf
    clear hbad hf
    go_enter Tryd.func34, Tryd.ntmps34
    go_wp2_with (refine wpList_alloc32 i34 rfl rfl ?_)
    intro w1 hk1 hb1 hz1
    have K1 := Lib.hid hk1
    have Z1 := Lib.hid hz1
    clear hk1 hz1
    have hx1 := hx.below hb1 hok
    go_wp2_with fail
    go_at_call 35
    refine (refjoin_any hx1 (fun b hb => Nat.lt_of_lt_of_le (hok b hb) hb1.size) hm).mono ?_
    intro e w2 hj
    obtain ⟨A2, c2, rfl, h21, h22, h23, h24⟩ := hj.resolve_right (fun h => h.1 HF.out) |>.2
    clear hj
    have hb2 : Below w.heap.size w w2 := hb1.trans (h24.mono hb1.size)
    have K2 : Hid (Arr w2 22 w.heap.size z32) := (h24.block _ (Arr.lt K1.out)).trans K1.out
    clear K1 h23
    rcases hk with hk | ⟨hk1, hk2⟩
    · have d1 : decide (kind < 1) = true := by simpa using hk
      go_wp2_with (first | (refine wpList_build32 i34 rfl rfl ?_) | (refine wpList_store32 i34 rfl _ _ rfl w.heap.size z32 z32 rfl rfl K2.out z32_length z32_length w.heap.size (Nat.le_refl _) ?_))
      intro w3 hk3 hb3 ho3 hz3
      have K3 := Lib.hid hk3
      have hb3' := hb2.trans hb3
      clear hk3 hz3 ho3
      go_wp2
      refine bodyPost_ret (results_two i34 rfl _ _ w.heap.size z32 rfl K3.out z32_length) rfl ?_
      exact rmakE_no HM.out h hb3'
    · have d1 : decide (kind < 1) = false := by simp; omega
      have d2 : decide (8 < kind) = true := by simpa using hk2
      go_wp2_with (first | (refine wpList_build32 i34 rfl rfl ?_) | (refine wpList_store32 i34 rfl _ _ rfl w.heap.size z32 z32 rfl rfl K2.out z32_length z32_length w.heap.size (Nat.le_refl _) ?_))
      intro w3 hk3 hb3 ho3 hz3
      have K3 := Lib.hid hk3
      have hb3' := hb2.trans hb3
      clear hk3 hz3 ho3
      go_wp2
      refine bodyPost_ret (results_two i34 rfl _ _ w.heap.size z32 rfl K3.out z32_length) rfl ?_
      exact rmakE_no HM.out h hb3'
  · have HF := Lib.hid hf
    clear hbad hf
    go_enter Tryd.func34, Tryd.ntmps34
    go_wp2_with (refine wpList_alloc32 i34 rfl rfl ?_)
    intro w1 hk1 hb1 hz1
    have K1 := Lib.hid hk1
    have Z1 := Lib.hid hz1
    clear hk1 hz1
    have hx1 := hx.below hb1 hok
    go_wp2_with fail
    go_at_call 35
    refine (refjoin_any hx1 (fun b hb => Nat.lt_of_lt_of_le (hok b hb) hb1.size) hm).mono ?_
    intro e w2 hj
    obtain ⟨_, he, h24⟩ := hj.resolve_left (fun h => HF.out h.1)
    obtain rfl : e = .returned (.tuple #[.slice none 0 0, .bool false]) := he
    have hb2 : Below w.heap.size w w2 := hb1.trans (h24.mono hb1.size)
    have K2 : Hid (Arr w2 22 w.heap.size z32) := (h24.block _ (Arr.lt K1.out)).trans K1.out
    clear hj K1
    go_wp2_with (first | (refine wpList_build32 i34 rfl rfl ?_) | (refine wpList_store32 i34 rfl _ _ rfl w.heap.size z32 z32 rfl rfl K2.out z32_length z32_length w.heap.size (Nat.le_refl _) ?_))
    intro w3 hk3 hb3 ho3 hz3
    have K3 := Lib.hid hk3
    have hb3' := hb2.trans hb3
    clear hk3 hz3 ho3
    go_wp2
    refine bodyPost_ret (results_two i34 rfl _ _ w.heap.size z32 rfl K3.out z32_length) rfl ?_
    exact rmakE_no HM.out h hb3'
open Go.RowKit
theorem info37 : (Tryd.prog.info? 95).map (fun i => (i.zero, i.size, i.bytes)) = some (some (.agg #[.int .i64 0, .slice none 0 0]), 2, 32) := by kernel_rfl
theorem info41 : (Tryd.prog.info? 66).map (fun i => (i.zero, i.size, i.bytes)) = some (some (.slice none 0 0), 1, 24) := by kernel_rfl
theorem size27 : (Tryd.prog.info? 83).map (·.size) = some 1 := by kernel_rfl
theorem told_below {w w' w0 : World} {b : Bool} {e : Ending} (h : Told w b e w') (hb : Below w0.heap.size w0 w) : e = .returned (.bool b) ∧ Below w0.heap.size w0 w' := by
  obtain ⟨h1, n, h2⟩ := h
  rw [h2]
  exact ⟨h1, hb.os, hb.tape, hb.output, hb.size, hb.block⟩
theorem idx_first {T : List Trm} {x : Trm} {j : Nat} (hj : j < T.length) (hx : T[j] = x) (hall : ∀ i (h : i < T.length), i < j → T[i] ≠ x) : T.idxOf x = j := by
  have hm : x ∈ T := hx ▸ List.getElem_mem hj
  have h1 : T.idxOf x < T.length := List.idxOf_lt_length_of_mem hm
  have h2 : T[T.idxOf x] = x := List.getElem_idxOf h1
  rcases Nat.lt_trichotomy (T.idxOf x) j with h | h | h
  · exact absurd h2 (hall _ h1 h)
  · exact h
  · exact absurd hx (by
      have := List.not_of_lt_findIdx (p := fun y => y == x) (xs := T) (i := j) h
      simpa using this)
/-- The parts that are copied so far: a list of one's own, of texts of one's own. -/
def Cop (w0 wr : World) (ps : List (List UInt8)) (v : Value) (j : Nat) : Prop :=
  ∃ ss : List Value, wr.ownsRow w0.heap.size 66 1 v j ss ∧ ∀ i (h : i < ps.length), i < j → ∃ A c, ss[i]? = some (.slice A ps[i].length c) ∧ ps[i].length ≤ c ∧ c ≤ maxLen ∧ Byt wr (fun b => w0.heap.size ≤ b ∧ b < wr.heap.size ∧ some b ≠ v.ownBlock) A ps[i]
theorem Cop.nil (w0 wr : World) (ps : List (List UInt8)) : Cop w0 wr ps (.slice none 0 0) 0 := ⟨[], World.ownsRow_nil _ _ _ _, fun i _ h => absurd h (by omega)⟩
theorem Cop.step {w0 wr w3 w5 : World} {ps : List (List UInt8)} {v v2 : Value} {j : Nat} {A3 : Option Addr} {c3 : Nat} {o : Obj} (h : Cop w0 wr ps v j) (hs : w0.heap.size ≤ wr.heap.size) (hj : j < ps.length) (hb3 : Below wr.heap.size wr w3)
    (x3 : Byt w3 (fun b => wr.heap.size ≤ b ∧ b < w3.heap.size) A3 ps[j]) (hc : ps[j].length ≤ c3) (hm : c3 ≤ maxLen) {ss : List Value} (hss : wr.ownsRow w0.heap.size 66 1 v j ss ∧ ∀ i (h : i < ps.length), i < j → ∃ A c, ss[i]? = some (.slice A ps[i].length c) ∧ ps[i].length ≤ c ∧ c ≤ maxLen ∧ Byt wr (fun b => w0.heap.size ≤ b ∧ b < wr.heap.size ∧ some b ≠ v.ownBlock) A ps[i])
    (ho : w5.ownsRow w0.heap.size 66 1 v2 (j + 1) (ss ++ [.slice A3 ps[j].length c3])) (hg : (w3.alloc o).grownBy w5 v.ownBlock) (hat : v2.ownBlock = v.ownBlock ∨ v2.ownBlock = some (w3.heap.size + 1)) : Cop w0 w5 ps v2 (j + 1) := by
  have hz := hg.size
  rw [alloc_size] at hz
  have hz3 := hb3.size
  have hl : ss.length = j := by have := hss.1.1; omega
  have hown : ∀ b, v.ownBlock = some b → b < wr.heap.size := fun b hb => (hss.1.lt b hb).2
  have hkeep : ∀ b, b < w3.heap.size → some b ≠ v.ownBlock → w5.heap[b]? = w3.heap[b]? := fun b hb hn => (hg.block b (by rw [alloc_size]; omega) hn).trans (Below.heap_alloc _ _ _ hb)
  have hne : ∀ b, b < w3.heap.size → some b ≠ v.ownBlock → some b ≠ v2.ownBlock := fun b hb hn => by
    rcases hat with e | e
    · rw [e]; exact hn
    · rw [e]; intro e2; have := Option.some.inj e2; omega
  refine ⟨_, ho, fun i hi hij => ?_⟩
  by_cases e : i = j
  · subst e
    refine ⟨A3, c3, by rw [List.getElem?_append_right (by omega), show i - ss.length = 0 by omega]; rfl, hc, hm, (x3.keep fun b hb => hkeep b hb.2 fun e => ?_).imp fun b hb => ⟨by omega, by omega, hne b hb.2 fun e => ?_⟩⟩
    · have := hown b e.symm; omega
    · have := hown b e.symm; omega
  · obtain ⟨A, c, e1, e2, e3, e4⟩ := hss.2 i hi (by omega)
    refine ⟨A, c, by rw [List.getElem?_append_left (by omega)]; exact e1, e2, e3, (e4.keep fun b hb => (hkeep b (by omega) hb.2.2).trans (hb3.block b hb.2.1)).imp fun b hb => ⟨hb.1, by omega, hne b (by omega) hb.2.2⟩⟩
theorem ownsRow_cell1 {w : World} {base e n g1 cap i : Nat} {xs : List Value} {u : Value} (h : w.ownsRow base e 1 (.slice (some ⟨g1, 0, none⟩) n cap) n xs) (hi : xs[i]? = some u) : w.cell? ⟨g1, i, none⟩ = some u := by
  rcases h.2 with ⟨e, _⟩ | ⟨g2, cap1, cur, e, h1, h2, h3, h4, h5, h6⟩
  · cases e
  · injection e with e1 e2 e3
    injection e1 with e1
    injection e1 with e1 _ _
    subst e1
    rw [cell_of_block h2]
    have e7 : cur.toList[i]? = some u := by
      rw [← h6, List.getElem?_take] at hi
      split at hi
      · exact hi
      · cases hi
    show cur[i]? = some u
    rw [← Array.getElem?_toList]; exact e7
/-- A term is put behind the others. -/
theorem rterm_end {w wd wr w5 w6 w8 : World} {ok : Nat → Prop} {rb k n pl g5 cap5 rs : Nat} {T : List Trm} {ps : List (List UInt8)} {v : Value} {ss : List Value} {A5 : Option Addr} {c5 : Nat} {o : Obj} (hn : T.length = n) (hn2 : n < 65535) (hpl : ps.length = pl)
    (r1 : w.heap[rb]? = some (.cells #[v] 85 (0, 0))) (r2 : ok rb) (r3 : ∀ g, v.ownBlock = some g → ok g ∧ g ≠ rb) (r4 : w.ownsRow 0 95 2 v T.length (c2 T ss)) (r5 : ss.length = T.length)
    (r6 : ∀ i (h : i < T.length), ∃ A c, ss[i]? = some (.slice A T[i].2.length c) ∧ Lst w (fun b => ok b ∧ b ≠ rb ∧ some b ≠ v.ownBlock ∧ b < w.heap.size) A T[i].2)
    (hwd : w.heap.size ≤ wd.heap.size) (hwr : wd.heap.size ≤ wr.heap.size) (hb : Below w.heap.size w wr) (hc : Cop wd wr ps (.slice A5 pl c5) pl)
    (ho : w5.ownsRow 0 95 2 (.slice (some ⟨g5, 0, none⟩) (n + 1) cap5) (n + 1) (c2 T ss ++ [.int .i64 k, .slice A5 pl c5])) (hg : (wr.alloc o).grownBy w5 v.ownBlock) (hat : some g5 = v.ownBlock ∨ g5 = wr.heap.size + 1)
    (h6 : w6.heap[rb]? = some (.cells #[.slice (some ⟨g5, 0, none⟩) (n + 1) cap5] 85 (0, 0))) (hw6 : Wr rb w5 w6) (hs8 : w6.heap.size ≤ w8.heap.size) (hrs : w.heap.size ≤ rs) (hrs3 : rs < wd.heap.size) (h8 : ∀ b, b < w6.heap.size → b ≠ rs → w8.heap[b]? = w6.heap[b]?)
    (hos : w8.os = w6.os ∧ w8.tape = w6.tape ∧ w8.output = w6.output) : RTbl w8 (More ok w w8) rb (T ++ [(k, ps)]) ∧ Md ok w w8 := by
  have hz5 := hg.size
  rw [alloc_size] at hz5
  have hz6 := hw6.size
  have hzw := hb.size
  have hrbl := lt_of_block r1
  have hvl : ∀ g, v.ownBlock = some g → g < w.heap.size := fun g hg => (r4.lt g hg).2
  have hkeep : ∀ b, b < wr.heap.size → some b ≠ v.ownBlock → b ≠ rb → b ≠ rs → w8.heap[b]? = wr.heap[b]? := fun b hb1 hn1 hn2 hn3 =>
    ((h8 b (by omega) hn3).trans (hw6.block b hn2)).trans ((hg.block b (by rw [alloc_size]; omega) hn1).trans (Below.heap_alloc _ _ _ hb1))
  have hg5 : g5 ≠ rb ∧ g5 ≠ rs ∧ (ok g5 ∨ w.heap.size ≤ g5) := by
    rcases hat with e | e
    · have := r3 g5 e.symm
      have := hvl g5 e.symm
      exact ⟨(r3 g5 e.symm).2, by omega, .inl (r3 g5 e.symm).1⟩
    · exact ⟨by omega, by omega, .inr (by omega)⟩
  have hg5l : g5 < w5.heap.size := (ho.lt g5 rfl).2
  refine ⟨⟨.slice (some ⟨g5, 0, none⟩) (n + 1) cap5, ss ++ [.slice A5 pl c5], (h8 rb (lt_of_block h6) (by omega)).trans h6, .inl r2, fun g hg' => ?_, ?_, by simp [r5], fun i hi => ?_, by simp; omega⟩, ?_⟩
  · obtain rfl : g5 = g := by simpa [Value.ownBlock] using hg'
    refine ⟨?_, hg5.1⟩
    rcases hg5.2.2 with h | h
    · exact .inl h
    · exact .inr ⟨h, by omega⟩
  · have e : (T ++ [(k, ps)]).length = n + 1 := by simp [hn]
    rw [e, c2_append T ss (k, ps) _ r5]
    refine ownsRow_keep ho fun g hg' => ?_
    obtain rfl : g5 = g := by simpa [Value.ownBlock] using hg'
    exact (h8 g5 (by omega) hg5.2.1).trans (hw6.block g5 hg5.1)
  · have hset : ∀ b, b < wr.heap.size → some b ≠ v.ownBlock → some b ≠ (Value.slice (some ⟨g5, 0, none⟩) (n + 1) cap5).ownBlock := fun b hb1 hn1 => by
      intro e
      have e2 : b = g5 := by simpa [Value.ownBlock] using e
      rcases hat with e3 | e3
      · rw [e2] at hn1; exact hn1 e3
      · omega
    by_cases hin : i < T.length
    · obtain ⟨A, c, e1, e2⟩ := r6 i hin
      have eg : (T ++ [(k, ps)])[i] = T[i] := List.getElem_append_left hin
      rw [eg]
      refine ⟨A, c, by rw [List.getElem?_append_left (by omega)]; exact e1, (e2.keep fun b hb' => ?_).imp fun b hb' => ⟨.inl hb'.1, hb'.2.1, hset b (by omega) hb'.2.2.1, by omega⟩⟩
      exact (hkeep b (by omega) hb'.2.2.1 hb'.2.1 (by omega)).trans (hb.block b hb'.2.2.2)
    · have ei : i = T.length := by simp at hi; omega
      subst ei
      have eg : (T ++ [(k, ps)])[T.length] = (k, ps) := by simp
      rw [eg]
      obtain ⟨ss2, o1, o2⟩ := hc
      refine ⟨A5, c5, by rw [← r5, hpl]; simp, fun j hj => ?_⟩
      obtain ⟨A', c', q1, q2, q3, q4⟩ := o2 j hj (by rw [← hpl]; exact hj)
      have hA : ∃ gb, A5 = some ⟨gb, 0, none⟩ := by
        rcases o1.2 with ⟨e, h0⟩ | ⟨gb, cap, cur, e, _⟩
        · have : j < ps.length := hj
          omega
        · injection e with e1 _ _; exact ⟨gb, e1⟩
      obtain ⟨gb, rfl⟩ := hA
      have hgb := o1.lt gb rfl
      have hsame : ∀ b, wd.heap.size ≤ b → b < wr.heap.size → w8.heap[b]? = wr.heap[b]? := fun b hb1 hb2 => hkeep b hb2 (fun e => by have := hvl b e.symm; omega) (by omega) (by omega)
      have hcell := ownsRow_cell1 o1 q1
      refine ⟨⟨gb, 0, none⟩, A', c', rfl, ⟨.inr ⟨by show w.heap.size ≤ gb; omega, by show gb < w8.heap.size; omega⟩, by show gb ≠ rb; omega, hset gb hgb.2 (fun e => by have := hvl gb e.symm; omega), by show gb < w8.heap.size; omega⟩, ?_, q2, q3, (q4.keep fun b hb' => hsame b hb'.1 hb'.2.1).imp fun b hb' => ⟨.inr ⟨by omega, by omega⟩, by omega, hset b hb'.2.1 (fun e => by have := hvl b e.symm; omega), by omega⟩⟩
      rw [Addr.add_lit, Nat.zero_add]
      exact (World.cell?_of_block (hsame gb hgb.1 hgb.2)).trans hcell
  · refine ⟨hos.1.trans (hw6.os.trans (hg.os.trans hb.os)), hos.2.1.trans (hw6.tape.trans (hg.tape.trans hb.tape)), hos.2.2.trans (hw6.output.trans (hg.output.trans hb.output)), by omega, fun b hb' hnk => ?_⟩
    exact (hkeep b (by omega) (fun e => hnk (r3 b e.symm).1) (fun e => hnk (by rw [e]; exact r2)) (by omega)).trans (hb.block b hb')
set_option maxRecDepth 100000 in
set_option maxHeartbeats 4000000 in
theorem rmake_good {w : World} {ok ok' : Nat → Prop} {rb : Nat} {T : List Trm} {k pl : Nat} {A : Option Addr} {ps : List (List UInt8)} {c : Nat} (h : RTbl w ok rb T) (hx : Lst w ok' A ps) (hok : ∀ b, ok' b → b < w.heap.size) (hgt : ∀ x ∈ T, Good x) (hg : Good (k, ps)) (hpl : ps.length = pl) :
    Calls Tryd.prog 34 #[.pointer (some ⟨rb, 0, none⟩), .int .i64 k, .slice A pl c] w (RMakE w ok rb (mk T k ps)) := by
  have hmax := h.max
  have hk8 : k ≤ 8 := hg.2.1
  have hk1 : 1 ≤ k := hg.1
  have h64 : ps.length ≤ 64 := hg.2.2.1
  have q1 : ¬ ((k : Int) < 1) := by omega
  have q2 : ¬ (8 < (k : Int)) := by omega
  obtain ⟨n, hn⟩ : ∃ n, T.length = n := ⟨_, rfl⟩
  have HG := Lib.hid hg
  have HGT := Lib.hid hgt
  have HT := Lib.hid h
  have HX := Lib.hid hx
  have HOK := Lib.hid hok
  have HN := Lib.hid hn
  have HP := Lib.hid hpl
  rw [hpl] at h64
  rw [hn] at hmax
  clear h hx hok hg hn hpl hgt
  go_enter Tryd.func34, Tryd.ntmps34
  go_wp2_with (refine wpList_alloc32 i34 rfl rfl ?_)
  intro w1 hk1' hb1 hz1
  have K1 := Lib.hid hk1'
  have hx1 := HX.out.below hb1 HOK.out
  have HC := Lib.hid (refjoin_any (c := c) hx1 (fun b hb => Nat.lt_of_lt_of_le (HOK.out b hb) hb1.size) (by rw [HP.out]; unfold maxLen; omega))
  rw [HP.out] at HC
  clear hk1' hz1 hx1
  go_wp2_with fail
  go_at_call 35
  refine HC.out.mono ?_
  intro e w2 hj
  obtain ⟨A2, c2', rfl, h21, h22, h23, h24⟩ := hj.resolve_right (fun h => h.1 HG.out.2.2) |>.2
  have hb2 : Below w.heap.size w w2 := hb1.trans (h24.mono hb1.size)
  have K2 : Hid (Arr w2 22 w.heap.size z32) := (h24.block _ (Arr.lt K1.out)).trans K1.out
  have HB2 := Lib.hid hb2
  obtain ⟨jl, hjl⟩ : ∃ jl, (jn ps).length = jl := ⟨_, rfl⟩
  rw [hjl]
  clear hj hb1 h24 h23 HC K1 hjl h21 h22 hb2
  go_wp2_with fail
  go_loopg [10] n (fun G p wr => ∃ (j : Nat), p = .int .i64 j ∧ j ≤ n ∧ n - j ≤ G ∧ Hid (Below w2.heap.size w2 wr) ∧ Hid (∀ i (h : i < T.length), i < j → T[i] ≠ (k, ps)))
  case atStart => exact ⟨0, rfl, by omega, by omega, Below.refl _ _, fun i _ h => absurd h (by omega)⟩
  case round =>
    obtain ⟨j, rfl, hjn, hgk, hb, hall⟩ := hrel
    have HGK := Lib.hid hgk
    have hbw : Below w.heap.size w wr := HB2.out.trans (hb.out.mono HB2.out.size)
    have hTr := HT.out.below hbw
    obtain ⟨A3, c3, a1, a2, a3, a4⟩ := hTr.head
    rw [HN.out] at a1
    rcases Nat.lt_or_ge j n with hlt | hge
    · obtain ⟨gB, A4, c4, rfl, b1, b2, b3⟩ := a4 j (by rw [HN.out]; exact hlt)
      obtain ⟨x, hx⟩ : ∃ x, T[j]'(by rw [HN.out]; exact hlt) = x := ⟨_, rfl⟩
      rw [hx] at b1 b2 b3
      obtain ⟨kx, px⟩ := x
      simp only at b1 b2 b3
      have HXE := Lib.hid hx
      have HBW := Lib.hid hbw
      obtain ⟨xl, hxl⟩ : ∃ xl, px.length = xl := ⟨_, rfl⟩
      have hxm : px.length ≤ maxLen := by
        have := (HGT.out (kx, px) (hx ▸ List.getElem_mem _)).2.2.1
        simp only at this
        unfold maxLen; omega
      have HLC := Lib.hid (lists_any (c := c4) (d := c) b3 (HX.out.below hbw HOK.out) hxm)
      rw [HP.out, hxl] at HLC
      rw [hxl] at b2
      clear hx a2 a3 a4 hTr b3 hbw hgk hxl hxm
      by_cases hkk : kx = k
      · subst hkk
        go_wp2_with fail
        go_at_call 43
        refine HLC.out.mono ?_
        intro e w3 h3
        obtain ⟨rfl, hb3⟩ := told_below h3 hb.out
        clear h3 HLC
        have HB3 := Lib.hid hb3
        clear hb3
        by_cases hpp : px = ps
        · have hix : T.idxOf (kx, ps) = j := idx_first (by rw [HN.out]; exact hlt) (by rw [HXE.out, hpp]) hall.out
          have hmk : mk T kx ps = (j + 1, T) := by
            rw [mk_old HG.out (by rw [← hpp, ← HXE.out]; exact List.getElem_mem _), hix]
          have HM := Lib.hid hmk
          have d1 : decide (px = ps) = true := decide_eq_true hpp
          have q7 : (j : Int) + 1 ≤ 100000 := by omega
          have K3 : Hid (Arr w3 22 w.heap.size z32) := (HB3.out.block _ (Arr.lt K2.out)).trans K2.out
          rw [d1]
          clear hpp hix hmk d1
          have HNM := Lib.hid (fun W => refname_any (j + 1) W (by omega))
          go_wp2_with fail
          go_at_call 44
          refine (HNM.out _).mono ?_
          rintro e w4 ⟨rfl, hb4⟩
          have K4 : Hid (Arr w4 22 w.heap.size z32) := (hb4.block _ (Arr.lt K3.out)).trans K3.out
          go_wp2_with (first | (refine wpList_store32 i34 rfl _ _ rfl w.heap.size z32 (nm (j + 1)) rfl rfl K4.out z32_length (nm_length _) w.heap.size (Nat.le_refl _) ?_))
          intro w5 hk5 hb5 _ _
          have K5 := Lib.hid hk5
          have hb5' : Below w.heap.size w w5 := (HB2.out.trans (HB3.out.mono HB2.out.size)).trans ((hb4.mono (Nat.le_trans HB2.out.size HB3.out.size)).trans hb5)
          clear hk5
          go_wp2
          refine bodyPost_ret (results_two i34 rfl _ _ w.heap.size (nm (j + 1)) rfl K5.out (nm_length _)) rfl ?_
          exact rmakE_yes HM.out (by omega) ((HT.out.below hb5').imp fun _ _ h => .inl h) (Md.of_below hb5')
        · have d1 : decide (px = ps) = false := decide_eq_false hpp
          have hall2 : Hid (∀ i (h : i < T.length), i < j + 1 → T[i] ≠ (kx, ps)) := fun i h hi => by
            by_cases e : i = j
            · subst e
              rw [HXE.out]
              intro e2
              exact hpp (Prod.mk.inj e2).2
            · exact hall.out i h (by omega)
          have q7 : (j : Int) + 1 ≤ 100000 := by omega
          rw [d1]
          clear hpp d1
          go_wp2_with fail
          go_roundg (n - (j + 1))
          case measure => have := HGK.out; omega
          case rel => exact ⟨j + 1, rfl, by omega, Nat.le_refl _, HB3.out, hall2.out⟩
      · have d1 : ((kx : Int) == (k : Int)) = false := by rw [beq_eq_false_iff_ne]; omega
        have hall2 : Hid (∀ i (h : i < T.length), i < j + 1 → T[i] ≠ (k, ps)) := fun i h hi => by
          by_cases e : i = j
          · subst e
            rw [HXE.out]
            intro e2
            exact hkk (Prod.mk.inj e2).1
          · exact hall.out i h (by omega)
        have q7 : (j : Int) + 1 ≤ 100000 := by omega
        go_wp2_with fail
        go_roundg (n - (j + 1))
        case measure => have := HGK.out; omega
        case rel => exact ⟨j + 1, rfl, by omega, Nat.le_refl _, hb.out, hall2.out⟩
    · obtain rfl : n = j := by omega
      have hnin : (k, ps) ∉ T := fun hm => by
        obtain ⟨i, hi, e⟩ := List.getElem_of_mem hm
        exact hall.out i hi (by rw [← HN.out]; exact hi) e
      have d0 : ¬ ((n : Int) < (n : Int)) := by omega
      have HBW := Lib.hid hbw
      have HNI := Lib.hid hnin
      have K3 : Hid (Arr wr 22 w.heap.size z32) := (hb.out.block _ (Arr.lt K2.out)).trans K2.out
      clear hgk a2 a3 a4 hTr hnin hbw
      by_cases hfull : 65535 ≤ n
      · obtain rfl : n = 65535 := by omega
        have HM := Lib.hid (mk_full HG.out HNI.out (by rw [HN.out]; exact Nat.le_refl _))
        go_wp2_with (first | (refine wpList_build32 i34 rfl rfl ?_) | (refine wpList_store32 i34 rfl _ _ rfl w.heap.size z32 z32 rfl rfl K3.out z32_length z32_length w.heap.size (Nat.le_refl _) ?_))
        intro w5 hk5 hb5 _ _
        have K5 := Lib.hid hk5
        have hb5' := HBW.out.trans hb5
        clear hk5
        go_wp2
        refine bodyPost_ret (results_two i34 rfl _ _ w.heap.size z32 rfl K5.out z32_length) rfl ?_
        exact rmakE_no HM.out HT.out hb5'
      · have q3 : ¬ (65535 ≤ (n : Int)) := by omega
        go_wp2_with fail
        obtain ⟨wd, hwd⟩ : ∃ wd, wr = wd := ⟨_, rfl⟩
        have HBD : Hid (Below w2.heap.size w2 wd) := by rw [← hwd]; exact hb.out
        have KD : Hid (Arr wd 22 w.heap.size z32) := by rw [← hwd]; exact K3.out
        have hz0 : w.heap.size < wd.heap.size := Arr.lt KD.out
        have hbwd : Hid (Below w.heap.size w wd) := by rw [← hwd]; exact HBW.out
        obtain ⟨i5, hi5, hy0, hy1, hy2⟩ := info_parts Tryd.info5
        obtain ⟨i41, hi41, hx0, hx1, hx2⟩ := info_parts info41
        go_loopg [11, 12] pl (fun G v p wx => ∃ (j : Nat), p = .int .i64 j ∧ j ≤ pl ∧ pl - j ≤ G ∧ Hid (Below wd.heap.size wd wx) ∧ Hid (Cop wd wx ps v j))
        case atStart => exact ⟨0, rfl, by omega, by omega, hwd ▸ Below.refl _ _, Cop.nil _ _ _⟩
        case round =>
          obtain ⟨j, rfl, hjn, hgk2, hbx, hcop⟩ := hrel
          clear K3 HBW a1
          have HGK2 := Lib.hid hgk2
          have hbwx : Below w.heap.size w wr := hbwd.out.trans (hbx.out.mono hbwd.out.size)
          rcases Nat.lt_or_ge j pl with hlt | hge
          · have hLx := HX.out.below hbwx HOK.out
            have hjp : j < ps.length := by rw [HP.out]; exact hlt
            obtain ⟨ad, A', c', rfl, _, hcell, hl1, hl2, hbyt⟩ := hLx j hjp
            have hpj := HG.out.2.2.2 ps[j] (List.getElem_mem hjp)
            obtain ⟨xs, hxs⟩ : ∃ xs, ps[j] = xs := ⟨_, rfl⟩
            obtain ⟨xl, hxl⟩ : ∃ xl, xs.length = xl := ⟨_, rfl⟩
            rw [hxs] at hcell hl1 hbyt hpj
            rw [hxl] at hcell hl1 hpj
            have hcop2 := hcop.out
            obtain ⟨ss, o1, o2⟩ := hcop2
            have O2 := Lib.hid o2
            have HXS := Lib.hid hxs
            have HXL := Lib.hid hxl
            have HBYT := Lib.hid hbyt
            have hzx := hbx.out.size
            clear o2 hxs hxl hbyt hLx hgk2
            go_wp2_with (first | (at_builtin; refine wpList_append_byt _ rfl _ _ 66 rfl wr.heap.size i5 (.int .u8 0) Tryd.underlying66 hi5 hy0 hy1 hy2 rfl (.slice none 0 0) 0 [] rfl (World.ownsRow_nil _ _ _ _) ok' A' c' xs ?e1 HBYT.out ?e2 (Nat.le_refl _) ?_) | fail)
            case e1 => rw [HXL.out]; rfl
            case e2 => rw [HXL.out]; omega
            intro v3 w3 hown3 hgrow3 _
            have hb3 : Below wr.heap.size wr w3 := (Below.refl _ _).grown hgrow3 (Nat.le_refl _) fun g hg => by simp [Value.ownBlock] at hg
            have hown3' : w3.ownsRow wr.heap.size 5 1 v3 xs.length (u8s xs) := by
              simpa using hown3
            obtain ⟨A3, c3, rfl, _, y2, y3, y4⟩ := own_form hown3'
            rw [HXL.out] at y2 ⊢
            have Y4 : Hid (Byt w3 (fun b => wr.heap.size ≤ b ∧ b < w3.heap.size) A3 xs) := y4.imp fun b hb => hb.2
            have o3 := own_below o1 (hb3.mono (Nat.le_refl _))
            have HB3 := Lib.hid hb3
            have hz3 := hb3.size
            clear hown3 hown3' hgrow3 y4 hb3
            go_wp2_with (first | (at_builtin; refine wpList_append_own_at _ rfl _ _ 75 rfl wd.heap.size 66 i41 (.slice none 0 0) 1 24 Tryd.underlying75 hi41 hx0 hx1 hx2 rfl (by omega) u11 j _ rfl (o3.alloc _) ⟨w3.heap.size, 0, none⟩ 1 1 [.slice A3 xl c3] rfl rfl ?n1 ?n2 ?n3 ?n4 ?n5 ?_) | fail)
            case n2 => rfl
            case n3 => unfold maxLen; omega
            case n4 => omega
            case n5 => omega
            intro v5 w5 hown5 hgrow5 _ hat5
            have hz5 := hgrow5.size
            rw [alloc_size] at hz5
            have hb5 : Hid (Below wd.heap.size wd w5) := by
              have h3 := (hbx.out.trans (HB3.out.mono hzx)).alloc (by omega) (.cells #[.slice A3 xl c3] 66)
              exact h3.grown hgrow5 (by rw [alloc_size]; omega) fun g hg => (o3.lt g hg).1
            have hc5 : Hid (Cop wd w5 ps v5 (j + 1)) := by
              have hx3 := Y4.out
              have hlen : ps[j].length = xl := by rw [HXS.out]; exact HXL.out
              have hfin := hcop.out.step (w5 := w5) (v2 := v5) (A3 := A3) (c3 := c3) (o := .cells #[.slice A3 xl c3] 66) hzx hjp HB3.out (by rw [HXS.out]; exact hx3) (by rw [hlen]; exact y2) y3 ⟨o1, O2.out⟩ (by rw [hlen]; exact hown5) hgrow5 (by rcases hat5 with e | e; exact .inl e; exact .inr e)
              exact hfin
            clear hown5 hgrow5 hat5 o3 o1 hcop hbx
            go_wp2_with fail
            go_roundg (pl - (j + 1))
            case measure => have := HGK2.out; omega
            case rel => exact ⟨j + 1, by go_num, by omega, Nat.le_refl _, hb5.out, hc5.out⟩
          · obtain rfl : pl = j := by omega
            have d9 : ¬ ((pl : Int) < (pl : Int)) := by omega
            have HBWX := Lib.hid hbwx
            have hzx := hbx.out.size
            obtain ⟨vR, ssR, r1, r2, r3, r4, r5, r6, r7⟩ := HT.out
            have hR4 := r4
            rw [HN.out] at r4
            have hownR : wr.ownsRow 0 95 2 vR n (c2 T ssR) := ownsRow_keep r4 fun g hg => hbwx.block g (r4.lt g hg).2
            have hBR : Hid (wr.heap[rb]? = some (.cells #[vR] 85 (0, 0))) := (hbwx.block _ (lt_of_block r1)).trans r1
            have hcR : wr.cell? ⟨rb, 0, none⟩ = some vR := by rw [cell_of_block hBR.out]; rfl
            obtain ⟨A5, c5, rfl⟩ : ∃ A5 c5, u11 = .slice A5 pl c5 := by
              obtain ⟨ss, o1, _⟩ := hcop.out
              rcases o1.2 with ⟨e, h0⟩ | ⟨gb, cap, cur, e, _⟩
              · exact ⟨none, 0, by rw [e, h0]⟩
              · exact ⟨_, cap, e⟩
            have hrbl := lt_of_block r1
            have R1 := Lib.hid r1
            have R2 := Lib.hid r2
            have R3 := Lib.hid r3
            have R4 := Lib.hid hR4
            have R5 := Lib.hid r5
            have R6 := Lib.hid r6
            obtain ⟨i37, hi37, z0, z1, z2⟩ := info_parts info37
            have HI37 := Lib.hid hi37
            clear hi37 hi5 hi41
            have HNE : Hid (some rb ≠ vR.ownBlock) := fun e => (r3 rb e.symm).2 rfl
            clear r1 r2 r3 r4 hR4 r5 r6 r7 hbwx hgk2
            have F1 : Hid (∀ j u, [Value.int .i64 (k : Int), .slice A5 pl c5][j]? = some u → (wr.alloc (.cells #[.int .i64 (k : Int), .slice A5 pl c5] 95)).cell? ((⟨wr.heap.size, 0, none⟩ : Addr).add j) = some u) := World.news_of_block (heap_alloc_new wr _)
            have F2 : Hid (∀ u ∈ [Value.int .i64 (k : Int), .slice A5 pl c5], u.oneCell' = true) := fun u hu => by
              rcases List.mem_cons.1 hu with rfl | hu
              · rfl
              · obtain rfl : u = .slice A5 pl c5 := by simpa using hu
                rfl
            have F3 : Hid (n + 1 ≤ maxLen) := by show n + 1 ≤ maxLen; unfold maxLen; omega
            have F4 : Hid ((n + 1) * 32 ≤ 140737488355328) := by show (n + 1) * 32 ≤ _; omega
            have F5 : Hid ((wr.alloc (.cells #[.int .i64 (k : Int), .slice A5 pl c5] 95)).ownsRow 0 95 2 vR n (c2 T ssR)) := hownR.alloc _
            have F6 := Lib.hid z0
            have F7 := Lib.hid z1
            have F8 := Lib.hid z2
            clear hownR z0 z1 z2 hx0 hx1 hx2 hy0 hy1 hy2
            go_wp2_with (first | (at_builtin; refine wpList_append_own_at _ rfl _ _ 83 rfl 0 95 i37 (.agg #[.int .i64 0, .slice none 0 0]) 2 32 Tryd.underlying83 HI37.out F6.out F7.out F8.out rfl (Nat.zero_lt_succ _) vR n _ rfl F5.out ⟨wr.heap.size, 0, none⟩ 1 1 [.int .i64 k, .slice A5 pl c5] rfl rfl F1.out F2.out F3.out F4.out (Nat.zero_le _) ?_) | fail)
            intro v5 w5 hown5 hgrow5 _ hat5
            obtain ⟨N, hN⟩ : ∃ N, n + 1 = N := ⟨_, rfl⟩
            obtain ⟨g5, cap5, rfl⟩ : ∃ g5 cap5, v5 = .slice (some ⟨g5, 0, none⟩) (n + 1) cap5 := by
              rcases hown5.2 with ⟨_, h⟩ | ⟨g, cap, _, h, _⟩
              · omega
              · exact ⟨g, cap, h⟩
            have hz5 := hgrow5.size
            rw [alloc_size] at hz5
            have hB5 : Hid (w5.heap[rb]? = some (.cells [vR].toArray 85 (0, 0))) := ((hgrow5.block rb (by rw [alloc_size]; have := lt_of_block hBR.out; omega) HNE.out).trans (Below.heap_alloc _ _ _ (lt_of_block hBR.out))).trans hBR.out
            have KW : Hid (Arr wr 22 w.heap.size z32) := (hbx.out.block _ hz0).trans KD.out
            have K5 : Hid (Arr w5 22 w.heap.size z32) := ((hgrow5.block w.heap.size (by rw [alloc_size]; have := Arr.lt KW.out; omega) (fun e => by have := (R4.out.lt _ e.symm).2; omega)).trans (Below.heap_alloc _ _ _ (Arr.lt KW.out))).trans KW.out
            have O5 := Lib.hid hown5
            have G5 := Lib.hid hgrow5
            have A5' := Lib.hid hat5
            have EN := Lib.hid hN
            rw [hN] at O5 ⊢
            clear hown5 hgrow5 hat5 hN hcR F1 F5
            go_wp2_with (first | (refine wpList_store_cell rfl 83 _ _ rfl size27 rb 0 (.slice (some ⟨g5, 0, none⟩) N cap5) rfl rfl rfl _ _ hB5.out (by simp) ?_) | fail)
            intro w6 hb6 hw6
            have hc6 : w6.cell? ⟨rb, 0, none⟩ = some (.slice (some ⟨g5, 0, none⟩) N cap5) := by rw [cell_of_block hb6.out]; rfl
            have hNN : N ≤ 65535 := by have := EN.out; omega
            have HNM := Lib.hid (fun W => refname_any N W (by omega))
            have K6 : Hid (Arr w6 22 w.heap.size z32) := (hw6.out.block _ (by omega)).trans K5.out
            go_wp2_with fail
            go_at_call 44
            refine (HNM.out _).mono ?_
            rintro e w7 ⟨rfl, hb7⟩
            have K7 : Hid (Arr w7 22 w.heap.size z32) := (hb7.block _ (Arr.lt K6.out)).trans K6.out
            go_wp2_with (first | (refine wpList_store32 i34 rfl _ _ rfl w.heap.size z32 (nm N) rfl rfl K7.out z32_length (nm_length _) w.heap.size (Nat.le_refl _) ?_) | fail)
            intro w8 hk8 hb8 ho8 hz8
            have K8 := Lib.hid hk8
            clear hk8
            go_wp2_with fail
            refine bodyPost_ret (results_two i34 rfl _ _ w.heap.size (nm N) rfl K8.out (nm_length _)) rfl ?_
            have hn5 : n < 65535 := by omega
            have hend := rterm_end (w := w) (wd := wd) (wr := wr) (w5 := w5) (w6 := w6) (w8 := w8) (ok := ok) (rb := rb) (k := k) (n := n) (pl := pl) (g5 := g5) (cap5 := cap5) (rs := w.heap.size) (T := T) (ps := ps) HN.out hn5 HP.out R1.out R2.out R3.out R4.out R5.out R6.out (Nat.le_of_lt hz0) hzx HBWX.out hcop.out (by rw [EN.out]; exact O5.out) G5.out
              (by rcases A5'.out with e | e; exact .inl e; exact .inr (Option.some.inj e)) (by rw [EN.out]; exact hb6.out) hw6.out (Nat.le_trans hb7.size (Nat.le_of_eq hz8.symm)) (Nat.le_refl _) hz0 (fun b hb hne => (ho8 b hne).trans (hb7.block b hb)) ⟨hb8.os.trans hb7.os, hb8.tape.trans hb7.tape, hb8.output.trans hb7.output⟩
            exact rmakE_yes (T := T ++ [(k, ps)]) (by rw [mk_new HG.out HNI.out (by rw [HN.out]; exact hn5), HN.out, EN.out]) (by have := EN.out; omega) hend.1 hend.2
/-- The reference's Make, whatever is to be made. -/
theorem rmake_any {w : World} {ok ok' : Nat → Prop} {rb : Nat} {T : List Trm} {kind : Int} {A : Option Addr} {ps : List (List UInt8)} {c : Nat} (h : RTbl w ok rb T) (hgt : ∀ x ∈ T, Good x) (hx : Lst w ok' A ps) (hok : ∀ b, ok' b → b < w.heap.size) (hm : ps.length ≤ maxLen) :
    Calls Tryd.prog 34 #[.pointer (some ⟨rb, 0, none⟩), .int .i64 kind, .slice A ps.length c] w (RMakE w ok rb (mk T kind ps)) := by
  by_cases hbad : Fit ps ∧ 1 ≤ kind ∧ kind ≤ 8
  · obtain ⟨h1, h2, h3⟩ := hbad
    obtain ⟨k, rfl⟩ : ∃ k : Nat, kind = k := ⟨kind.toNat, by omega⟩
    exact rmake_good h hx hok hgt ⟨by show 1 ≤ k; omega, by show k ≤ 8; omega, h1⟩ rfl
  · exact rmake_no h hx hok hm hbad
end Go.Proofs.YtdnkeaokgkiloaaDoor.T
