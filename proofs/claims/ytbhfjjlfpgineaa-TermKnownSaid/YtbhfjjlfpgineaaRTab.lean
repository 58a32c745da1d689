/- The reference's table, in memory; its Make of what can't be made. Conditions: none. -/
import Derived.Test.YtbhfjjlfpgineaaMak3
import Derived.Test.YtbhfjjlfpgineaaLists
namespace Go.Proofs.Ytbhfjjlfpgineaa
open Go.RowKit

/-- Kinds and lists, one behind the other. -/
def c2 : List Trm → List Value → List Value
  | x :: T, s :: ss => .int .i64 x.1 :: s :: c2 T ss
  | _, _ => []
theorem c2_length : ∀ (T : List Trm) (ss : List Value), ss.length = T.length → (c2 T ss).length = T.length * 2
  | [], [], _ => rfl
  | [], _ :: _, h => by simp at h
  | _ :: _, [], h => by simp at h
  | x :: T, s :: ss, h => by
    have := c2_length T ss (by simpa using h)
    simp only [c2, List.length_cons, this]
    omega
theorem c2_append : ∀ (T : List Trm) (ss : List Value) (x : Trm) (s : Value), ss.length = T.length → c2 (T ++ [x]) (ss ++ [s]) = c2 T ss ++ [.int .i64 x.1, s]
  | [], [], _, _, _ => rfl
  | [], _ :: _, _, _, h => by simp at h
  | _ :: _, [], _, _, h => by simp at h
  | y :: T, t :: ss, x, s, h => by
    have := c2_append T ss x s (by simpa using h)
    simp only [List.cons_append, c2, this]
theorem c2_get : ∀ (T : List Trm) (ss : List Value) (i : Nat) (_ : ss.length = T.length) (hi : i < T.length), (c2 T ss)[i * 2]? = some (.int .i64 T[i].1) ∧ (c2 T ss)[i * 2 + 1]? = ss[i]?
  | [], _, i, _, hi => by simp at hi
  | _ :: _, [], _, h, _ => by simp at h
  | x :: T, s :: ss, 0, _, _ => ⟨rfl, rfl⟩
  | x :: T, s :: ss, i + 1, h, hi => by
    have := c2_get T ss i (by simpa using h) (by simpa using hi)
    refine ⟨?_, ?_⟩
    · show (Value.int .i64 x.1 :: s :: c2 T ss)[(i + 1) * 2]? = _
      rw [show (i + 1) * 2 = (i * 2 + 1) + 1 by omega, List.getElem?_cons_succ, List.getElem?_cons_succ]
      exact this.1
    · show (Value.int .i64 x.1 :: s :: c2 T ss)[(i + 1) * 2 + 1]? = _
      rw [show (i + 1) * 2 + 1 = (i * 2 + 1 + 1) + 1 by omega, List.getElem?_cons_succ, List.getElem?_cons_succ, List.getElem?_cons_succ]
      exact this.2
/-- The reference's table. -/
def RTbl (w : World) (ok : Nat → Prop) (rb : Nat) (T : List Trm) : Prop :=
  ∃ (v : Value) (ss : List Value), w.heap[rb]? = some (.cells #[v] 29 (0, 0)) ∧ ok rb ∧ (∀ g, v.ownBlock = some g → ok g ∧ g ≠ rb) ∧ w.ownsRow 0 37 2 v T.length (c2 T ss) ∧ ss.length = T.length ∧
    (∀ i (h : i < T.length), ∃ A c, ss[i]? = some (.slice A T[i].2.length c) ∧ Lst w (fun b => ok b ∧ b ≠ rb ∧ some b ≠ v.ownBlock ∧ b < w.heap.size) A T[i].2) ∧ T.length ≤ 65535
section
variable {w w' : World} {ok ok' : Nat → Prop} {rb : Nat} {T : List Trm}
theorem RTbl.keep (h : RTbl w ok rb T) (hs : w.heap.size ≤ w'.heap.size) (hk : ∀ b, ok b → b < w.heap.size → w'.heap[b]? = w.heap[b]?) : RTbl w' ok rb T := by
  obtain ⟨v, ss, h1, h2, h3, h4, h5, h6, h7⟩ := h
  refine ⟨v, ss, (hk _ h2 (lt_of_block h1)).trans h1, h2, h3, ownsRow_keep h4 fun g hg => hk g (h3 g hg).1 (h4.lt g hg).2, h5, fun i hi => ?_, h7⟩
  obtain ⟨A, c, e, hl⟩ := h6 i hi
  exact ⟨A, c, e, (hl.keep fun b hb => hk b hb.1 hb.2.2.2).imp fun b hb => ⟨hb.1, hb.2.1, hb.2.2.1, Nat.lt_of_lt_of_le hb.2.2.2 hs⟩⟩
theorem RTbl.imp (h : RTbl w ok rb T) (hi : ∀ b, b < w.heap.size → ok b → ok' b) : RTbl w ok' rb T := by
  obtain ⟨v, ss, h1, h2, h3, h4, h5, h6, h7⟩ := h
  refine ⟨v, ss, h1, hi _ (lt_of_block h1) h2, fun g hg => ⟨hi g (h4.lt g hg).2 (h3 g hg).1, (h3 g hg).2⟩, h4, h5, fun i hi' => ?_, h7⟩
  obtain ⟨A, c, e, hl⟩ := h6 i hi'
  exact ⟨A, c, e, hl.imp fun b hb => ⟨hi b hb.2.2.2 hb.1, hb.2⟩⟩
theorem RTbl.below (h : RTbl w ok rb T) (hb : Below w.heap.size w w') : RTbl w' ok rb T := h.keep hb.size fun b _ hlt => hb.block b hlt
theorem RTbl.lt (h : RTbl w ok rb T) : rb < w.heap.size := by
  obtain ⟨v, ss, h1, _⟩ := h
  exact lt_of_block h1
theorem RTbl.max (h : RTbl w ok rb T) : T.length ≤ 65535 := by
  obtain ⟨v, ss, _, _, _, _, _, _, h7⟩ := h
  exact h7
/-- The list's header; its cells. -/
theorem RTbl.head (h : RTbl w ok rb T) : ∃ A c, w.cell? ⟨rb, 0, none⟩ = some (.slice A T.length c) ∧ T.length ≤ c ∧ c ≤ maxLen ∧ ∀ i (hi : i < T.length), ∃ g A' c', A = some ⟨g, 0, none⟩ ∧ w.cell? ⟨g, i * 2, none⟩ = some (.int .i64 T[i].1) ∧ w.cell? ⟨g, i * 2 + 1, none⟩ = some (.slice A' T[i].2.length c') ∧ Lst w ok A' T[i].2 := by
  obtain ⟨v, ss, h1, h2, h3, h4, h5, h6, h7⟩ := h
  have hc := cell_of_block h1 0
  rcases h4.2 with ⟨rfl, h0⟩ | ⟨g, cap, cur, rfl, _, hg, hnc, hcm, _, htk⟩
  · exact ⟨none, 0, by rw [hc, h0]; rfl, by omega, by unfold maxLen; omega, fun i hi => by omega⟩
  · refine ⟨_, cap, by rw [hc]; rfl, hnc, hcm, fun i hi => ?_⟩
    obtain ⟨A', c', e, hl⟩ := h6 i hi
    have hget : ∀ j u, (c2 T ss)[j]? = some u → w.cell? ⟨g, j, none⟩ = some u := fun j u hu => by
      rw [← htk, List.getElem?_take] at hu
      split at hu
      · rw [cell_of_block hg]
        show cur[j]? = some u
        rw [← Array.getElem?_toList]; exact hu
      · cases hu
    obtain ⟨e1, e2⟩ := c2_get T ss i h5 hi
    exact ⟨g, A', c', rfl, hget _ _ e1, hget _ _ (e2.trans e), hl.imp fun b hb => hb.1⟩
end
/-- What the reference's Make tells. -/
def RMakE (w : World) (ok : Nat → Prop) (rb : Nat) (p : Nat × List Trm) (e : Ending) (w' : World) : Prop :=
  e = .returned (.tuple #[.agg (u8s (nm0 p.1)).toArray, .bool (decide (0 < p.1))]) ∧ RTbl w' (More ok w w') rb p.2 ∧ Md ok w w'
theorem rmakE_no {w w' : World} {ok : Nat → Prop} {rb : Nat} {p : Nat × List Trm} {T : List Trm} (hp : p = (0, T)) (h : RTbl w ok rb T) (hb : Below w.heap.size w w') : RMakE w ok rb p (.returned (.tuple #[.agg (u8s z32).toArray, .bool false])) w' := by
  subst hp
  exact ⟨rfl, (h.below hb).imp fun _ _ ho => .inl ho, Md.of_below hb⟩
theorem rmakE_yes {w w' : World} {ok : Nat → Prop} {rb n : Nat} {p : Nat × List Trm} {T : List Trm} (hp : p = (n, T)) (hn : 0 < n) (h : RTbl w' (More ok w w') rb T) (hb : Md ok w w') : RMakE w ok rb p (.returned (.tuple #[.agg (u8s (nm n)).toArray, .bool true])) w' := by
  subst hp
  refine ⟨?_, h, hb⟩
  unfold nm0
  rw [if_neg (by show ¬ n = 0; omega)]
  simp only [hn, decide_true]

set_option maxRecDepth 100000 in
set_option maxHeartbeats 1000000 in
theorem rmake_no {w : World} {ok ok' : Nat → Prop} {rb : Nat} {T : List Trm} {kind : Int} {A : Option Addr} {ps : List (List UInt8)} {c : Nat} (h : RTbl w ok rb T) (hx : Lst w ok' A ps) (hok : ∀ b, ok' b → b < w.heap.size) (hm : ps.length ≤ maxLen) (hbad : ¬ (Fit ps ∧ 1 ≤ kind ∧ kind ≤ 8)) :
    Calls Try.prog 24 #[.pointer (some ⟨rb, 0, none⟩), .int .i64 kind, .slice A ps.length c] w (RMakE w ok rb (mk T kind ps)) := by
  have hmk : mk T kind ps = (0, T) := by unfold mk; rw [if_neg hbad]
  have HM := Lib.hid hmk
  clear hmk
  by_cases hf : Fit ps
  · have hk : kind < 1 ∨ (1 ≤ kind ∧ 8 < kind) := by
      rcases Int.lt_or_le kind 1 with hk | hk
      · exact .inl hk
      · refine .inr ⟨hk, ?_⟩
        rcases Int.lt_or_le 8 kind with h8 | h8
        · exact h8
        · exact absurd ⟨hf, hk, h8⟩ hbad
    have HF := Lib.hid hf
    clear hbad hf
    go_enter Try.func24, Try.ntmps24
    go_wp2_with (refine wpList_alloc32 i34 rfl rfl ?_)
    intro w1 hk1 hb1 hz1
    have K1 := Lib.hid hk1
    have Z1 := Lib.hid hz1
    clear hk1 hz1
    have hx1 := hx.below hb1 hok
    go_wp2_with fail
    go_at_call 39
    refine (refjoin_any hx1 (fun b hb => Nat.lt_of_lt_of_le (hok b hb) hb1.size) hm).mono ?_
    intro e w2 hj
    obtain ⟨A2, c2, rfl, h21, h22, h23, h24⟩ := hj.resolve_right (fun h => h.1 HF.out) |>.2
    clear hj
    have hb2 : Below w.heap.size w w2 := hb1.trans (h24.mono hb1.size)
    have K2 : Hid (Arr w2 34 w.heap.size z32) := (h24.block _ (Arr.lt K1.out)).trans K1.out
    clear K1 h23
    rcases hk with hk | ⟨hk1, hk2⟩
    · have d1 : decide (kind < 1) = true := by simpa using hk
      go_wp2_with (first | (refine wpList_build32 i34 rfl rfl ?_) | (refine wpList_store32 i34 rfl _ _ rfl w.heap.size z32 z32 rfl rfl K2.out z32_length z32_length w.heap.size (Nat.le_refl _) ?_))
      intro w3 hk3 hb3 ho3 hz3
      have K3 := Lib.hid hk3
      have hb3' := hb2.trans hb3
      clear hk3 hz3 ho3
      go_wp2
      refine bodyPost_ret (results_two i34 rfl _ _ w.heap.size z32 rfl K3.out z32_length) rfl ?_
      exact rmakE_no HM.out h hb3'
    · have d1 : decide (kind < 1) = false := by simp; omega
      have d2 : decide (8 < kind) = true := by simpa using hk2
      go_wp2_with (first | (refine wpList_build32 i34 rfl rfl ?_) | (refine wpList_store32 i34 rfl _ _ rfl w.heap.size z32 z32 rfl rfl K2.out z32_length z32_length w.heap.size (Nat.le_refl _) ?_))
      intro w3 hk3 hb3 ho3 hz3
      have K3 := Lib.hid hk3
      have hb3' := hb2.trans hb3
      clear hk3 hz3 ho3
      go_wp2
      refine bodyPost_ret (results_two i34 rfl _ _ w.heap.size z32 rfl K3.out z32_length) rfl ?_
      exact rmakE_no HM.out h hb3'
  · have HF := Lib.hid hf
    clear hbad hf
    go_enter Try.func24, Try.ntmps24
    go_wp2_with (refine wpList_alloc32 i34 rfl rfl ?_)
    intro w1 hk1 hb1 hz1
    have K1 := Lib.hid hk1
    have Z1 := Lib.hid hz1
    clear hk1 hz1
    have hx1 := hx.below hb1 hok
    go_wp2_with fail
    go_at_call 39
    refine (refjoin_any hx1 (fun b hb => Nat.lt_of_lt_of_le (hok b hb) hb1.size) hm).mono ?_
    intro e w2 hj
    obtain ⟨_, he, h24⟩ := hj.resolve_left (fun h => HF.out h.1)
    obtain rfl : e = .returned (.tuple #[.slice none 0 0, .bool false]) := he
    have hb2 : Below w.heap.size w w2 := hb1.trans (h24.mono hb1.size)
    have K2 : Hid (Arr w2 34 w.heap.size z32) := (h24.block _ (Arr.lt K1.out)).trans K1.out
    clear hj K1
    go_wp2_with (first | (refine wpList_build32 i34 rfl rfl ?_) | (refine wpList_store32 i34 rfl _ _ rfl w.heap.size z32 z32 rfl rfl K2.out z32_length z32_length w.heap.size (Nat.le_refl _) ?_))
    intro w3 hk3 hb3 ho3 hz3
    have K3 := Lib.hid hk3
    have hb3' := hb2.trans hb3
    clear hk3 hz3 ho3
    go_wp2
    refine bodyPost_ret (results_two i34 rfl _ _ w.heap.size z32 rfl K3.out z32_length) rfl ?_
    exact rmakE_no HM.out h hb3'
end Go.Proofs.Ytbhfjjlfpgineaa
