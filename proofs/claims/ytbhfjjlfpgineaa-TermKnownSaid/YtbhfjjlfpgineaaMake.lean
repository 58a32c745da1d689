/- Make tells the name of a term, and makes it, if there is none yet. Conditions: none. -/
import Derived.Test.YtbhfjjlfpgineaaOf
namespace Go.Proofs.Ytbhfjjlfpgineaa
open Go.RowKit

/-- The number of a term, and the table behind: 0, if it isn't made. -/
def mk (T : List Trm) (kind : Int) (ps : List (List UInt8)) : Nat × List Trm :=
  if Fit ps ∧ 1 ≤ kind ∧ kind ≤ 8 then
    if (kind.toNat, ps) ∈ T then (T.idxOf (kind.toNat, ps) + 1, T)
    else if 65535 ≤ T.length then (0, T) else (T.length + 1, T ++ [(kind.toNat, ps)])
  else (0, T)
/-- A number's name; the zero key for 0. -/
def nm0 (n : Nat) : List UInt8 := if n = 0 then z32 else nm n
theorem nm0_length (n : Nat) : (nm0 n).length = 32 := by
  unfold nm0
  split
  · exact z32_length
  · exact nm_length n
/-- What Make tells. -/
def MakeE (w : World) (ok : Nat → Prop) (tb : Nat) (p : Nat × List Trm) (e : Ending) (w' : World) : Prop :=
  e = .returned (.tuple #[.agg (u8s (nm0 p.1)).toArray, .bool (decide (0 < p.1))]) ∧ Tbl w' (More ok w w') tb p.2 ∧ Md ok w w'
theorem makeE_no {w w' : World} {ok : Nat → Prop} {tb : Nat} {p : Nat × List Trm} {T : List Trm} (hp : p = (0, T)) (h : Tbl w ok tb T) (hb : Below w.heap.size w w') : MakeE w ok tb p (.returned (.tuple #[.agg (u8s z32).toArray, .bool false])) w' := by
  subst hp
  exact ⟨rfl, (h.below hb).imp fun _ _ ho => .inl ho, Md.of_below hb⟩
theorem makeE_yes {w w' : World} {ok : Nat → Prop} {tb n : Nat} {p : Nat × List Trm} {T : List Trm} (hp : p = (n, T)) (hn : 0 < n) (h : Tbl w' (More ok w w') tb T) (hb : Md ok w w') : MakeE w ok tb p (.returned (.tuple #[.agg (u8s (nm n)).toArray, .bool true])) w' := by
  subst hp
  refine ⟨?_, h, hb⟩
  unfold nm0
  rw [if_neg (by show ¬ n = 0; omega)]
  simp only [hn, decide_true]

set_option maxRecDepth 100000 in
set_option maxHeartbeats 1000000 in
theorem make_no {w : World} {ok ok' : Nat → Prop} {tb : Nat} {T : List Trm} {kind : Int} {A : Option Addr} {ps : List (List UInt8)} {c : Nat} (h : Tbl w ok tb T) (hx : Lst w ok' A ps) (hok : ∀ b, ok' b → b < w.heap.size) (hm : ps.length ≤ maxLen) (hbad : ¬ (Fit ps ∧ 1 ≤ kind ∧ kind ≤ 8)) :
    Calls Try.prog 21 #[.pointer (some ⟨tb, 0, none⟩), .int .i64 kind, .slice A ps.length c] w (MakeE w ok tb (mk T kind ps)) := by
  have hmk : mk T kind ps = (0, T) := by unfold mk; rw [if_neg hbad]
  have HM := Lib.hid hmk
  clear hmk
  by_cases hf : Fit ps
  · have hk : kind < 1 ∨ (1 ≤ kind ∧ 8 < kind) := by
      rcases Int.lt_or_le kind 1 with hk | hk
      · exact .inl hk
      · refine .inr ⟨hk, ?_⟩
        rcases Int.lt_or_le 8 kind with h8 | h8
        · exact h8
        · exact absurd ⟨hf, hk, h8⟩ hbad
    have HF := Lib.hid hf
    clear hbad hf
    go_enter Try.func21, Try.ntmps21
    go_wp2_with (refine wpList_alloc32 i49 rfl rfl ?_)
    intro w1 hk1 hb1 hz1
    have K1 := Lib.hid hk1
    have Z1 := Lib.hid hz1
    clear hk1 hz1
    have hx1 := hx.below hb1 hok
    go_wp2_with fail
    go_at_call 38
    refine (join_yes hx1 (fun b hb => Nat.lt_of_lt_of_le (hok b hb) hb1.size) HF.out).mono ?_
    rintro e w2 ⟨A2, c2, rfl, h21, h22, h23, h24⟩
    have hb2 : Below w.heap.size w w2 := hb1.trans (h24.mono hb1.size)
    have K2 : Hid (Arr w2 49 w.heap.size z32) := (h24.block _ (Arr.lt K1.out)).trans K1.out
    clear K1 h23
    rcases hk with hk | ⟨hk1, hk2⟩
    · have d1 : decide (kind < 1) = true := by simpa using hk
      go_wp2_with (first | (refine wpList_build32 i49 rfl rfl ?_) | (refine wpList_store32 i49 rfl _ _ rfl w.heap.size z32 z32 rfl rfl K2.out z32_length z32_length w.heap.size (Nat.le_refl _) ?_))
      intro w3 hk3 hb3 ho3 hz3
      have K3 := Lib.hid hk3
      have hb3' := hb2.trans hb3
      clear hk3 hz3 ho3
      go_wp2
      refine bodyPost_ret (results_two i49 rfl _ _ w.heap.size z32 rfl K3.out z32_length) rfl ?_
      exact makeE_no HM.out h hb3'
    · have d1 : decide (kind < 1) = false := by simp; omega
      have d2 : decide (8 < kind) = true := by simpa using hk2
      go_wp2_with (first | (refine wpList_build32 i49 rfl rfl ?_) | (refine wpList_store32 i49 rfl _ _ rfl w.heap.size z32 z32 rfl rfl K2.out z32_length z32_length w.heap.size (Nat.le_refl _) ?_))
      intro w3 hk3 hb3 ho3 hz3
      have K3 := Lib.hid hk3
      have hb3' := hb2.trans hb3
      clear hk3 hz3 ho3
      go_wp2
      refine bodyPost_ret (results_two i49 rfl _ _ w.heap.size z32 rfl K3.out z32_length) rfl ?_
      exact makeE_no HM.out h hb3'
  · have HF := Lib.hid hf
    clear hbad hf
    go_enter Try.func21, Try.ntmps21
    go_wp2_with (refine wpList_alloc32 i49 rfl rfl ?_)
    intro w1 hk1 hb1 hz1
    have K1 := Lib.hid hk1
    have Z1 := Lib.hid hz1
    clear hk1 hz1
    have hx1 := hx.below hb1 hok
    go_wp2_with fail
    go_at_call 38
    refine (join_no hx1 hm HF.out).mono ?_
    rintro e w2 ⟨he, rfl⟩
    obtain rfl : e = .returned (.tuple #[.slice none 0 0, .bool false]) := he
    go_wp2_with (first | (refine wpList_build32 i49 rfl rfl ?_) | (refine wpList_store32 i49 rfl _ _ rfl w.heap.size z32 z32 rfl rfl K1.out z32_length z32_length w.heap.size (Nat.le_refl _) ?_))
    intro w3 hk3 hb3 ho3 hz3
    have K3 := Lib.hid hk3
    have hb3' := hb1.trans hb3
    clear hk3 hz3 ho3
    go_wp2
    refine bodyPost_ret (results_two i49 rfl _ _ w.heap.size z32 rfl K3.out z32_length) rfl ?_
    exact makeE_no HM.out h hb3'
end Go.Proofs.Ytbhfjjlfpgineaa
