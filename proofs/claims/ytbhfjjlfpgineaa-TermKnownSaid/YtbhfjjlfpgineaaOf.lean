/- Of tells the term of a name, in new memory; of another key nothing. Conditions: none. -/
import Derived.Test.YtbhfjjlfpgineaaRead
namespace Go.Proofs.Ytbhfjjlfpgineaa
open Go.RowKit

/-- What Of tells. -/
def OfE (w : World) (T : List Trm) (n : Nat) (e : Ending) (w' : World) : Prop :=
  Below w.heap.size w w' ∧ ((n = 0 ∧ e = .returned (.tuple #[.int .i64 0, .slice none 0 0, .bool false])) ∨
    ∃ (h : n - 1 < T.length) (A : Option Addr) (c : Nat), 0 < n ∧ e = .returned (.tuple #[.int .i64 T[n - 1].1, .slice A T[n - 1].2.length c, .bool true]) ∧ Lst w' (fun b => w.heap.size ≤ b ∧ b < w'.heap.size) A T[n - 1].2)
theorem ofE_none {w w' : World} {T : List Trm} {n : Nat} (h : n = 0) (hb : Below w.heap.size w w') : OfE w T n (.returned (.tuple #[.int .i64 0, .slice none 0 0, .bool false])) w' := ⟨hb, .inl ⟨h, rfl⟩⟩
theorem ofE_some {w w' : World} {T : List Trm} {j : Nat} {x : Trm} {A : Option Addr} {c : Nat} (hj : j < T.length) (hx : T[j] = x) (hl : Lst w' (fun b => w.heap.size ≤ b ∧ b < w'.heap.size) A x.2) (hb : Below w.heap.size w w') :
    OfE w T (j + 1) (.returned (.tuple #[.int .i64 x.1, .slice A x.2.length c, .bool true])) w' := by
  subst hx
  exact ⟨hb, .inr ⟨hj, A, c, Nat.succ_pos _, rfl, hl⟩⟩
theorem quiet_num {w : World} {f : Nat} {args : Array Value} {n : Nat} (h : ∀ W, (∃ k, W = w.drewN k) → Calls Try.prog f args W (Num W n)) (k : Nat) : Calls Try.prog f args (w.drewN k) fun e w'' => e = .returned (.int .i64 n) ∧ ∃ m, w'' = w.drewN m :=
  (h (w.drewN k) ⟨k, rfl⟩).mono fun _ _ h => ⟨h.1, k, h.2.symm⟩

set_option maxRecDepth 100000 in
set_option maxHeartbeats 1000000 in
theorem of_any {w : World} {ok : Nat → Prop} {tb : Nat} {T : List Trm} {ks : List UInt8} (h : Tbl w ok tb T) (hl : ks.length = 32) : Calls Try.prog 11 #[.pointer (some ⟨tb, 0, none⟩), .agg (u8s ks).toArray] w (OfE w T (num ks (T.length + 1))) := by
  have hmax := h.max
  obtain ⟨M, hM⟩ : ∃ M, T.length + 1 = M := ⟨_, rfl⟩
  obtain ⟨n, hn⟩ : ∃ n, num ks M = n := ⟨_, rfl⟩
  rw [hM, hn]
  have HM := Lib.hid hM
  have HN := Lib.hid hn
  have HL := Lib.hid hl
  have hM100 : M ≤ 100000 := by omega
  clear hM hn hl
  go_enter Try.func11, Try.ntmps11
  go_wp2_with (refine wpList_box32 i49 rfl _ rfl ks rfl HL.out ?_)
  intro w1 hk1 hb1 hz1
  have h1 : Tbl w1 ok tb T := h.below hb1
  have Q1 := Lib.hid (quiet_num (w := w1) (f := 26) (args := #[.pointer (some ⟨tb, 0, none⟩)]) (n := M) (by
    rintro W ⟨k, rfl⟩
    rw [← HM.out]
    exact beyond_any (h1.drewN k)))
  have Q2 := Lib.hid (quiet_num (w := w1) (f := 25) (args := #[.slice (some ⟨w.heap.size, 0, none⟩) 32 32, .int .i64 M]) (n := n) (by
    rintro W ⟨k, rfl⟩
    have := number_any (c := 32) (below := M) ((Arr.byt (ok := fun _ => True) hk1.out trivial).drewN k) (by rw [HL.out]; omega) (by unfold maxLen; omega) hM100
    rw [HL.out, HN.out] at this
    exact this))
  have Z1 := Lib.hid hz1
  clear hz1
  go_wp2_with fail
  go_quiet (first | (go_at_call 26; exact Q1.out _) | (go_at_call 25; exact Q2.out _))
  have hb2 : Below w.heap.size w (w1.drewN nq) := below_drewN hb1 nq
  have h2 : Tbl (w1.drewN nq) ok tb T := h1
  by_cases h0 : n = 0
  · subst h0
    clear Q1 Q2 h2
    go_wp2
    go_ret3
    exact ofE_none rfl hb2
  · obtain ⟨j, rfl⟩ : ∃ j, n = j + 1 := ⟨n - 1, by omega⟩
    have hj : j < T.length := by
      have := num_lt ks M (by rw [HN.out]; omega)
      have := HM.out
      have := HN.out
      omega
    have d1 : (((j + 1 : Nat) : Int) == 0) = false := by rw [beq_eq_false_iff_ne]; omega
    have HR := Lib.hid (read_any h2 hj)
    obtain ⟨x, hx⟩ : ∃ x, T[j] = x := ⟨_, rfl⟩
    rw [hx] at HR
    have HX := Lib.hid hx
    clear Q1 Q2 h2 h1 h hx
    simp only [Int.natCast_add, Int.cast_ofNat_Int] at d1
    go_wp2_with fail
    go_at_call 27
    refine HR.out.mono ?_
    rintro e w3 ⟨A, c, rfl, h31, h32⟩
    have hb3 : Below w.heap.size w w3 := hb2.trans (h32.mono hb2.size)
    go_wp2
    go_ret3
    exact ofE_some hj HX.out (h31.imp fun b hb => ⟨Nat.le_trans hb2.size hb.1, hb.2⟩) hb3
end Go.Proofs.Ytbhfjjlfpgineaa
