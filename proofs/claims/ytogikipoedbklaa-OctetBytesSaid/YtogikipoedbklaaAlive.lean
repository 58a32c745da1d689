/- The document's examples come out as it says: 'alive' is true. Conditions: none. -/
import Derived.Test.YtogikipoedbklaaLists
import Derived.Lib.SlBytesConst
namespace Go.Proofs.Ytogikipoedbklaa
open Go.RowKit

/-- In new memory lies just xs, n bytes; and 'yes'. -/
def YesN (w : World) (xs : List UInt8) (n : Nat) (e : Ending) (w' : World) : Prop :=
  ∃ A c, e = .returned (.tuple #[.slice A n c, .bool true]) ∧ n ≤ c ∧ c ≤ maxLen ∧ Byt w' (fun b => w.heap.size ≤ b ∧ b < w'.heap.size) A xs ∧ Below w.heap.size w w'
theorem YesB.n {w w' : World} {xs : List UInt8} {n : Nat} {e : Ending} (h : YesB w xs e w') (hn : xs.length = n) : YesN w xs n e w' := by
  subst hn; exact h
theorem Byt.str_n {w : World} {ok : Nat → Prop} {A : Option Addr} {xs : List UInt8} {n : Nat} (h : Byt w ok A xs) (hn : xs.length = n) (c : Nat) : (convert 24 9 (.slice A n c)).run Try.prog w = .ok (.string ⟨xs.toArray⟩) w := by
  subst hn; exact h.str c
/-- A list of m pieces in new memory, and the error's number. -/
def SplitN (w : World) (ps : List (List UInt8)) (m err : Nat) (e : Ending) (w' : World) : Prop :=
  ∃ A c, e = .returned (.tuple #[.slice A m c, .int .i64 err]) ∧ m ≤ c ∧ c ≤ maxLen ∧ Lst w' (fun g => w.heap.size ≤ g ∧ g < w'.heap.size) A ps ∧ Below w.heap.size w w'
theorem split_n {w : World} {ok : Nat → Prop} {A : Option Addr} {b : List UInt8} {n c : Nat} (hn : b.length = n) (hx : Byt w ok A b) (hok : ∀ g, ok g → g < w.heap.size) (hc : n ≤ c) (hm : c ≤ maxLen) {ps : List (List UInt8)} {m err : Nat} (hs : split b = (ps, err)) (hps : ps.length = m) :
    Calls Try.prog 19 #[.slice A n c] w (SplitN w ps m err) := by
  subst hn
  subst hps
  refine (split_any hx hok hc hm).mono fun e w' h => ?_
  unfold SplitE at h
  rw [hs] at h
  exact h
theorem get_n {w : World} {ok : Nat → Prop} {A : Option Addr} {xs : List UInt8} {n c : Nat} (hx : Byt w ok A xs) (hn : xs.length = n) (hm : n ≤ maxLen) : Calls Try.prog 13 #[.slice A n c] w fun e w' => e = getV xs ∧ w = w' := by
  subst hn; exact get_any hx hm
theorem join_n {w : World} {ok : Nat → Prop} {A : Option Addr} {ps : List (List UInt8)} {m n c : Nat} (hx : Lst w ok A ps) (hok : ∀ b, ok b → b < w.heap.size) (hf : Fit ps) (hm : ps.length = m) (hn : (jn ps).length = n) :
    Calls Try.prog 17 #[.slice A m c] w (YesN w (jn ps) n) := by
  subst hm; exact (join_yes hx hok hf).mono fun _ _ h => h.n hn

def abc : List (List UInt8) := [[97], [], [98, 99]]
theorem cell_marked (w : World) (C : Array Value) (t : TypeId) (f : Nat × Nat) (N i : Nat) (hN : w.heap.size = N) : (w.alloc (.cells C t f)).cell? ⟨N, i, none⟩ = C[i]? := by
  subst hN
  exact cell_of_row _ _ _ _ _ _ (heap_alloc_new w _)
theorem lst_abc_n (w : World) (f1 f2 : Nat × Nat) (N : Nat) (hN : w.heap.size = N) :
    Lst (((w.alloc (.cells #[.int .u8 97] 5 f1)).alloc (.cells #[.int .u8 98, .int .u8 99] 5 f2)).alloc (.cells #[.slice (some ⟨N, 0, none⟩) 1 1, .slice none 0 0, .slice (some ⟨N + 1, 0, none⟩) 2 2] 24))
      (fun b => b < N + 3) (some ⟨N + 2, 0, none⟩) abc := by
  have hN1 : (w.alloc (.cells #[.int .u8 97] 5 f1)).heap.size = N + 1 := by simp [hN]
  have hN2 : ((w.alloc (.cells #[.int .u8 97] 5 f1)).alloc (.cells #[.int .u8 98, .int .u8 99] 5 f2)).heap.size = N + 2 := by simp [hN]
  have c0 := fun i => cell_marked w #[.int .u8 97] 5 f1 N i hN
  have c1 := fun i => cell_marked (w.alloc (.cells #[.int .u8 97] 5 f1)) #[.int .u8 98, .int .u8 99] 5 f2 (N + 1) i hN1
  have c2 := fun i => cell_marked ((w.alloc (.cells #[.int .u8 97] 5 f1)).alloc (.cells #[.int .u8 98, .int .u8 99] 5 f2)) #[.slice (some ⟨N, 0, none⟩) 1 1, .slice none 0 0, .slice (some ⟨N + 1, 0, none⟩) 2 2] 24 (0, 0) (N + 2) i hN2
  intro j hj
  have : j = 0 ∨ j = 1 ∨ j = 2 := by simp [abc] at hj; omega
  rcases this with rfl | rfl | rfl
  · refine ⟨_, some ⟨N, 0, none⟩, 1, rfl, by simp, c2 0, by simp [abc], by unfold maxLen; omega, ?_⟩
    intro i hi
    obtain rfl : i = 0 := by simp [abc] at hi; omega
    refine ⟨_, rfl, by simp, ?_⟩
    rw [Addr.add_lit, World.cell?_alloc_lt _ _ _ (by rw [hN2]; show N < N + 2; omega), World.cell?_alloc_lt _ _ _ (by rw [hN1]; show N < N + 1; omega)]
    exact c0 0
  · exact ⟨_, none, 0, rfl, by simp, c2 1, by simp [abc], by unfold maxLen; omega, fun i hi => absurd hi (by simp [abc])⟩
  · refine ⟨_, some ⟨N + 1, 0, none⟩, 2, rfl, by simp, c2 2, by simp [abc], by unfold maxLen; omega, ?_⟩
    intro i hi
    have : i = 0 ∨ i = 1 := by simp [abc] at hi; omega
    rcases this with rfl | rfl
    · refine ⟨_, rfl, by simp, ?_⟩
      rw [Addr.add_lit, World.cell?_alloc_lt _ _ _ (by rw [hN2]; show N + 1 < N + 2; omega)]
      exact c1 0
    · refine ⟨_, rfl, by simp, ?_⟩
      rw [Addr.add_lit, World.cell?_alloc_lt _ _ _ (by rw [hN2]; show N + 1 < N + 2; omega)]
      exact c1 1
set_option maxRecDepth 100000 in
set_option maxHeartbeats 1000000 in
theorem alive_any (w : World) : Calls Try.prog 9 #[] w fun e w' => e = .returned (.bool true) ∧ Below w.heap.size w w' := by
  go_enter Try.func9, Try.ntmps9
  go_wp2_with fail
  go_at_call 10
  refine (put_yes 258 2 _ (by omega) (by omega) (by omega)).mono ?_
  intro e w1 h1
  obtain ⟨A1, c1, rfl, h11, h12, h13, h14⟩ := h1.n (be_length 2 258)
  have hb2 : Byt (w1.alloc (.cells #[.int .u8 1, .int .u8 2] 5)) (fun _ => True) (some ⟨w1.heap.size, 0, none⟩) [1, 2] := byt_two w1 rfl rfl
  go_wp2_with fail
  go_at_call 13
  refine (get_n (n := 2) hb2 rfl (by unfold maxLen; omega)).mono ?_
  rintro e w2 ⟨he, rfl⟩
  obtain rfl : e = .returned (.tuple #[.int .u64 258, .bool true]) := he
  have hl3 := lst_abc_n (w1.alloc (.cells #[.int .u8 1, .int .u8 2] 5)) (1, 2) (2, 3) (w1.heap.size + 1) (by simp)
  simp only [Nat.add_assoc] at hl3
  have k1 := Lib.run_convert_bytes_const (P := Try.prog) (w1.alloc (.cells #[.int .u8 1, .int .u8 2] 5)) 24 5 #[.int .u8 97] 1 1 Try.underlying24 Try.underlying5
  have k2 := Lib.run_convert_bytes_const (P := Try.prog) ((w1.alloc (.cells #[.int .u8 1, .int .u8 2] 5)).alloc (.cells #[.int .u8 97] 5 (1, 2))) 24 5 #[.int .u8 98, .int .u8 99] 2 2 Try.underlying24 Try.underlying5
  simp at k1 k2
  go_wp2_with fail
  go_at_call 17
  refine (join_n (m := 3) (n := 10) hl3 ?k1 (by decide) rfl rfl).mono ?_
  case k1 => intro b hb; simp; omega
  rintro e w4 ⟨A4, c4, rfl, h41, h42, h43, h44⟩
  have hj4 : jn abc = [3, 0, 1, 97, 0, 0, 0, 2, 98, 99] := by decide
  rw [hj4] at h43
  go_wp2_with fail
  go_at_call 19
  refine (split_n (n := 10) (m := 3) (err := 0) (ps := abc) rfl h43 (fun g hg => hg.2) h41 h42 (by decide) rfl).mono ?_
  rintro e w5 ⟨A5, c5, rfl, h51, h52, h53, h54⟩
  have hb15 : Below w1.heap.size w1 w5 := by
    refine (((((Below.refl w1.heap.size w1).alloc (Nat.le_refl _) _).alloc (by simp) _).alloc (by simp; omega) _).alloc (by simp; omega) _).trans ((h44.mono (by simp; omega)).trans (h54.mono ?_))
    have := h44.size
    simp at this
    omega
  have x1 : Byt w5 (fun b => w.heap.size ≤ b ∧ b < w1.heap.size) A1 (be 2 258) := h13.below hb15 fun b hb => hb.2
  have r1 := x1.str_n (be_length 2 258) c1
  have x4 := h43.below h54 fun b hb => hb.2
  have r4 := x4.str_n (n := 10) rfl c4
  have e1 : be 2 258 = [1, 2] := by decide
  rw [e1] at r1
  have hbe : Below w.heap.size w w5 := h14.trans (hb15.mono h14.size)
  clear x1 x4 h13 h14 h43 h44 h53 h54 hb15 hl3 hj4 e1 hb2 h11 h12 h41 h42 h51 h52 h1
  go_wp2
  go_ret
  exact ⟨rfl, hbe⟩
end Go.Proofs.Ytogikipoedbklaa
