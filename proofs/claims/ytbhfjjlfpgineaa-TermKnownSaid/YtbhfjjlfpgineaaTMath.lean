/- Plain mathematics of names in bytes: which stand in any bytes, from the left; however they are looked for. Conditions: none. -/
import Derived.Test.YtbhfjjlfpgineaaMath
import Derived.Lib.Index
namespace Go.Proofs.Ytbhfjjlfpgineaa

/-- The mark. -/
def mark : List UInt8 := [116, 101, 114, 109]
/-- The name of a number. -/
def nm (n : Nat) : List UInt8 := mark ++ be 4 n ++ List.replicate 24 0
theorem nm_length (n : Nat) : (nm n).length = 32 := by simp [nm, mark, be_length]
theorem mark_length : mark.length = 4 := rfl

/-- The number of the name with which b begins, if it is below that one; else 0. -/
def num (b : List UInt8) (below : Nat) : Nat :=
  if 32 ≤ b.length ∧ b.take 4 = mark ∧ (b.drop 8).take 24 = List.replicate 24 0 ∧ nb ((b.drop 4).take 4) < below then nb ((b.drop 4).take 4) else 0
theorem num_lt (b : List UInt8) (below : Nat) (h : 0 < num b below) : num b below < below := by
  unfold num at h ⊢
  split at h
  · rename_i hc; rw [if_pos hc]; exact hc.2.2.2
  · omega
theorem num_len (b : List UInt8) (below : Nat) (h : 0 < num b below) : 32 ≤ b.length := by
  unfold num at h
  split at h
  · rename_i hc; exact hc.1
  · omega
theorem num_mark (b : List UInt8) (below : Nat) (h : 0 < num b below) : b.take 4 = mark := by
  unfold num at h
  split at h
  · rename_i hc; exact hc.2.1
  · omega

theorem take32 (b : List UInt8) : b.take 32 = b.take 4 ++ (b.drop 4).take 4 ++ (b.drop 8).take 24 := by
  have e1 : b.take 32 = b.take 4 ++ (b.drop 4).take 28 := by
    rw [show (32 : Nat) = 4 + 28 by rfl, List.take_add]
  have e2 : (b.drop 4).take 28 = (b.drop 4).take 4 ++ (b.drop 8).take 24 := by
    rw [show (28 : Nat) = 4 + 24 by rfl, List.take_add, List.drop_drop]
  rw [e1, e2, List.append_assoc]
theorem be_nb : ∀ (k : Nat) (xs : List UInt8), xs.length = k → be k (nb xs) = xs := by
  intro k
  induction k with
  | zero => intro xs h; rw [List.eq_nil_of_length_eq_zero h]; rfl
  | succ k ih =>
    intro xs h
    have hne : xs ≠ [] := by intro e; simp [e] at h
    obtain ⟨ys, y, rfl⟩ : ∃ ys y, xs = ys ++ [y] := ⟨_, _, (List.dropLast_concat_getLast hne).symm⟩
    have hl : ys.length = k := by simpa using h
    have hy := y.toNat_lt
    show be k (nb (ys ++ [y]) / 256) ++ [UInt8.ofNat (nb (ys ++ [y]))] = ys ++ [y]
    rw [nb_snoc, show (nb ys * 256 + y.toNat) / 256 = nb ys by omega, ih ys hl]
    congr 1
    apply List.cons_eq_cons.2
    refine ⟨?_, rfl⟩
    apply UInt8.toNat_inj.1
    rw [u8_ofNat]
    omega
/-- The reference's question, and the code's. -/
theorem num_iff (b : List UInt8) (below n : Nat) (h0 : 0 < n) : num b below = n ↔ 32 ≤ b.length ∧ n < below ∧ nb ((b.drop 4).take 4) = n ∧ b.take 32 = nm n := by
  unfold num
  constructor
  · intro h
    split at h
    · rename_i hc
      refine ⟨hc.1, by rw [← h]; exact hc.2.2.2, h, ?_⟩
      rw [take32 b, hc.2.1, hc.2.2.1]
      unfold nm
      rw [← h, be_nb 4 _ (by simp; omega)]
    · omega
  · rintro ⟨h1, h2, h3, h4⟩
    rw [take32 b] at h4
    have l1 : (b.take 4).length = 4 := by simp; omega
    have l2 : ((b.drop 4).take 4).length = 4 := by simp; omega
    unfold nm at h4
    rw [List.append_assoc, List.append_assoc] at h4
    obtain ⟨g1, g2⟩ := List.append_inj h4 (by rw [l1, mark_length])
    obtain ⟨g3, g4⟩ := List.append_inj g2 (by rw [l2, be_length])
    rw [if_pos ⟨h1, g1, g4, by rw [h3]; exact h2⟩, h3]
theorem num_nm (n below : Nat) (r : List UInt8) (h0 : 0 < n) (hb : n < below) (h32 : n < 4294967296) : num (nm n ++ r) below = n := by
  rw [num_iff _ _ _ h0]
  have hl := nm_length n
  refine ⟨by rw [List.length_append]; omega, hb, ?_, ?_⟩
  · have e : ((nm n ++ r).drop 4).take 4 = be 4 n := by
      unfold nm
      rw [List.append_assoc, List.append_assoc, List.drop_left' mark_length, List.take_append_of_le_length (by rw [be_length]; omega), List.take_of_length_le (by rw [be_length]; omega)]
    rw [e, nb_be]
    exact Nat.mod_eq_of_lt h32
  · rw [List.take_append_of_le_length (by omega), List.take_of_length_le (by omega)]

/-- The number of the first name in b, of those below that one, and what stands behind it; 0, if there is none. -/
def nx : List UInt8 → Nat → Nat × List UInt8
  | [], _ => (0, [])
  | x :: b, below => if 0 < num (x :: b) below then (num (x :: b) below, (x :: b).drop 32) else nx b below
theorem nx_hit (b : List UInt8) (below : Nat) (h : 0 < num b below) : nx b below = (num b below, b.drop 32) := by
  match b with
  | [] => have := num_len _ _ h; simp at this
  | x :: b => rw [nx, if_pos h]
theorem nx_miss (x : UInt8) (b : List UInt8) (below : Nat) (h : num (x :: b) below = 0) : nx (x :: b) below = nx b below := by rw [nx, if_neg (by omega)]
theorem nx_spec : ∀ (b : List UInt8) (below : Nat), (0 < (nx b below).1 ∧ (nx b below).1 < below ∧ (nx b below).2.length + 32 ≤ b.length) ∨ ((nx b below) = (0, []))
  | [], _ => .inr rfl
  | x :: b, below => by
    by_cases h : 0 < num (x :: b) below
    · rw [nx_hit _ _ h]
      have h1 := num_len _ _ h
      exact .inl ⟨h, num_lt _ _ h, by rw [List.length_drop]; omega⟩
    · rw [nx_miss _ _ _ (by omega)]
      rcases nx_spec b below with ⟨h1, h2, h3⟩ | h1
      · exact .inl ⟨h1, h2, by rw [List.length_cons]; omega⟩
      · exact .inr h1
theorem nx_none (b : List UInt8) (below : Nat) (h : (nx b below).1 = 0) : nx b below = (0, []) := by
  rcases nx_spec b below with ⟨h1, _, _⟩ | h1
  · omega
  · exact h1
theorem nx_drop : ∀ (k : Nat) (b : List UInt8) (below : Nat), (∀ j, j < k → num (b.drop j) below = 0) → nx b below = nx (b.drop k) below
  | 0, b, below, _ => by simp
  | k + 1, [], below, _ => by simp
  | k + 1, x :: b, below, h => by
    rw [nx_miss x b below (by simpa using h 0 (by omega))]
    exact nx_drop k b below fun j hj => by simpa using h (j + 1) (by omega)
theorem nx_end (b : List UInt8) (below : Nat) (h : ∀ j, j < b.length → num (b.drop j) below = 0) : nx b below = (0, []) := by
  rw [nx_drop b.length b below h, List.drop_length]; rfl

/-- The numbers of the names that stand in b, of those below that one, from the left. -/
def nms (b : List UInt8) (below : Nat) : List Nat :=
  if _h : 0 < (nx b below).1 then (nx b below).1 :: nms (nx b below).2 below else []
termination_by b.length
decreasing_by
  rcases nx_spec b below with ⟨_, _, h3⟩ | h1
  · omega
  · rw [h1] at _h; simp at _h
theorem nms_more (b : List UInt8) (below : Nat) (h : 0 < (nx b below).1) : nms b below = (nx b below).1 :: nms (nx b below).2 below := by rw [nms, dif_pos h]
theorem nms_none (b : List UInt8) (below : Nat) (h : (nx b below).1 = 0) : nms b below = [] := by rw [nms, dif_neg (by omega)]
theorem nms_hit (b : List UInt8) (below : Nat) (h : 0 < num b below) : nms b below = num b below :: nms (b.drop 32) below := by
  have e := nx_hit b below h
  rw [nms_more b below (by rw [e]; exact h), e]
theorem nms_congr {b c : List UInt8} {below : Nat} (h : nx b below = nx c below) : nms b below = nms c below := by
  by_cases h0 : 0 < (nx b below).1
  · rw [nms_more b below h0, nms_more c below (by rw [← h]; exact h0), h]
  · rw [nms_none b below (by omega), nms_none c below (by rw [← h]; omega)]
theorem nms_miss (x : UInt8) (b : List UInt8) (below : Nat) (h : num (x :: b) below = 0) : nms (x :: b) below = nms b below := nms_congr (nx_miss x b below h)
theorem nms_drop1 (b : List UInt8) (below : Nat) (h : num b below = 0) : nms b below = nms (b.drop 1) below := by
  match b with
  | [] => simp
  | x :: b => simpa using nms_miss x b below h
theorem nms_short (b : List UInt8) (below : Nat) (h : b.length < 32) : nms b below = [] := by
  refine nms_none b below ?_
  rcases nx_spec b below with ⟨_, _, h3⟩ | h1
  · omega
  · rw [h1]
theorem nms_mem (below : Nat) : ∀ (k : Nat) (b : List UInt8), b.length ≤ k → ∀ n ∈ nms b below, 0 < n ∧ n < below := by
  intro k
  induction k with
  | zero => intro b hb n hn; rw [nms_short b below (by omega)] at hn; simp at hn
  | succ k ih =>
    intro b hb n hn
    rcases nx_spec b below with ⟨h1, h2, h3⟩ | h1
    · rw [nms_more b below h1] at hn
      rcases List.mem_cons.1 hn with rfl | hn
      · exact ⟨h1, h2⟩
      · exact ih _ (by omega) n hn
    · rw [nms_none b below (by rw [h1])] at hn; simp at hn
theorem nms_bd {b : List UInt8} {below n : Nat} (h : n ∈ nms b below) : 0 < n ∧ n < below := nms_mem below _ b (Nat.le_refl _) n h
theorem nms_length (below : Nat) : ∀ (k : Nat) (b : List UInt8), b.length ≤ k → 32 * (nms b below).length ≤ b.length := by
  intro k
  induction k with
  | zero => intro b hb; rw [nms_short b below (by omega)]; simp
  | succ k ih =>
    intro b hb
    rcases nx_spec b below with ⟨h1, h2, h3⟩ | h1
    · rw [nms_more b below h1, List.length_cons]
      have := ih (nx b below).2 (by omega)
      omega
    · rw [nms_none b below (by rw [h1])]; simp
theorem nms_nm (n below : Nat) (r : List UInt8) (h0 : 0 < n) (hb : n < below) (h32 : n < 4294967296) : nms (nm n ++ r) below = n :: nms r below := by
  have e := num_nm n below r h0 hb h32
  rw [nms_hit _ _ (by rw [e]; exact h0), e, List.drop_left' (nm_length n)]

/-- No name begins where the mark doesn't. -/
theorem num_unmarked (b : List UInt8) (below : Nat) (h : mark.isPrefixOf b = false) : num b below = 0 := by
  rcases Nat.eq_zero_or_pos (num b below) with h0 | h0
  · exact h0
  · exfalso
    have h1 := num_mark b below h0
    have h2 : mark.isPrefixOf b = true := by
      rw [List.isPrefixOf_iff_prefix, ← h1]
      exact List.take_prefix 4 b
    rw [h] at h2; cases h2
/-- Behind a mark, and ahead of the next three places, none begins. -/
theorem num_inside (b : List UInt8) (below j : Nat) (h : mark.isPrefixOf b = true) (h1 : 1 ≤ j) (h4 : j < 4) : num (b.drop j) below = 0 := by
  apply num_unmarked
  obtain ⟨r, rfl⟩ : ∃ r, b = mark ++ r := by
    obtain ⟨r, hr⟩ := List.isPrefixOf_iff_prefix.1 h
    exact ⟨r, hr.symm⟩
  have : j = 1 ∨ j = 2 ∨ j = 3 := by omega
  rcases this with rfl | rfl | rfl <;> rfl

theorem index_found {s sub : List UInt8} : ∀ (i : Nat), Go.Lib.index s sub = i → i ≤ s.length ∧ Go.Lib.occAt s sub i = true ∧ ∀ j, j < i → Go.Lib.occAt s sub j = false := by
  induction s with
  | nil =>
    intro i h
    unfold Go.Lib.index at h
    split at h
    · rename_i he
      obtain rfl : i = 0 := by omega
      exact ⟨Nat.le_refl _, by cases sub <;> simp_all [Go.Lib.occAt], fun j hj => absurd hj (by omega)⟩
    · omega
  | cons x s ih =>
    intro i h
    unfold Go.Lib.index at h
    split at h
    · rename_i hp
      obtain rfl : i = 0 := by omega
      exact ⟨Nat.zero_le _, by simpa [Go.Lib.occAt] using hp, fun j hj => absurd hj (by omega)⟩
    · rename_i hp
      split at h
      · omega
      · rename_i hn
        have hge := Go.Lib.index_ge s sub
        have hn' : Go.Lib.index s sub ≠ -1 := by simpa using hn
        obtain ⟨k, rfl⟩ : ∃ k, i = k + 1 := ⟨i - 1, by omega⟩
        obtain ⟨h1, h2, h3⟩ := ih k (by omega)
        refine ⟨by simpa using h1, by simpa [Go.Lib.occAt] using h2, fun j hj => ?_⟩
        cases j with
        | zero => exact Bool.eq_false_iff.2 hp
        | succ j => simpa [Go.Lib.occAt] using h3 j (by omega)
theorem index_none {s sub : List UInt8} (h : Go.Lib.index s sub < 0) : ∀ j, j ≤ s.length → Go.Lib.occAt s sub j = false := by
  induction s with
  | nil =>
    intro j hj
    obtain rfl : j = 0 := by simpa using hj
    unfold Go.Lib.index at h
    split at h
    · omega
    · rename_i he
      cases sub with
      | nil => simp at he
      | cons a t => simp [Go.Lib.occAt]
  | cons x s ih =>
    intro j hj
    unfold Go.Lib.index at h
    split at h
    · omega
    · rename_i hp
      cases j with
      | zero => exact Bool.eq_false_iff.2 hp
      | succ j =>
        have hn : Go.Lib.index s sub < 0 := by
          split at h
          · rename_i hn
            have : Go.Lib.index s sub = -1 := by simpa using hn
            omega
          · have := Go.Lib.index_ge s sub
            omega
        simpa [Go.Lib.occAt] using ih hn j (by simpa using hj)
/-- The code's way: to the next mark. -/
theorem nx_found (b : List UInt8) (below i : Nat) (h : Go.Lib.index b mark = i) : i ≤ b.length ∧ 4 ≤ (b.drop i).length ∧ mark.isPrefixOf (b.drop i) = true ∧ nx b below = nx (b.drop i) below := by
  obtain ⟨h1, h2, h3⟩ := index_found i h
  refine ⟨h1, ?_, h2, nx_drop i b below fun j hj => num_unmarked _ _ (h3 j hj)⟩
  have hp := (List.isPrefixOf_iff_prefix.1 h2).length_le
  exact hp
theorem nx_lost (b : List UInt8) (below : Nat) (h : Go.Lib.index b mark < 0) : nx b below = (0, []) :=
  nx_end b below fun j hj => num_unmarked _ _ (index_none h j (by omega))
theorem nx_over (b : List UInt8) (below : Nat) (h : mark.isPrefixOf b = true) (h0 : num b below = 0) : nx b below = nx (b.drop 4) below := by
  refine nx_drop 4 b below fun j hj => ?_
  by_cases e : j = 0
  · subst e; simpa using h0
  · exact num_inside b below j h (by omega) hj
end Go.Proofs.Ytbhfjjlfpgineaa
