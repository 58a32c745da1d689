/- The plain mathematics of the document's example. Conditions: none. -/
import Derived.Test.YtbhfjjlfpgineaaKEnd
import Derived.Test.YtbhfjjlfpgineaaMak3
namespace Go.Proofs.Ytbhfjjlfpgineaa

/-- The example's terms. -/
def exT : List Trm := [(1, [[110]]), (1, [[109]]), (2, [nm 1]), (3, [nm 1, nm 2]), (7, [nm 4]), (8, [nm 5, 120 :: nm 2])]
theorem nms_is (n N : Nat) (h1 : 0 < n) (h2 : n < N) (h3 : n < 4294967296) : nms (nm n) N = [n] := by
  have := nms_nm n N [] h1 h2 h3
  rw [List.append_nil] at this
  rw [this, nms_short [] N (by simp)]
theorem nms_x (n N : Nat) (h1 : 0 < n) (h2 : n < N) (h3 : n < 4294967296) : nms (120 :: nm n) N = [n] := by
  have h0 : num (120 :: nm n) N = 0 := num_unmarked _ _ rfl
  rw [nms_miss _ _ _ h0, nms_is n N h1 h2 h3]
theorem fit_one {a : List UInt8} (h : a.length ≤ 4096) : Fit [a] := ⟨by simp, by simpa using h⟩
theorem fit_two {a b : List UInt8} (h : a.length ≤ 4096) (h2 : b.length ≤ 4096) : Fit [a, b] := ⟨by simp, by simpa using ⟨h, h2⟩⟩
theorem nm_le (n : Nat) : (nm n).length ≤ 4096 := by rw [nm_length]; omega
theorem ex1 : mk [] (1 : Nat) [[110]] = (1, exT.take 1) := mk_new (T := []) ⟨by decide, by decide, fit_one (by decide)⟩ (by simp) (by decide)
theorem ex2 : mk (exT.take 1) (1 : Nat) [[109]] = (2, exT.take 2) := mk_new (T := exT.take 1) ⟨by decide, by decide, fit_one (by decide)⟩ (by decide) (by decide)
theorem ex3 : mk (exT.take 2) (2 : Nat) [nm 1] = (3, exT.take 3) := mk_new (T := exT.take 2) ⟨by decide, by decide, fit_one (nm_le 1)⟩ (by decide) (by decide)
theorem ex4 : mk (exT.take 3) (3 : Nat) [nm 1, nm 2] = (4, exT.take 4) := mk_new (T := exT.take 3) ⟨by decide, by decide, fit_two (nm_le 1) (nm_le 2)⟩ (by decide) (by decide)
theorem ex5 : mk (exT.take 4) (7 : Nat) [nm 4] = (5, exT.take 5) := mk_new (T := exT.take 4) ⟨by decide, by decide, fit_one (nm_le 4)⟩ (by decide) (by decide)
theorem ex6 : mk (exT.take 5) (8 : Nat) [nm 5, 120 :: nm 2] = (6, exT) := mk_new (T := exT.take 5) ⟨by decide, by decide, fit_two (nm_le 5) (by simp [nm_length])⟩ (by decide) (by decide)
/-- What is known in the example at most. -/
theorem ex_least {seen : List (List UInt8)} {K : Nat → Prop} (h1 : ∀ s ∈ seen, ∀ n ∈ nms s 7, K n) (n1 : ¬ K 1) (k1 : K 6 → K 5 → K 2) (k2 : K 2 → K 4) (k3 : K 4 → K 5) (k4 : K 5 → K 2 → K 6) {b : Bool} {n : Nat} (h : Kno exT seen b n) : K n := by
  refine kno_least (K := K) h1 (fun m n hm h8 _ hk hn => ?_) (fun n a b c hp => ?_) (fun n i a b c hi hp => ?_) h
  · have hm6 : m = 6 := by
      rcases Nat.lt_or_ge 6 m with h6 | h6
      · rw [kd_out (T := exT) h6] at h8; cases h8
      · rcases (by omega : m = 0 ∨ m = 1 ∨ m = 2 ∨ m = 3 ∨ m = 4 ∨ m = 5 ∨ m = 6) with rfl | rfl | rfl | rfl | rfl | rfl | rfl <;> first | rfl | exact absurd h8 (by decide)
    subst hm6
    have e1 : nms (pt exT 6 0) 6 = [5] := nms_is 5 6 (by omega) (by omega) (by omega)
    have e2 : nms (pt exT 6 1) 6 = [2] := nms_x 2 6 (by omega) (by omega) (by omega)
    rw [e1] at hk
    rw [e2] at hn
    obtain rfl : n = 2 := by simpa using hn
    exact k1 hm (hk 5 (by simp))
  · have b' : n ≤ 6 := b
    rcases (by omega : n = 1 ∨ n = 2 ∨ n = 3 ∨ n = 4 ∨ n = 5 ∨ n = 6) with rfl | rfl | rfl | rfl | rfl | rfl
    · exact absurd c (by decide)
    · exact absurd c (by decide)
    · exact absurd (hp 0 (by decide) 1 (by rw [show pt exT 3 0 = nm 1 from rfl, nms_is 1 3 (by omega) (by omega) (by omega)]; simp)) n1
    · exact absurd (hp 0 (by decide) 1 (by rw [show pt exT 4 0 = nm 1 from rfl, nms_is 1 4 (by omega) (by omega) (by omega)]; simp)) n1
    · exact k3 (hp 0 (by decide) 4 (by rw [show pt exT 5 0 = nm 4 from rfl, nms_is 4 5 (by omega) (by omega) (by omega)]; simp))
    · exact k4 (hp 0 (by decide) 5 (by rw [show pt exT 6 0 = nm 5 from rfl, nms_is 5 6 (by omega) (by omega) (by omega)]; simp)) (hp 1 (by decide) 2 (by rw [show pt exT 6 1 = 120 :: nm 2 from rfl, nms_x 2 6 (by omega) (by omega) (by omega)]; simp))
  · have b' : n ≤ 6 := b
    rcases (by omega : n = 1 ∨ n = 2 ∨ n = 3 ∨ n = 4 ∨ n = 5 ∨ n = 6) with rfl | rfl | rfl | rfl | rfl | rfl
    · exact absurd c (by decide)
    · exact absurd c (by decide)
    · exact absurd c (by decide)
    · have hi2 : i < 2 := hi
      rcases (by omega : i = 0 ∨ i = 1) with rfl | rfl
      · exact absurd (hp 1 (by rw [show pt exT 4 0 = nm 1 from rfl, nms_is 1 4 (by omega) (by omega) (by omega)]; simp)) n1
      · exact k2 (hp 2 (by rw [show pt exT 4 1 = nm 2 from rfl, nms_is 2 4 (by omega) (by omega) (by omega)]; simp))
    · exact absurd c (by decide)
    · exact absurd c (by decide)
theorem seen_is {seen : List (List UInt8)} {n : Nat} (h : nm n ∈ seen) (h1 : 0 < n) (h2 : n < 7) : Kno exT seen true n := .seen h (by rw [show exT.length + 1 = 7 from rfl, nms_is n 7 h1 h2 (by omega)]; simp)
theorem ex_shared {seen : List (List UInt8)} (h : Kno exT seen false 2) : Kno exT seen false 4 := .shared (i := 1) (by omega) (by decide) rfl (by decide) fun k hk => by
  rw [show pt exT 4 1 = nm 2 from rfl, nms_is 2 4 (by omega) (by omega) (by omega)] at hk
  obtain rfl : k = 2 := by simpa using hk
  exact h
theorem ex_mixed {seen : List (List UInt8)} (h : Kno exT seen false 4) : Kno exT seen false 5 := .made (by omega) (by decide) (by decide) fun i hi k hk => by
  have hi1 : i < 1 := hi
  obtain rfl : i = 0 := by omega
  rw [show pt exT 5 0 = nm 4 from rfl, nms_is 4 5 (by omega) (by omega) (by omega)] at hk
  obtain rfl : k = 4 := by simpa using hk
  exact h
theorem ex_open {seen : List (List UInt8)} (h : Kno exT seen true 6) (h5 : Kno exT seen false 5) : Kno exT seen false 2 := .told (.opened h rfl (by decide) (fun k hk => by
  rw [show pt exT 6 0 = nm 5 from rfl, nms_is 5 6 (by omega) (by omega) (by omega)] at hk
  obtain rfl : k = 5 := by simpa using hk
  exact h5) (by rw [show pt exT 6 1 = 120 :: nm 2 from rfl, nms_x 2 6 (by omega) (by omega) (by omega)]; simp))
/-- The document's example: what is known, and what isn't. -/
theorem ex_one : Kno exT [nm 3, nm 6] false 3 ∧ ¬ Kno exT [nm 3, nm 6] false 1 ∧ ¬ Kno exT [nm 3, nm 6] false 5 := by
  have hl : ∀ n, Kno exT [nm 3, nm 6] false n → n = 3 ∨ n = 6 := fun n h => ex_least (K := fun n => n = 3 ∨ n = 6) (fun s hs n hn => by
    simp only [List.mem_cons, List.not_mem_nil, or_false] at hs
    rcases hs with rfl | rfl
    · rw [nms_is 3 7 (by omega) (by omega) (by omega)] at hn
      exact .inl (by simpa using hn)
    · rw [nms_is 6 7 (by omega) (by omega) (by omega)] at hn
      exact .inr (by simpa using hn)) (by omega) (by omega) (by omega) (by omega) (by omega) h
  exact ⟨.told (seen_is (by simp) (by omega) (by omega)), fun h => by have := hl _ h; omega, fun h => by have := hl _ h; omega⟩
theorem ex_two : Kno exT [nm 3, nm 6, nm 2] false 5 ∧ ¬ Kno exT [nm 3, nm 6, nm 2] false 1 := by
  have hl : ∀ n, Kno exT [nm 3, nm 6, nm 2] false n → 2 ≤ n := fun n h => ex_least (K := fun n => 2 ≤ n) (fun s hs n hn => by
    simp only [List.mem_cons, List.not_mem_nil, or_false] at hs
    rcases hs with rfl | rfl | rfl
    · rw [nms_is 3 7 (by omega) (by omega) (by omega)] at hn
      obtain rfl : n = 3 := by simpa using hn
      omega
    · rw [nms_is 6 7 (by omega) (by omega) (by omega)] at hn
      obtain rfl : n = 6 := by simpa using hn
      omega
    · rw [nms_is 2 7 (by omega) (by omega) (by omega)] at hn
      obtain rfl : n = 2 := by simpa using hn
      omega) (by omega) (by omega) (by omega) (by omega) (by omega) h
  exact ⟨ex_mixed (ex_shared (.told (seen_is (by simp) (by omega) (by omega)))), fun h => by have := hl _ h; omega⟩
theorem ex_three : Kno exT [nm 6, nm 5] false 2 ∧ Kno exT [nm 6, nm 5] false 4 ∧ ¬ Kno exT [nm 6, nm 5] false 1 := by
  have hl : ∀ n, Kno exT [nm 6, nm 5] false n → 2 ≤ n := fun n h => ex_least (K := fun n => 2 ≤ n) (fun s hs n hn => by
    simp only [List.mem_cons, List.not_mem_nil, or_false] at hs
    rcases hs with rfl | rfl
    · rw [nms_is 6 7 (by omega) (by omega) (by omega)] at hn
      obtain rfl : n = 6 := by simpa using hn
      omega
    · rw [nms_is 5 7 (by omega) (by omega) (by omega)] at hn
      obtain rfl : n = 5 := by simpa using hn
      omega) (by omega) (by omega) (by omega) (by omega) (by omega) h
  have h2 : Kno exT [nm 6, nm 5] false 2 := ex_open (seen_is (by simp) (by omega) (by omega)) (.told (seen_is (by simp) (by omega) (by omega)))
  exact ⟨h2, ex_shared h2, fun h => by have := hl _ h; omega⟩
end Go.Proofs.Ytbhfjjlfpgineaa
