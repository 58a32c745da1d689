/- The free suite in plain mathematics: what a name is of, what is sealed and opened by a table. Conditions: none. -/
import Derived.Test.YtkbffponemihoaaGreatDoorTf
namespace Go.Proofs.YtkbffponemihoaaGreatDoor.T
theorem u8_ofNat' (n : Nat) : (UInt8.ofNat n).toNat = n % 256 := by simp [UInt8.toNat_ofNat']
theorem nb_be : ∀ k n, nb (be k n) = n % 256 ^ k
  | 0, n => by simp [be, nb, Nat.mod_one]
  | k + 1, n => by
    rw [be, nb_snoc, nb_be k, u8_ofNat', Nat.pow_succ, Nat.mul_comm (256 ^ k) 256, Nat.mod_mul]
    omega
theorem be_nb (k : Nat) : ∀ xs : List UInt8, xs.length = k → be k (nb xs) = xs := by
  induction k with
  | zero => intro xs h; rw [List.eq_nil_of_length_eq_zero h]; rfl
  | succ k ih =>
    intro xs h
    have hne : xs ≠ [] := by intro e; simp [e] at h
    obtain ⟨ys, y, rfl⟩ : ∃ ys y, xs = ys ++ [y] := ⟨_, _, (List.dropLast_concat_getLast hne).symm⟩
    have hl : ys.length = k := by simpa using h
    have hy := y.toNat_lt
    show be k (nb (ys ++ [y]) / 256) ++ [UInt8.ofNat (nb (ys ++ [y]))] = ys ++ [y]
    rw [nb_snoc, show (nb ys * 256 + y.toNat) / 256 = nb ys by omega, ih ys hl]
    congr 1
    apply List.cons_eq_cons.2
    refine ⟨?_, rfl⟩
    apply UInt8.toNat_inj.1
    rw [u8_ofNat']
    omega
theorem mark_length : mark.length = 4 := rfl
theorem take32 (b : List UInt8) : b.take 32 = b.take 4 ++ (b.drop 4).take 4 ++ (b.drop 8).take 24 := by
  have h1 : b.take 32 = b.take 4 ++ (b.drop 4).take 28 := by rw [show 32 = 4 + 28 from rfl, List.take_add]
  have h2 : (b.drop 4).take 28 = (b.drop 4).take 4 ++ ((b.drop 4).drop 4).take 24 := by rw [show 28 = 4 + 24 from rfl, List.take_add]
  rw [h1, h2, List.drop_drop, List.append_assoc]
/-- The reference's question, and the code's. -/
theorem num_iff (b : List UInt8) (below n : Nat) (h0 : 0 < n) : num b below = n ↔ 32 ≤ b.length ∧ n < below ∧ nb ((b.drop 4).take 4) = n ∧ b.take 32 = nm n := by
  unfold num
  constructor
  · intro h
    split at h
    · rename_i hc
      refine ⟨hc.1, by rw [← h]; exact hc.2.2.2, h, ?_⟩
      rw [take32 b, hc.2.1, hc.2.2.1]
      unfold nm
      rw [← h, be_nb 4 _ (by simp; omega)]
    · omega
  · rintro ⟨h1, h2, h3, h4⟩
    rw [take32 b] at h4
    have l1 : (b.take 4).length = 4 := by simp; omega
    have l2 : ((b.drop 4).take 4).length = 4 := by simp; omega
    unfold nm at h4
    rw [List.append_assoc, List.append_assoc] at h4
    obtain ⟨g1, g2⟩ := List.append_inj h4 (by rw [l1, mark_length])
    obtain ⟨g3, g4⟩ := List.append_inj g2 (by rw [l2, be_length])
    rw [if_pos ⟨h1, g1, g4, by rw [h3]; exact h2⟩, h3]
theorem num_nm (n below : Nat) (h0 : 0 < n) (hb : n < below) (h32 : n < 4294967296) : num (nm n) below = n := by
  rw [num_iff _ _ _ h0]
  have hl := nm_length n
  refine ⟨by omega, hb, ?_, ?_⟩
  · have e : ((nm n).drop 4).take 4 = be 4 n := by
      unfold nm
      rw [List.append_assoc, List.drop_left' mark_length, List.take_append_of_le_length (by rw [be_length]; omega), List.take_of_length_le (by rw [be_length]; omega)]
    rw [e, nb_be]
    exact Nat.mod_eq_of_lt h32
  · rw [List.take_of_length_le (by omega)]
/-- The parts of the term of number n, if it is sealed of two parts. -/
def fnd (T : List Trm) (n : Nat) : Option (List (List UInt8)) :=
  if 0 < n then
    match T[n - 1]? with
    | some x => if x.1 = 8 ∧ x.2.length = 2 then some x.2 else none
    | none => none
  else none
def found (T : List Trm) (ks : List UInt8) : Option (List (List UInt8)) := fnd T (num ks (T.length + 1))
theorem found_zero {T : List Trm} {ks : List UInt8} (h : num ks (T.length + 1) = 0) : found T ks = none := by
  unfold found fnd
  rw [h, if_neg (by omega)]
theorem found_no {T : List Trm} {ks : List UInt8} {n : Nat} (hn : num ks (T.length + 1) = n) (hj : n - 1 < T.length) (hx : ¬ (T[n - 1].1 = 8 ∧ T[n - 1].2.length = 2)) : found T ks = none := by
  unfold found fnd
  rw [hn]
  by_cases h : 0 < n
  · rw [if_pos h, List.getElem?_eq_getElem hj]
    show (if T[n - 1].1 = 8 ∧ T[n - 1].2.length = 2 then _ else _) = _
    rw [if_neg hx]
  · rw [if_neg h]
theorem found_yes {T : List Trm} {ks : List UInt8} {n : Nat} (hn : num ks (T.length + 1) = n) (h0 : 0 < n) (hj : n - 1 < T.length) (h8 : T[n - 1].1 = 8) (h2 : T[n - 1].2.length = 2) : found T ks = some T[n - 1].2 := by
  unfold found fnd
  rw [hn, if_pos h0, List.getElem?_eq_getElem hj]
  show (if T[n - 1].1 = 8 ∧ T[n - 1].2.length = 2 then _ else _) = _
  rw [if_pos ⟨h8, h2⟩]
/-- A name, and bytes 0 up to that length. -/
def pad (k : List UInt8) (n : Nat) : List UInt8 := k ++ List.replicate (n - 32) 0
theorem pad_length {k : List UInt8} (hl : k.length = 32) {n : Nat} (h : 32 ≤ n) : (pad k n).length = n := by
  rw [pad, List.length_append, List.length_replicate]
  omega
theorem pad_take {k : List UInt8} (hl : k.length = 32) (n : Nat) : (pad k n).take 32 = k := by unfold pad; rw [← hl, List.take_left]
/-- How many bytes Seal makes of a text of n. -/
def sizeL (n : Nat) : Nat := (n / 16 + 2) * 16
/-- What is opened by the table. -/
def uncov (T : List Trm) (ks b : List UInt8) : Option (List UInt8) :=
  if 32 ≤ b.length then
    match found T (b.take 32) with
    | some [a, s] => if a = ks ∧ s.length ≤ 1024 ∧ b.length = sizeL s.length ∧ b = pad (b.take 32) b.length then some s else none
    | _ => none
  else none
theorem uncov_short {T : List Trm} {ks b : List UInt8} (h : b.length < 32) : uncov T ks b = none := by
  unfold uncov
  rw [if_neg (by omega)]
theorem uncov_none {T : List Trm} {ks b : List UInt8} (h : found T (b.take 32) = none) : uncov T ks b = none := by
  unfold uncov
  rw [h]
  split <;> rfl
theorem uncov_two {T : List Trm} {ks b a s : List UInt8} (hb : 32 ≤ b.length) (h : found T (b.take 32) = some [a, s]) : uncov T ks b = if a = ks ∧ s.length ≤ 1024 ∧ b.length = sizeL s.length ∧ b = pad (b.take 32) b.length then some s else none := by
  unfold uncov
  rw [h, if_pos hb]
/-- What the code makes of a text. -/
def cov (T : List Trm) (ks plain : List UInt8) : List UInt8 := pad (nm (mk T 8 [ks, plain]).1) (sizeL plain.length)
theorem good_two {ks plain : List UInt8} (hk : ks.length = 32) (hp : plain.length ≤ 1024) : Good (8, [ks, plain]) := by
  refine ⟨by show 1 ≤ 8; omega, by show 8 ≤ 8; omega, by show [ks, plain].length ≤ 64; simp, ?_⟩
  intro p hp'
  rcases List.mem_cons.1 hp' with rfl | h
  · omega
  · rw [List.mem_singleton.1 h]; omega
theorem found_mk {T : List Trm} {ks plain : List UInt8} (hg : Good (8, [ks, plain])) (hT : T.length ≤ 65535) (h : 0 < (mk T 8 [ks, plain]).1) : found (mk T 8 [ks, plain]).2 (nm (mk T 8 [ks, plain]).1) = some [ks, plain] := by
  by_cases hm : ((8, [ks, plain]) : Trm) ∈ T
  · rw [show mk T 8 [ks, plain] = _ from mk_old hg hm]
    have hlt := List.idxOf_lt_length_of_mem hm
    have he : T[T.idxOf (8, [ks, plain])] = (8, [ks, plain]) := List.getElem_idxOf hlt
    have hn := num_nm (T.idxOf (8, [ks, plain]) + 1) (T.length + 1) (by omega) (by omega) (by omega)
    have := found_yes hn (by omega) (by simpa using hlt) (by simp only [Nat.add_sub_cancel]; rw [he]) (by simp only [Nat.add_sub_cancel]; rw [he]; rfl)
    simp only [Nat.add_sub_cancel] at this
    rw [this, he]
  · by_cases hl : 65535 ≤ T.length
    · rw [show mk T 8 [ks, plain] = _ from mk_full hg hm hl] at h
      exact absurd h (by simp)
    · rw [show mk T 8 [ks, plain] = _ from mk_new hg hm (by omega)]
      have hn := num_nm (T.length + 1) ((T ++ [(8, [ks, plain])]).length + 1) (by omega) (by simp) (by omega)
      have he : (T ++ [((8, [ks, plain]) : Trm)])[T.length + 1 - 1]'(by simp) = (8, [ks, plain]) := by simp
      have := found_yes hn (by omega) (by simp) (by rw [he]) (by rw [he]; rfl)
      rw [this, he]
theorem uncov_cov {T : List Trm} {ks plain : List UInt8} (hk : ks.length = 32) (hp : plain.length ≤ 1024) (hT : T.length ≤ 65535) (h : 0 < (mk T 8 [ks, plain]).1) : uncov (mk T 8 [ks, plain]).2 ks (cov T ks plain) = some plain := by
  have hn := nm_length (mk T 8 [ks, plain]).1
  have h32 : 32 ≤ sizeL plain.length := by unfold sizeL; omega
  have hl : (cov T ks plain).length = sizeL plain.length := pad_length hn h32
  have ht : (cov T ks plain).take 32 = nm (mk T 8 [ks, plain]).1 := pad_take hn _
  have hf := found_mk (good_two hk hp) hT h
  rw [uncov_two (by omega) (by rw [ht]; exact hf), if_pos ⟨rfl, hp, hl, by rw [ht, hl]; rfl⟩]
theorem mk_at {T : List Trm} {x : Trm} (hg : Good x) (hd : T.Nodup) {j : Nat} (hj : j < T.length) (he : T[j] = x) : mk T x.1 x.2 = (j + 1, T) := by
  obtain ⟨k, ps⟩ := x
  have hm : (k, ps) ∈ T := by rw [← he]; exact List.getElem_mem hj
  rw [show mk T ((k, ps) : Trm).1 ((k, ps) : Trm).2 = _ from mk_old hg hm]
  have := hd.idxOf_getElem j hj
  rw [he] at this
  rw [this]
theorem cov_uncov {T : List Trm} {ks b s : List UInt8} (hk : ks.length = 32) (hd : T.Nodup) (h : uncov T ks b = some s) : s.length ≤ 1024 ∧ (∃ n, 0 < n ∧ mk T 8 [ks, s] = (n, T)) ∧ cov T ks s = b := by
  by_cases hb : 32 ≤ b.length
  · cases hf : found T (b.take 32) with
    | none => rw [uncov_none hf] at h; cases h
    | some ps =>
      have hfu := hf
      unfold found fnd at hf
      by_cases h0 : 0 < num (b.take 32) (T.length + 1)
      · have hlt := num_lt _ _ h0
        rw [if_pos h0, List.getElem?_eq_getElem (by omega)] at hf
        have hf' : (if T[num (b.take 32) (T.length + 1) - 1].1 = 8 ∧ T[num (b.take 32) (T.length + 1) - 1].2.length = 2 then some T[num (b.take 32) (T.length + 1) - 1].2 else none) = some ps := hf
        by_cases hc : T[num (b.take 32) (T.length + 1) - 1].1 = 8 ∧ T[num (b.take 32) (T.length + 1) - 1].2.length = 2
        · rw [if_pos hc] at hf'
          obtain rfl := Option.some.inj hf'
          obtain ⟨a, s', hps⟩ : ∃ a s', T[num (b.take 32) (T.length + 1) - 1].2 = [a, s'] := by
            match hq : T[num (b.take 32) (T.length + 1) - 1].2, hc.2 with
            | [a, s'], _ => exact ⟨a, s', rfl⟩
          rw [hps] at hfu
          rw [uncov_two hb hfu] at h
          by_cases hi : a = ks ∧ s'.length ≤ 1024 ∧ b.length = sizeL s'.length ∧ b = pad (b.take 32) b.length
          · rw [if_pos hi] at h
            obtain rfl := Option.some.inj h
            obtain ⟨rfl, h1, h2, h3⟩ := hi
            have hx : T[num (b.take 32) (T.length + 1) - 1] = (8, [a, s']) := Prod.ext hc.1 hps
            have hmk : mk T 8 [a, s'] = (num (b.take 32) (T.length + 1) - 1 + 1, T) := mk_at (x := (8, [a, s'])) (good_two hk h1) hd (by omega) hx
            have hnm := ((num_iff (b.take 32) (T.length + 1) _ h0).1 rfl).2.2.2
            rw [List.take_take] at hnm
            refine ⟨h1, ⟨_, by omega, hmk⟩, ?_⟩
            unfold cov
            rw [hmk, ← h2]
            refine Eq.trans ?_ h3.symm
            show pad (nm (num (b.take 32) (T.length + 1) - 1 + 1)) b.length = _
            rw [Nat.sub_add_cancel h0, ← hnm]
            rfl
          · rw [if_neg hi] at h
            cases h
        · rw [if_neg hc] at hf'
          cases hf'
      · rw [if_neg h0] at hf
        cases hf
  · rw [uncov_short (by omega)] at h
    cases h
end Go.Proofs.YtkbffponemihoaaGreatDoor.T
