/- Plain mathematics of numbers as bytes and of joined texts: what is joined is split into the same pieces, and what is cut off or put behind is not. Conditions: none. -/
import Derived.Test.YtonpcenjipigpaaGreatZ2
import Derived.Test.YtonpcenjipigpaaGreatZ1
namespace Go.Proofs.YtonpcenjipigpaaGreat
/-- A number as k bytes, the greatest first. -/
def be : Nat → Nat → List UInt8
  | 0, _ => []
  | k + 1, n => be k (n / 256) ++ [UInt8.ofNat n]
theorem be_length : ∀ k n, (be k n).length = k
  | 0, _ => rfl
  | k + 1, n => by simp [be, be_length k]
/-- The number that bytes say. -/
def nb (xs : List UInt8) : Nat := xs.foldl (fun a x => a * 256 + x.toNat) 0
theorem nb_nil : nb [] = 0 := rfl
theorem nb_snoc (xs : List UInt8) (x : UInt8) : nb (xs ++ [x]) = nb xs * 256 + x.toNat := by simp [nb, List.foldl_append]
theorem nb_take (xs : List UInt8) (k : Nat) (h : k < xs.length) : nb (xs.take (k + 1)) = nb (xs.take k) * 256 + xs[k].toNat := by
  rw [List.take_succ_eq_append_getElem h, nb_snoc]
theorem nb_lt : ∀ (k : Nat) (xs : List UInt8), xs.length = k → nb xs < 256 ^ k := by
  intro k
  induction k with
  | zero => intro xs h; rw [List.eq_nil_of_length_eq_zero h]; simp [nb]
  | succ k ih =>
    intro xs h
    have hne : xs ≠ [] := by intro e; simp [e] at h
    obtain ⟨ys, y, rfl⟩ : ∃ ys y, xs = ys ++ [y] := ⟨_, _, (List.dropLast_concat_getLast hne).symm⟩
    rw [nb_snoc, Nat.pow_succ]
    have := ih ys (by simpa using h)
    have h2 := y.toNat_lt
    omega
theorem u8_ofNat (n : Nat) : (UInt8.ofNat n).toNat = n % 256 := by simp
theorem u8_back (x : UInt8) : UInt8.ofNat x.toNat = x := by simp
theorem nb_be : ∀ k n, nb (be k n) = n % 256 ^ k
  | 0, n => by simp [be, nb, Nat.mod_one]
  | k + 1, n => by
    rw [be, nb_snoc, nb_be k, u8_ofNat, Nat.pow_succ, Nat.mul_comm (256 ^ k) 256, Nat.mod_mul]
    omega
theorem be_get : ∀ k n i, (h : i < k) → (be k n)[i]'(by rw [be_length]; exact h) = UInt8.ofNat (n / 256 ^ (k - 1 - i))
  | 0, _, _, h => absurd h (by omega)
  | k + 1, n, i, h => by
    by_cases e : i = k
    · subst e
      have : (be (i + 1) n)[i]'(by rw [be_length]; exact h) = (be i (n / 256) ++ [UInt8.ofNat n])[i]'(by simp [be_length]) := rfl
      rw [this, List.getElem_append_right (by rw [be_length]; exact Nat.le_refl _)]
      simp [be_length]
    · have hk : i < k := by omega
      have : (be (k + 1) n)[i]'(by rw [be_length]; exact h) = (be k (n / 256) ++ [UInt8.ofNat n])[i]'(by simp [be_length]; omega) := rfl
      rw [this, List.getElem_append_left (by rw [be_length]; exact hk), be_get k (n / 256) i hk, Nat.div_div_eq_div_mul, show k + 1 - 1 - i = (k - 1 - i) + 1 by omega, Nat.pow_succ, Nat.mul_comm 256]
/-- A piece with its length ahead. -/
def enc (p : List UInt8) : List UInt8 := UInt8.ofNat (p.length / 256) :: UInt8.ofNat p.length :: p
theorem enc_length (p : List UInt8) : (enc p).length = p.length + 2 := rfl
/-- The joined text of a list. -/
def jn (ps : List (List UInt8)) : List UInt8 := UInt8.ofNat ps.length :: ps.flatMap enc
/-- A list that may be joined. -/
def oFit (ps : List (List UInt8)) : Prop := ps.length ≤ 64 ∧ ∀ p ∈ ps, p.length ≤ 4096
instance (ps : List (List UInt8)) : Decidable (oFit ps) := by unfold oFit; exact inferInstance
theorem flat_length : ∀ ps : List (List UInt8), (∀ p ∈ ps, p.length ≤ 4096) → (ps.flatMap enc).length ≤ 4098 * ps.length
  | [], _ => by simp
  | p :: ps, h => by
    have h1 := flat_length ps fun q hq => h q (by simp [hq])
    have h2 := h p (by simp)
    simp only [List.flatMap_cons, List.length_append, enc_length, List.length_cons]
    omega
theorem jn_length (ps : List (List UInt8)) (h : oFit ps) : (jn ps).length ≤ 262273 := by
  have := flat_length ps h.2
  have := h.1
  simp only [jn, List.length_cons]
  omega
/-- So many pieces are to come out of these bytes, these came: all the pieces and 0, or an error's number. -/
def spl : Nat → List UInt8 → List (List UInt8) → List (List UInt8) × Nat
  | 0, b, acc => if b = [] then (acc, 0) else ([], 21)
  | k + 1, x :: y :: b, acc => if 4096 < x.toNat * 256 + y.toNat then ([], 5) else if b.length < x.toNat * 256 + y.toNat then ([], 20) else spl k (b.drop (x.toNat * 256 + y.toNat)) (acc ++ [b.take (x.toNat * 256 + y.toNat)])
  | _ + 1, _, _ => ([], 20)
/-- What bytes say as pieces. -/
def split : List UInt8 → List (List UInt8) × Nat
  | [] => ([], 20)
  | x :: b => if 64 < x.toNat then ([], 4) else spl x.toNat b []
theorem enc_num (n : Nat) (h : n ≤ 4096) : (UInt8.ofNat (n / 256)).toNat * 256 + (UInt8.ofNat n).toNat = n := by
  rw [u8_ofNat, u8_ofNat]; omega
theorem spl_zero (b : List UInt8) (acc : List (List UInt8)) : spl 0 b acc = if b = [] then (acc, 0) else ([], 21) := by simp [spl]
theorem spl_short (k : Nat) (b : List UInt8) (acc : List (List UInt8)) (h : b.length < 2) : spl (k + 1) b acc = ([], 20) := by
  match b, h with
  | [], _ => rfl
  | [x], _ => rfl
theorem spl_cons (k : Nat) (x y : UInt8) (b : List UInt8) (acc : List (List UInt8)) :
    spl (k + 1) (x :: y :: b) acc = if 4096 < x.toNat * 256 + y.toNat then ([], 5) else if b.length < x.toNat * 256 + y.toNat then ([], 20) else spl k (b.drop (x.toNat * 256 + y.toNat)) (acc ++ [b.take (x.toNat * 256 + y.toNat)]) := rfl
theorem spl_enc (k : Nat) (p r : List UInt8) (acc : List (List UInt8)) (h : p.length ≤ 4096) : spl (k + 1) (enc p ++ r) acc = spl k r (acc ++ [p]) := by
  show spl (k + 1) (UInt8.ofNat (p.length / 256) :: UInt8.ofNat p.length :: (p ++ r)) acc = _
  rw [spl_cons, enc_num _ h, if_neg (by omega), if_neg (by rw [List.length_append]; omega), List.drop_left, List.take_left]
theorem spl_jn (more : List UInt8) : ∀ (ps acc : List (List UInt8)), (∀ p ∈ ps, p.length ≤ 4096) → spl ps.length (ps.flatMap enc ++ more) acc = if more = [] then (acc ++ ps, 0) else ([], 21)
  | [], acc, _ => by simp [spl_zero]
  | p :: ps, acc, h => by
    have ih := spl_jn more ps (acc ++ [p]) fun q hq => h q (by simp [hq])
    rw [List.flatMap_cons, List.append_assoc, List.length_cons, spl_enc _ _ _ _ (h p (by simp)), ih]
    simp
theorem split_more (ps : List (List UInt8)) (more : List UInt8) (h : oFit ps) : split (jn ps ++ more) = if more = [] then (ps, 0) else ([], 21) := by
  have h64 := h.1
  have hx : (UInt8.ofNat ps.length).toNat = ps.length := by rw [u8_ofNat]; omega
  show (if 64 < (UInt8.ofNat ps.length).toNat then ([], 4) else spl (UInt8.ofNat ps.length).toNat (ps.flatMap enc ++ more) []) = _
  rw [hx, if_neg (by omega), spl_jn _ _ _ h.2]
  simp
theorem split_jn (ps : List (List UInt8)) (h : oFit ps) : split (jn ps) = (ps, 0) := by
  have := split_more ps [] h
  simpa using this
theorem spl_cut : ∀ (ps acc : List (List UInt8)) (cut : Nat), (∀ p ∈ ps, p.length ≤ 4096) → cut < (ps.flatMap enc).length → spl ps.length ((ps.flatMap enc).take cut) acc = ([], 20)
  | [], acc, cut, _, hc => by simp at hc
  | p :: ps, acc, cut, h, hc => by
    have hp := h p (by simp)
    rw [List.length_cons]
    by_cases h2 : cut < 2
    · rw [spl_short _ _ _ (by rw [List.length_take]; omega)]
    · by_cases h3 : cut < 2 + p.length
      · have e : ((p :: ps).flatMap enc).take cut = UInt8.ofNat (p.length / 256) :: UInt8.ofNat p.length :: p.take (cut - 2) := by
          rw [List.flatMap_cons, List.take_append_of_le_length (by rw [enc_length]; omega)]
          obtain ⟨d, rfl⟩ : ∃ d, cut = d + 1 + 1 := ⟨cut - 2, by omega⟩
          rfl
        rw [e, spl_cons, enc_num _ hp, if_neg (by omega), if_pos (by rw [List.length_take]; omega)]
      · have e : ((p :: ps).flatMap enc).take cut = enc p ++ (ps.flatMap enc).take (cut - (enc p).length) := by
          rw [List.flatMap_cons, List.take_append, List.take_of_length_le (by rw [enc_length]; omega)]
        rw [e, spl_enc _ _ _ _ hp]
        refine spl_cut ps _ _ (fun q hq => h q (by simp [hq])) ?_
        rw [List.flatMap_cons, List.length_append] at hc
        rw [enc_length] at hc ⊢
        omega
theorem split_cut (ps : List (List UInt8)) (h : oFit ps) (cut : Nat) (hc : cut < (jn ps).length) : split ((jn ps).take cut) = ([], 20) := by
  have h64 := h.1
  have hx : (UInt8.ofNat ps.length).toNat = ps.length := by rw [u8_ofNat]; omega
  cases cut with
  | zero => rfl
  | succ c =>
    show (if 64 < (UInt8.ofNat ps.length).toNat then ([], 4) else spl (UInt8.ofNat ps.length).toNat ((ps.flatMap enc).take c) []) = _
    rw [hx, if_neg (by omega), spl_cut _ _ _ h.2 (by simpa [jn] using hc)]
theorem spl_err (k : Nat) (b : List UInt8) (acc : List (List UInt8)) : (spl k b acc).2 ≠ 0 → (spl k b acc).1 = [] := by
  induction k generalizing b acc with
  | zero => rw [spl_zero]; split <;> simp
  | succ k ih =>
    match b with
    | [] => rw [spl_short _ _ _ (by simp)]; simp
    | [x] => rw [spl_short _ _ _ (by simp)]; simp
    | x :: y :: b =>
      rw [spl_cons]
      split
      · simp
      · split
        · simp
        · exact ih _ _
theorem spl_ok : ∀ (k : Nat) (b : List UInt8) (acc : List (List UInt8)), (spl k b acc).2 = 0 → ∃ ps : List (List UInt8), (spl k b acc).1 = acc ++ ps ∧ ps.length = k ∧ (∀ p ∈ ps, p.length ≤ 4096) ∧ b = ps.flatMap enc
  | 0, b, acc, h => by
    rw [spl_zero] at h ⊢
    by_cases e : b = []
    · exact ⟨[], by simp [e], rfl, by simp, by simp [e]⟩
    · rw [if_neg e] at h; simp at h
  | k + 1, [], acc, h => by rw [spl_short _ _ _ (by simp)] at h; simp at h
  | k + 1, [x], acc, h => by rw [spl_short _ _ _ (by simp)] at h; simp at h
  | k + 1, x :: y :: b, acc, h => by
    rw [spl_cons] at h ⊢
    by_cases h1 : 4096 < x.toNat * 256 + y.toNat
    · rw [if_pos h1] at h; simp at h
    · by_cases h2 : b.length < x.toNat * 256 + y.toNat
      · rw [if_neg h1, if_pos h2] at h; simp at h
      · rw [if_neg h1, if_neg h2] at h ⊢
        obtain ⟨ps, e1, e2, e3, e4⟩ := spl_ok k _ _ h
        have hx := x.toNat_lt
        have hy := y.toNat_lt
        refine ⟨b.take (x.toNat * 256 + y.toNat) :: ps, by rw [e1]; simp, by simp [e2], ?_, ?_⟩
        · intro p hp
          rcases List.mem_cons.1 hp with rfl | hp
          · rw [List.length_take]; omega
          · exact e3 p hp
        · rw [List.flatMap_cons, ← e4]
          have hl : (b.take (x.toNat * 256 + y.toNat)).length = x.toNat * 256 + y.toNat := by rw [List.length_take]; omega
          have g1 : UInt8.ofNat ((x.toNat * 256 + y.toNat) / 256) = x := by
            rw [show (x.toNat * 256 + y.toNat) / 256 = x.toNat by omega, u8_back]
          have g2 : UInt8.ofNat (x.toNat * 256 + y.toNat) = y := by
            apply UInt8.toNat_inj.1
            rw [u8_ofNat]; omega
          simp only [enc, hl, g1, g2, List.cons_append, List.take_append_drop]
theorem split_ok (b : List UInt8) (h : (split b).2 = 0) : oFit (split b).1 ∧ jn (split b).1 = b := by
  match b with
  | [] => simp [split] at h
  | x :: b =>
    have hs : split (x :: b) = if 64 < x.toNat then ([], 4) else spl x.toNat b [] := rfl
    rw [hs] at h ⊢
    by_cases h1 : 64 < x.toNat
    · rw [if_pos h1] at h; simp at h
    · rw [if_neg h1] at h ⊢
      obtain ⟨ps, e1, e2, e3, e4⟩ := spl_ok _ _ _ h
      rw [e1, List.nil_append]
      refine ⟨⟨by omega, e3⟩, ?_⟩
      unfold jn
      rw [e2, u8_back, e4]
theorem split_err (b : List UInt8) (h : (split b).2 ≠ 0) : (split b).1 = [] := by
  match b with
  | [] => rfl
  | x :: b =>
    have hs : split (x :: b) = if 64 < x.toNat then ([], 4) else spl x.toNat b [] := rfl
    rw [hs] at h ⊢
    by_cases h1 : 64 < x.toNat
    · rw [if_pos h1]
    · rw [if_neg h1] at h ⊢
      exact spl_err _ _ _ h
theorem split_fit (b : List UInt8) : oFit (split b).1 := by
  by_cases h : (split b).2 = 0
  · exact (split_ok b h).1
  · rw [split_err b h]; exact ⟨by simp, by simp⟩
end Go.Proofs.YtonpcenjipigpaaGreat
