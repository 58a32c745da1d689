/- How much waits, and how long a search may go on; a row under way. Conditions: none. -/
import Derived.Test.YtbhfjjlfpgineaaJob
namespace Go.Proofs.Ytbhfjjlfpgineaa

/-- How many wait. -/
def tot (σ : Sch) : Nat := cw (fun _ => true) σ.wait
/-- How long it may go on. -/
def mu (σ : Sch) : Nat := 2 * σ.names.count false + σ.news.length
/-- What is left to be done of the row under way is r. -/
def eff (σ : Sch) (x : Nat) (r : List Jb) : Sch := { σ with wait := σ.wait.set x r }
section
variable {T : List Trm} {σ : Sch}
theorem cw_len : ∀ (W : List (List Jb)) (m : Nat), (W.getD m []).length ≤ cw (fun _ => true) W
  | [], m => by simp
  | r :: W, 0 => by simp [cw]
  | r :: W, m + 1 => by
    have := cw_len W m
    simp only [cw, List.map_cons, List.sum_cons, List.getD_cons_succ] at this ⊢
    omega
theorem row_tot (σ : Sch) (m : Nat) : (row σ m).length ≤ tot σ := cw_len σ.wait m
theorem tot_add (σ : Sch) (n : Nat) : tot (addS σ n) = tot σ := by unfold tot; rw [wait_add]
theorem tot_adds : ∀ (l : List Nat) (σ : Sch), tot (l.foldl addS σ) = tot σ
  | [], _ => rfl
  | n :: l, σ => by rw [List.foldl_cons, tot_adds l, tot_add]
theorem tot_park (σ : Sch) (m : Nat) (j : Jb) : tot (parkS σ m j) ≤ tot σ + 1 := by
  unfold tot
  show cw (fun _ => true) (σ.wait.set m (row σ m ++ [j])) ≤ _
  rcases Nat.lt_or_ge m σ.wait.length with h | h
  · have h1 := cw_set (fun _ => true) (row σ m ++ [j]) σ.wait m h
    rw [List.countP_append] at h1
    have h2 : (σ.wait.getD m []).countP (fun _ => true) = (row σ m).countP (fun _ => true) := rfl
    simp only [List.countP_singleton, if_true] at h1
    omega
  · rw [List.set_eq_of_length_le h]; omega
theorem tot_await {run : Sch → Sch} {b : List UInt8} {below : Nat} {d : Do} (h : tot (run σ) ≤ tot σ + 1) : tot (awaitS run σ b below d) ≤ tot σ + 1 := by
  unfold awaitS
  split
  · exact h
  · exact tot_park _ _ _
theorem tot_runL (n : Nat) : tot (runL T σ n) = tot σ := tot_adds _ _
theorem tot_runB (n : Nat) : tot (runB σ n) = tot σ := by
  unfold runB
  split
  · rw [tot_add]; rfl
  · rfl
theorem tot_runO (n : Nat) : tot (runO T σ n) ≤ tot σ + 1 := tot_await (by rw [tot_runL]; omega)
theorem tot_runD (d : Do) : tot (runD T σ d) ≤ tot σ + 1 := by
  cases d with
  | B n k => show tot (runB σ n) ≤ _; rw [tot_runB]; omega
  | O n => exact tot_runO n
  | L n => show tot (runL T σ n) ≤ _; rw [tot_runL]; omega
theorem tot_runJ (j : Jb) : tot (runJ T σ j) ≤ tot σ + 1 := tot_await (tot_runD j.d)
theorem tot_pop {x : Nat} {j : Jb} {r : List Jb} (h : row σ x = j :: r) : tot (eff σ x r) + 1 = tot σ := by
  have hlt := row_lt (σ := σ) (m := x) (j := j) (by rw [h]; simp)
  have h1 := cw_set (fun _ => true) r σ.wait x hlt
  have h2 : σ.wait.getD x [] = j :: r := h
  rw [h2, List.countP_cons] at h1
  unfold tot eff
  simp only [if_true] at h1 ⊢
  omega
theorem count_false_set : ∀ (l : List Bool) (n : Nat), l.getD n false = false → n < l.length → (l.set n true).count false + 1 = l.count false
  | [], n, _, h => by simp at h
  | b :: l, 0, h, _ => by
    obtain rfl : b = false := by simpa using h
    simp
  | b :: l, n + 1, h, hl => by
    have := count_false_set l n (by simpa using h) (by simpa using hl)
    simp only [List.set_cons_succ, List.count_cons]
    omega
theorem mu_add (σ : Sch) {n : Nat} (hn : n < σ.names.length) : mu (addS σ n) ≤ mu σ := by
  by_cases h : kn σ n = true
  · have e : addS σ n = σ := by unfold addS; rw [if_pos h]
    rw [e]; omega
  · have e : addS σ n = { σ with names := σ.names.set n true, news := σ.news ++ [n] } := by unfold addS; rw [if_neg h]
    rw [e]
    have := count_false_set σ.names n (by unfold kn at h; simpa using h) hn
    unfold mu
    simp only [List.length_append, List.length_cons, List.length_nil]
    omega
theorem mu_adds : ∀ (l : List Nat) (σ : Sch), (∀ n ∈ l, n < σ.names.length) → mu (l.foldl addS σ) ≤ mu σ
  | [], _, _ => Nat.le_refl _
  | n :: l, σ, h => by
    rw [List.foldl_cons]
    have h1 := mu_adds l (addS σ n) fun i hi => by rw [len_add]; exact h i (by simp [hi])
    have h2 := mu_add σ (h n (by simp))
    omega
theorem mu_await {run : Sch → Sch} {b : List UInt8} {below : Nat} {d : Do} (h : mu (run σ) ≤ mu σ) : mu (awaitS run σ b below d) ≤ mu σ := by
  unfold awaitS
  split
  · exact h
  · exact Nat.le_refl _
theorem mu_runL {n : Nat} (h : n ≤ σ.names.length) : mu (runL T σ n) ≤ mu σ := mu_adds _ _ fun i hi => by have := nms_bd hi; omega
theorem mu_runB {n : Nat} (h : n < σ.names.length) : mu (runB σ n) ≤ mu σ := by
  unfold runB
  split
  · exact mu_add (setL σ n _) h
  · exact Nat.le_refl _
theorem mu_runD {d : Do} (h : bel d ≤ σ.names.length) (hb : ∀ n k, d = .B n k → n < σ.names.length) : mu (runD T σ d) ≤ mu σ := by
  cases d with
  | B n k => exact mu_runB (hb n k rfl)
  | O n => exact mu_await (mu_runL (by have : n + 1 ≤ σ.names.length := h; omega))
  | L n => exact mu_runL h
theorem mu_runJ {j : Jb} (h : bel j.d ≤ σ.names.length) (hb : ∀ n k, j.d = .B n k → n < σ.names.length) : mu (runJ T σ j) ≤ mu σ := mu_await (mu_runD h hb)
theorem mu_take {l : List Nat} {n : Nat} (h : σ.news = l ++ [n]) : mu { σ with news := l } + 1 = mu σ := by
  unfold mu
  rw [h]
  simp
  omega

-- the row under way
variable {x : Nat} {r : List Jb}
theorem kn_eff (i : Nat) : kn (eff σ x r) i = kn σ i := rfl
theorem add_eff (n : Nat) : addS (eff σ x r) n = eff (addS σ n) x r := by
  unfold addS
  rw [kn_eff]
  split <;> rfl
theorem adds_eff : ∀ (l : List Nat) (σ : Sch), l.foldl addS (eff σ x r) = eff (l.foldl addS σ) x r
  | [], _ => rfl
  | n :: l, σ => by rw [List.foldl_cons, List.foldl_cons, add_eff, adds_eff l]
theorem park_eff {m : Nat} {j : Jb} (h : m ≠ x) : parkS (eff σ x r) m j = eff (parkS σ m j) x r := by
  have e : row (eff σ x r) m = row σ m := by
    unfold row eff
    rw [List.getD_eq_getElem?_getD, List.getD_eq_getElem?_getD, List.getElem?_set_ne (Ne.symm h)]
  unfold parkS
  rw [e]
  unfold eff
  simp only
  rw [List.set_comm _ _ (Ne.symm h)]
theorem await_eff {run : Sch → Sch} {b : List UInt8} {below : Nat} {d : Do} (hx : kn σ x = true) (h : run (eff σ x r) = eff (run σ) x r) : awaitS run (eff σ x r) b below d = eff (awaitS run σ b below d) x r := by
  have e : kn (eff σ x r) = kn σ := rfl
  unfold awaitS
  rw [e]
  by_cases h0 : (ms (kn σ) b below).1 = 0
  · rw [if_pos h0, if_pos h0]; exact h
  · rw [if_neg h0, if_neg h0]
    obtain ⟨_, h2, _⟩ := ms_some (K := kn σ) (b := b) (below := below) (by omega)
    exact park_eff fun e => by rw [e, hx] at h2; cases h2
theorem runD_eff (hx : kn σ x = true) (d : Do) : runD T (eff σ x r) d = eff (runD T σ d) x r := by
  cases d with
  | B n k =>
    show runB (eff σ x r) n = eff (runB σ n) x r
    unfold runB
    have e1 : (eff σ x r).left n = σ.left n := rfl
    have e2 : setL (eff σ x r) n (σ.left n - 1) = eff (setL σ n (σ.left n - 1)) x r := rfl
    rw [e1, e2, add_eff]
    split <;> rfl
  | O n => exact await_eff (run := fun σ => runL T σ n) hx (adds_eff _ _)
  | L n => exact adds_eff _ _
theorem runJ_eff (hx : kn σ x = true) (j : Jb) : runJ T (eff σ x r) j = eff (runJ T σ j) x r := await_eff hx (runD_eff hx j.d)
theorem row_eff (h : x < σ.wait.length) : row (eff σ x r) x = r := by rw [show row (eff σ x r) x = row { σ with wait := σ.wait.set x r } x from rfl, row_set σ x r h, if_pos rfl]
theorem eff_eff (r' : List Jb) : eff (eff σ x r) x r' = eff σ x r' := by unfold eff; simp
theorem eff_self (h : x < σ.wait.length) : eff σ x (row σ x) = σ := by
  unfold eff
  have : σ.wait.set x (row σ x) = σ.wait := by
    unfold row
    rw [List.getD_eq_getElem?_getD, List.getElem?_eq_getElem h]
    simp
  rw [this]
-- nothing is put behind what is known already
theorem row_park {m : Nat} {j : Jb} (h : m ≠ x) : row (parkS σ m j) x = row σ x := by
  unfold row parkS
  rw [List.getD_eq_getElem?_getD, List.getD_eq_getElem?_getD, List.getElem?_set_ne h]
theorem row_adds : ∀ (l : List Nat) (σ : Sch) (i : Nat), row (l.foldl addS σ) i = row σ i
  | [], _, _ => rfl
  | n :: l, σ, i => by rw [List.foldl_cons, row_adds l, row_add]
theorem row_await {run : Sch → Sch} {b : List UInt8} {below : Nat} {d : Do} (hx : kn σ x = true) (h : row (run σ) x = row σ x) : row (awaitS run σ b below d) x = row σ x := by
  unfold awaitS
  by_cases h0 : (ms (kn σ) b below).1 = 0
  · rw [if_pos h0]; exact h
  · rw [if_neg h0]
    obtain ⟨_, h2, _⟩ := ms_some (K := kn σ) (b := b) (below := below) (by omega)
    exact row_park fun e => by rw [e, hx] at h2; cases h2
theorem row_runJ (hx : kn σ x = true) (j : Jb) : row (runJ T σ j) x = row σ x := by
  refine row_await hx ?_
  cases j.d with
  | B n k =>
    show row (runB σ n) x = _
    unfold runB
    split
    · rw [row_add]; rfl
    · rfl
  | O n => exact row_await hx (row_adds _ _ _)
  | L n => exact row_adds _ _ _
theorem kn_up_adds : ∀ (l : List Nat) (σ : Sch) {i : Nat}, kn σ i = true → kn (l.foldl addS σ) i = true
  | [], _, _, h => h
  | n :: l, σ, i, h => by rw [List.foldl_cons]; exact kn_up_adds l _ (kn_up_add σ n h)
theorem kn_up_await {run : Sch → Sch} {b : List UInt8} {below : Nat} {d : Do} {i : Nat} (hi : kn σ i = true) (h : kn (run σ) i = true) : kn (awaitS run σ b below d) i = true := by
  unfold awaitS
  split
  · exact h
  · exact hi
theorem kn_up_runJ (j : Jb) {i : Nat} (hi : kn σ i = true) : kn (runJ T σ j) i = true := by
  refine kn_up_await hi ?_
  cases j.d with
  | B n k =>
    show kn (runB σ n) i = true
    unfold runB
    split
    · exact kn_up_add _ _ hi
    · exact hi
  | O n => exact kn_up_await hi (kn_up_adds _ _ hi)
  | L n => exact kn_up_adds _ _ hi
theorem left_adds : ∀ (l : List Nat) (σ : Sch), (l.foldl addS σ).left = σ.left
  | [], _ => rfl
  | n :: l, σ => by rw [List.foldl_cons, left_adds l, left_add]
/-- What holds of a search says what may be done. -/
theorem Inv.can {seen sw : List (List UInt8)} {bb bo : Nat} {fl : List Do} {C : Cs} (hT : Tok T) (h : Inv T seen sw bb bo x fl σ) (hN : C.N = T.length + 1) {d : Do} (hv : Val T bb bo σ d) : Can C T σ d := by
  cases d with
  | B n k =>
    obtain ⟨h1, h2, h3, h4⟩ := hv
    obtain ⟨a, b⟩ := h.lefts n h1 h2 h3
    have h64 : pn T n ≤ 64 := (tm_fit hT n).1
    have h5 := h.hbb
    have hi : ini T n ≤ 64 ∧ 0 ≤ ini T n := by
      unfold ini
      split
      · omega
      · split <;> omega
    exact ⟨by omega, by omega, by omega⟩
  | O n =>
    obtain ⟨h1, h2, h3, h4⟩ := hv
    have h5 := h.hbo
    exact ⟨by omega, h4⟩
  | L n =>
    obtain ⟨h1, h2, h3, h4, _⟩ := hv
    have h5 := h.hbo
    exact ⟨by omega, h4⟩
end
end Go.Proofs.Ytbhfjjlfpgineaa
