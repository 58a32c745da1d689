/- A search begins, term by term; at its end it knows just what the document's rules say. Conditions: at most 65535 terms. -/
import Derived.Test.YtbhfjjlfpgineaaKRun
namespace Go.Proofs.Ytbhfjjlfpgineaa

section
variable {T : List Trm} {seen sw : List (List UInt8)} {bb bo x : Nat} {fl : List Do} {σ : Sch}
/-- At the start nothing is known. -/
def sch0 (N : Nat) : Sch := ⟨List.replicate N false, [], List.replicate N [], fun _ => 0⟩
theorem kn_sch0 (N n : Nat) : kn (sch0 N) n = false := by
  unfold kn sch0
  rw [List.getD_eq_getElem?_getD, List.getElem?_replicate]
  split <;> rfl
theorem row_sch0 (N m : Nat) : row (sch0 N) m = [] := by
  unfold row sch0
  rw [List.getD_eq_getElem?_getD, List.getElem?_replicate]
  split <;> rfl
theorem Inv.start : Inv T seen [] 1 1 0 [] (sch0 (T.length + 1)) := by
  refine ⟨by simp [sch0], by simp [sch0], by omega, by omega, fun n hn => ?_, by simp, fun n hn => by simp [sch0] at hn, fun m j hj => ?_, by simp, fun m hm => ?_, fun n a b => by omega, fun n a b => by omega, fun n a b => by omega, fun n a b => by omega, fun n a b => by omega⟩
  · rw [kn_sch0] at hn; cases hn
  · rw [row_sch0] at hj; simp at hj
  · rw [kn_sch0] at hm; cases hm
/-- One more list of bytes was seen. -/
theorem Inv.see (h : Inv T seen sw bb bo x fl σ) {s : List UInt8} (hs : s ∈ seen) : Inv T seen (sw ++ [s]) bb bo x fl ((nms s (T.length + 1)).foldl addS σ) := by
  obtain ⟨h1, _, h3⟩ := h.adds (nms s (T.length + 1)) fun n hn => .told (.seen hs hn)
  refine ⟨h1.len, h1.wlen, h1.hbb, h1.hbo, h1.sound, fun s' hs' => ?_, h1.newsK, h1.jobs, h1.fly, h1.done, h1.lefts, h1.parts, h1.some_, h1.made, h1.opens⟩
  rcases List.mem_append.1 hs' with hs' | hs'
  · exact h1.saw s' hs'
  · obtain rfl : s' = s := by simpa using hs'
    exact h3
theorem Val.up {bb' bo' : Nat} {d : Do} (h : Val T bb bo σ d) (h1 : bb ≤ bb') (h2 : bo ≤ bo') : Val T bb' bo' σ d := by
  cases d with
  | B n k => exact ⟨h.1, Nat.lt_of_lt_of_le h.2.1 h1, h.2.2⟩
  | O n => exact ⟨h.1, Nat.lt_of_lt_of_le h.2.1 h2, h.2.2⟩
  | L n => exact ⟨h.1, Nat.lt_of_lt_of_le h.2.1 h2, h.2.2⟩
theorem cB_none (h : Inv T seen sw bb bo x [] σ) : cB σ [] bb = 0 := by
  have h1 : ∀ m, ∀ j ∈ row σ m, fB bb j = false := fun m j hj => by
    obtain ⟨_, h2, _⟩ := h.jobs m j hj
    unfold fB
    cases hd : j.d with
    | B n k =>
      rw [hd] at h2
      have := h2.2.1
      simp [isB]; omega
    | O n => rfl
    | L n => rfl
  unfold cB
  show _ + 0 = 0
  rw [Nat.add_zero]
  have h2 : ∀ (W : List (List Jb)), (∀ m, ∀ j ∈ W.getD m [], fB bb j = false) → cw (fB bb) W = 0 := by
    intro W
    induction W with
    | nil => intro _; rfl
    | cons r W ih =>
      intro hW
      have e1 : r.countP (fB bb) = 0 := List.countP_eq_zero.2 fun j hj => by
        have := hW 0 j (by simpa using hj)
        simp [this]
      have e2 := ih fun m j hj => hW (m + 1) j (by simpa using hj)
      simp only [cw, List.map_cons, List.sum_cons] at e2 ⊢
      omega
  exact h2 _ h1
/-- The next term, when there is nothing to be built of. -/
theorem Inv.nonce (h : Inv T seen sw bb bo x [] σ) (hb : bb ≤ T.length) (hk : kd T bb < 2) : Inv T seen sw (bb + 1) bo x [] σ := by
  refine ⟨h.len, h.wlen, by omega, h.hbo, h.sound, h.saw, h.newsK, fun m j hj => ?_, by simp, h.done, fun n a b c => ?_, fun n a b c => ?_, fun n a b c => ?_, fun n a b c => ?_, h.opens⟩
  · obtain ⟨h1, h2, h3⟩ := h.jobs m j hj
    exact ⟨h1, h2.up (by omega) (Nat.le_refl _), h3⟩
  · by_cases e : n = bb
    · subst e; omega
    · exact h.lefts n a (by omega) c
  · by_cases e : n = bb
    · subst e; omega
    · exact h.parts n a (by omega) c
  · by_cases e : n = bb
    · subst e; omega
    · exact h.some_ n a (by omega) c
  · by_cases e : n = bb
    · subst e; omega
    · exact h.made n a (by omega) c
def flB (n k p : Nat) : List Do := (List.range' k (p - k)).map (Do.B n)
theorem flB_cons {n k p : Nat} (h : k < p) : flB n k p = Do.B n k :: flB n (k + 1) p := by
  unfold flB
  rw [show p - k = (p - (k + 1)) + 1 by omega, List.range'_succ]
  rfl
theorem flB_end {n p : Nat} : flB n p p = [] := by unfold flB; simp
theorem flB_mem {n k p : Nat} {d : Do} : d ∈ flB n k p ↔ ∃ i, k ≤ i ∧ i < p ∧ d = .B n i := by
  unfold flB
  rw [List.mem_map]
  constructor
  · rintro ⟨i, hi, rfl⟩
    rw [List.mem_range'_1] at hi
    exact ⟨i, hi.1, by omega, rfl⟩
  · rintro ⟨i, h1, h2, rfl⟩
    exact ⟨i, by rw [List.mem_range'_1]; omega, rfl⟩
theorem flB_count (n m p : Nat) : (flB n 0 p).countP (isB m) = if m = n then p else 0 := by
  unfold flB
  rw [List.countP_map]
  by_cases e : m = n
  · subst e
    rw [if_pos rfl]
    have : (isB m ∘ Do.B m) = fun _ => true := by funext i; simp [isB]
    rw [this]
    simp
  · rw [if_neg e]
    have : (isB m ∘ Do.B n) = fun _ => false := by funext i; simp [isB, Ne.symm e]
    rw [this]
    simp
/-- The next term, before its parts are looked at. -/
theorem Inv.begin (h : Inv T seen sw bb bo x [] σ) (h1 : 1 ≤ bb) (hb : bb ≤ T.length) (hk : 2 ≤ kd T bb) (hp : 0 < pn T bb) : Inv T seen sw (bb + 1) bo x (flB bb 0 (pn T bb)) (setL σ bb (ini T bb)) := by
  have h0 := cB_none h
  have hcB : ∀ n, cB (setL σ bb (ini T bb)) (flB bb 0 (pn T bb)) n = if n = bb then pn T bb else cB σ [] n := fun n => by
    unfold cB at h0 ⊢
    rw [flB_count]
    by_cases e : n = bb
    · subst e
      rw [if_pos rfl, if_pos rfl]
      have e1 : (setL σ n (ini T n)).wait = σ.wait := rfl
      rw [e1]
      simp at h0
      omega
    · rw [if_neg e, if_neg e]
      rfl
  have hl : ∀ i, (setL σ bb (ini T bb)).left i = if i = bb then ini T bb else σ.left i := fun i => rfl
  have hout : ∀ d, out σ [] d → out (setL σ bb (ini T bb)) (flB bb 0 (pn T bb)) d := fun d hd => by
    rcases hd with hd | hd
    · exact .inl hd
    · simp at hd
  have hini : 0 < ini T bb := by
    unfold ini
    rw [if_neg (by omega)]
    split <;> omega
  refine ⟨h.len, h.wlen, by omega, h.hbo, h.sound, h.saw, h.newsK, fun m j hj => ?_, fun d hd => ?_, h.done, fun n a b c => ?_, fun n a b c k hk' => ?_, fun n a b c e => ?_, fun n a b c e => ?_, fun n a b c e => ?_⟩
  · obtain ⟨a, b, c⟩ := h.jobs m j hj
    exact ⟨a, b.up (by omega) (Nat.le_refl _), c⟩
  · obtain ⟨i, _, hi, rfl⟩ := flB_mem.1 hd
    exact ⟨h1, by omega, hk, hi⟩
  · rw [hcB, hl]
    by_cases e : n = bb
    · subst e; rw [if_pos rfl, if_pos rfl]; omega
    · rw [if_neg e, if_neg e]; exact h.lefts n a (by omega) c
  · rw [hcB]
    by_cases e : n = bb
    · subst e; exact .inl (.inr (flB_mem.2 ⟨k, by omega, hk', rfl⟩))
    · rw [if_neg e]
      rcases h.parts n a (by omega) c k hk' with h4 | h4
      · exact .inl (hout _ h4)
      · exact .inr h4
  · rw [hcB] at e
    by_cases e2 : n = bb
    · subst e2; rw [if_pos rfl] at e; omega
    · rw [if_neg e2] at e; exact h.some_ n a (by omega) c e
  · rw [hl] at e
    by_cases e2 : n = bb
    · subst e2; rw [if_pos rfl] at e; omega
    · rw [if_neg e2] at e; exact h.made n a (by omega) c e
  · rcases h.opens n a b c e with h5 | ⟨h5, h6⟩
    · exact .inl (hout _ h5)
    · refine .inr ⟨h5, ?_⟩
      rcases h6 with h6 | h6
      · exact .inl (hout _ h6)
      · exact .inr h6
/-- The next term, without parts. -/
theorem Inv.bare (h : Inv T seen sw bb bo x [] σ) (h1 : 1 ≤ bb) (hb : bb ≤ T.length) (hk : 2 ≤ kd T bb) (hp : pn T bb = 0) : Inv T seen sw (bb + 1) bo x [] (addS (setL σ bb 0) bb) := by
  have hK : Kno T seen false bb := .made h1 hb hk fun i hi => by omega
  rw [setL_add]
  have h' := h.add hK
  have hlt : bb < σ.names.length := by rw [h.len]; omega
  have hkn : kn (addS σ bb) bb = true := by rw [kn_add σ bb hlt]; simp
  have h0 := cB_none h'
  have hl : ∀ i, (setL (addS σ bb) bb 0).left i = if i = bb then 0 else (addS σ bb).left i := fun i => rfl
  have hcB : ∀ i, cB (setL (addS σ bb) bb 0) [] i = cB (addS σ bb) [] i := fun i => rfl
  have hini : ini T bb = 0 := by unfold ini; rw [if_pos hp]
  refine ⟨h'.len, h'.wlen, by omega, h'.hbo, h'.sound, h'.saw, h'.newsK, fun m j hj => ?_, by simp, h'.done, fun n a b c => ?_, fun n a b c k hk' => ?_, fun n a b c e => ?_, fun n a b c e => ?_, h'.opens⟩
  · obtain ⟨a, b, c⟩ := h'.jobs m j hj
    exact ⟨a, b.up (by omega) (Nat.le_refl _), c⟩
  · rw [hcB, hl]
    by_cases e : n = bb
    · subst e; rw [if_pos rfl, h0]; omega
    · rw [if_neg e]; exact h'.lefts n a (by omega) c
  · by_cases e : n = bb
    · subst e; omega
    · exact h'.parts n a (by omega) c k hk'
  · by_cases e2 : n = bb
    · subst e2; rw [hcB, h0] at e; omega
    · exact h'.some_ n a (by omega) c e
  · rw [hl] at e
    by_cases e2 : n = bb
    · subst e2; exact hkn
    · rw [if_neg e2] at e; exact h'.made n a (by omega) c e
/-- The next term, when there is nothing to be opened. -/
theorem Inv.plain (h : Inv T seen sw bb bo x [] σ) (hb : bo ≤ T.length) (hk : kd T bo ≠ 8 ∨ pn T bo < 2) : Inv T seen sw bb (bo + 1) x [] σ := by
  refine ⟨h.len, h.wlen, h.hbb, by omega, h.sound, h.saw, h.newsK, fun m j hj => ?_, by simp, h.done, h.lefts, h.parts, h.some_, h.made, fun n a b c e => ?_⟩
  · obtain ⟨h1, h2, h3⟩ := h.jobs m j hj
    exact ⟨h1, h2.up (Nat.le_refl _) (by omega), h3⟩
  · by_cases e2 : n = bo
    · subst e2; omega
    · exact h.opens n a (by omega) c e
/-- The next term, before it is asked whether it is known. -/
theorem Inv.shut (h : Inv T seen sw bb bo x [] σ) (h1 : 1 ≤ bo) (hb : bo ≤ T.length) (hk : kd T bo = 8) (hp : 2 ≤ pn T bo) : Inv T seen sw bb (bo + 1) x [.O bo] σ := by
  have hcB : ∀ n, cB σ [.O bo] n = cB σ [] n := fun n => by unfold cB; simp [isB]
  have hout : ∀ d, out σ [] d → out σ [.O bo] d := fun d hd => by
    rcases hd with hd | hd
    · exact .inl hd
    · simp at hd
  refine ⟨h.len, h.wlen, h.hbb, by omega, h.sound, h.saw, h.newsK, fun m j hj => ?_, fun d hd => ?_, h.done, fun n a b c => ?_, fun n a b c k hk' => ?_, fun n a b c e => ?_, h.made, fun n a b c e => ?_⟩
  · obtain ⟨a, b, c⟩ := h.jobs m j hj
    exact ⟨a, b.up (Nat.le_refl _) (by omega), c⟩
  · obtain rfl : d = .O bo := by simpa using hd
    exact ⟨h1, by omega, hk, hp⟩
  · rw [hcB]; exact h.lefts n a b c
  · rw [hcB]
    rcases h.parts n a b c k hk' with h4 | h4
    · exact .inl (hout _ h4)
    · exact .inr h4
  · rw [hcB] at e; exact h.some_ n a b c e
  · by_cases e2 : n = bo
    · subst e2; exact .inl (.inr (by simp))
    · rcases h.opens n a (by omega) c e with h5 | ⟨h5, h6⟩
      · exact .inl (hout _ h5)
      · refine .inr ⟨h5, ?_⟩
        rcases h6 with h6 | h6
        · exact .inl (hout _ h6)
        · exact .inr h6
/-- The last news is taken: its row is under way. -/
theorem Inv.take (h : Inv T seen sw bb bo 0 [] σ) {l : List Nat} {n : Nat} (hn : σ.news = l ++ [n]) : Inv T seen sw bb bo n [] { σ with news := l } ∧ kn σ n = true := by
  have hk := h.newsK n (by rw [hn]; simp)
  refine ⟨⟨h.len, h.wlen, h.hbb, h.hbo, h.sound, h.saw, fun i hi => h.newsK i (by rw [hn]; simp only at hi; simp [hi]), h.jobs, h.fly, fun m hm => ?_, h.lefts, h.parts, h.some_, h.made, h.opens⟩, hk⟩
  rcases h.done m hm with h1 | h1 | h1
  · rw [hn] at h1
    rcases List.mem_append.1 h1 with h1 | h1
    · exact .inl h1
    · exact .inr (.inl (by simpa using h1))
  · subst h1
    have := (kno_bd (h.sound 0 hm)).1
    omega
  · exact .inr (.inr h1)
/-- All that stood in the row under way is done. -/
theorem Inv.leave (h : Inv T seen sw bb bo x [] σ) (hr : row σ x = []) : Inv T seen sw bb bo 0 [] σ := by
  refine ⟨h.len, h.wlen, h.hbb, h.hbo, h.sound, h.saw, h.newsK, h.jobs, h.fly, fun m hm => ?_, h.lefts, h.parts, h.some_, h.made, h.opens⟩
  rcases h.done m hm with h1 | h1 | h1
  · exact .inl h1
  · subst h1; exact .inr (.inr hr)
  · exact .inr (.inr h1)
/-- At the end. -/
theorem Inv.final (hT : T.length ≤ 65535) (h : Inv T seen seen (T.length + 1) (T.length + 1) 0 [] σ) (hn : σ.news = []) (n : Nat) : kn σ n = true ↔ Kno T seen false n := by
  refine ⟨h.sound n, fun hK => ?_⟩
  have hrow : ∀ m, kn σ m = true → row σ m = [] := fun m hm => by
    have := (kno_bd (h.sound m hm)).1
    rcases h.done m hm with h1 | h1 | h1
    · rw [hn] at h1; simp at h1
    · omega
    · exact h1
  have hout : ∀ d, out σ [] d → Knw σ (src T d) (bel d) → False := fun d hd hk => by
    rcases hd with ⟨m, j, hj, rfl⟩ | hd
    · obtain ⟨_, _, pre, h3, _⟩ := h.jobs m j hj
      have := hrow m (hk m (by rw [h3]; simp))
      rw [this] at hj
      simp at hj
    · simp at hd
  have hcB : ∀ n, (∀ k, ¬ out σ [] (.B n k)) → cB σ [] n = 0 := fun n hno => by
    have h2 : ∀ (W : List (List Jb)), (∀ m, ∀ j ∈ W.getD m [], fB n j = false) → cw (fB n) W = 0 := by
      intro W
      induction W with
      | nil => intro _; rfl
      | cons r W ih =>
        intro hW
        have e1 : r.countP (fB n) = 0 := List.countP_eq_zero.2 fun j hj => by
          have := hW 0 j (by simpa using hj)
          simp [this]
        have e2 := ih fun m j hj => hW (m + 1) j (by simpa using hj)
        simp only [cw, List.map_cons, List.sum_cons] at e2 ⊢
        omega
    unfold cB
    rw [h2 _ fun m j hj => ?_]
    · rfl
    · cases hf : fB n j with
      | false => rfl
      | true =>
        exfalso
        unfold fB at hf
        obtain ⟨k, hk⟩ := isB_iff.1 hf
        exact hno k (.inl ⟨m, j, hj, hk⟩)
  refine kno_least (K := fun n => kn σ n = true) (fun s hs i hi => h.saw s hs i hi) (fun m i h1 h2 h3 h4 h5 => ?_) (fun i h1 h2 h3 h4 => ?_) (fun i k h1 h2 h3 h4 h5 => ?_) hK
  · have hm := kno_bd (h.sound m h1)
    rcases h.opens m hm.1 (by omega) h2 h3 with h6 | ⟨_, h6 | h6⟩
    · exfalso
      refine hout _ h6 fun j hj => ?_
      have hj' : j ∈ nms (nm m) (m + 1) := hj
      rw [nms_self hm.1 (by omega)] at hj'
      obtain rfl : j = m := by simpa using hj'
      exact h1
    · exact absurd h4 (fun hk => hout _ h6 hk)
    · exact h6 i h5
  · have hno : ∀ k, ¬ out σ [] (.B i k) := fun k hk => by
      have hv : k < pn T i := by
        rcases hk with ⟨m, j, hj, hd⟩ | hk
        · obtain ⟨_, hv, _⟩ := h.jobs m j hj
          rw [hd] at hv
          exact hv.2.2.2
        · simp at hk
      exact hout _ hk (h4 k hv)
    obtain ⟨a, _⟩ := h.lefts i h1 (by omega) h3
    rw [hcB i hno] at a
    refine h.made i h1 (by omega) h3 ?_
    have : ini T i ≤ pn T i := by
      unfold ini
      split
      · omega
      · split <;> omega
    omega
  · rcases h.parts i h1 (by omega) (by omega) k h4 with h6 | ⟨_, h6⟩
    · exact absurd h5 (fun hk => hout _ h6 hk)
    · obtain ⟨a, _⟩ := h.lefts i h1 (by omega) (by omega)
      have e : ini T i = 1 := by unfold ini; rw [if_neg (by omega), if_pos h3]
      rw [e] at a
      exact h.made i h1 (by omega) (by omega) (by omega)
end
end Go.Proofs.Ytbhfjjlfpgineaa
