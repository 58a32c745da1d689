/- Each step of a search keeps what holds of it; what it knows at its end. Conditions: none. -/
import Derived.Test.YtbhfjjlfpgineaaKInv
namespace Go.Proofs.Ytbhfjjlfpgineaa

section
variable {T : List Trm} {seen sw : List (List UInt8)} {bb bo x : Nat} {fl : List Do} {σ : Sch}
theorem row_lt {m : Nat} {j : Jb} (h : j ∈ row σ m) : m < σ.wait.length := by
  rcases Nat.lt_or_ge m σ.wait.length with h1 | h1
  · exact h1
  · unfold row at h
    rw [List.getD_eq_getElem?_getD, List.getElem?_eq_none h1] at h
    simp at h
theorem count_one (n : Nat) (d : Do) (l : List Do) : (d :: l).countP (isB n) = l.countP (isB n) + if isB n d = true then 1 else 0 := List.countP_cons
/-- The first job of the row that is under way is taken. -/
theorem Inv.pop (h : Inv T seen sw bb bo x fl σ) {j : Jb} {r : List Jb} (hr : row σ x = j :: r) (hx : kn σ x = true) :
    Inv T seen sw bb bo x (j.d :: fl) { σ with wait := σ.wait.set x r } ∧ j.below = bel j.d ∧ ∃ pre, nms (src T j.d) (bel j.d) = pre ++ nms j.rest (bel j.d) ∧ ∀ k ∈ pre, kn σ k = true := by
  have hj : j ∈ row σ x := by rw [hr]; simp
  have hlt := row_lt hj
  obtain ⟨hj1, hj2, pre, hj3, hj4⟩ := h.jobs x j hj
  have hrow := row_set σ x r hlt
  have hcB : ∀ n, cB { σ with wait := σ.wait.set x r } (j.d :: fl) n = cB σ fl n := fun n => by
    have h1 := cw_set (fB n) r σ.wait x hlt
    have h2 : σ.wait.getD x [] = j :: r := hr
    rw [h2, List.countP_cons] at h1
    unfold cB
    rw [count_one]
    show cw (fB n) (σ.wait.set x r) + _ = _
    unfold fB at h1 ⊢
    omega
  have hout : ∀ d, out σ fl d → out { σ with wait := σ.wait.set x r } (j.d :: fl) d := fun d hd => by
    rcases hd with ⟨m, i, hi, rfl⟩ | hd
    · by_cases e : m = x
      · subst e
        rw [hr] at hi
        rcases List.mem_cons.1 hi with rfl | hi
        · exact .inr (by simp)
        · exact .inl ⟨m, i, by rw [hrow, if_pos rfl]; exact hi, rfl⟩
      · exact .inl ⟨m, i, by rw [hrow, if_neg e]; exact hi, rfl⟩
    · exact .inr (by simp [hd])
  refine ⟨⟨h.len, by simp [h.wlen], h.hbb, h.hbo, h.sound, h.saw, h.newsK, fun m i hi => ?_, fun d hd => ?_, fun m hm => ?_, fun n h1 h2 h3 => ?_, fun n h1 h2 h3 k hk => ?_, fun n h1 h2 h3 h4 => ?_, h.made, fun n h1 h2 h3 h4 => ?_⟩, hj1, pre ++ [x], by rw [hj3]; simp, fun k hk => ?_⟩
  · rw [hrow] at hi
    by_cases e : m = x
    · subst e
      rw [if_pos rfl] at hi
      exact h.jobs m i (by rw [hr]; simp [hi])
    · rw [if_neg e] at hi
      exact h.jobs m i hi
  · rcases List.mem_cons.1 hd with rfl | hd
    · exact hj2
    · exact h.fly d hd
  · by_cases e : m = x
    · exact .inr (.inl e)
    · rw [hrow, if_neg e]
      exact h.done m hm
  · rw [hcB]; exact h.lefts n h1 h2 h3
  · rw [hcB]
    rcases h.parts n h1 h2 h3 k hk with h4 | h4
    · exact .inl (hout _ h4)
    · exact .inr h4
  · rw [hcB] at h4; exact h.some_ n h1 h2 h3 h4
  · rcases h.opens n h1 h2 h3 h4 with h5 | ⟨h5, h6⟩
    · exact .inl (hout _ h5)
    · refine .inr ⟨h5, ?_⟩
      rcases h6 with h6 | h6
      · exact .inl (hout _ h6)
      · exact .inr h6
  · rcases List.mem_append.1 hk with hk | hk
    · exact hj4 k hk
    · obtain rfl : k = x := by simpa using hk
      exact hx
/-- What isn't known yet is waited for. -/
theorem Inv.park {d : Do} (h : Inv T seen sw bb bo x (d :: fl) σ) {m : Nat} {rest : List UInt8} (hm : m < T.length + 1) (hk : kn σ m = false) (hp : ∃ pre, nms (src T d) (bel d) = pre ++ m :: nms rest (bel d) ∧ ∀ k ∈ pre, kn σ k = true) :
    Inv T seen sw bb bo x fl (parkS σ m ⟨rest, bel d, d⟩) := by
  have hlt : m < σ.wait.length := by rw [h.wlen]; exact hm
  have hrow := row_set σ m (row σ m ++ [⟨rest, bel d, d⟩]) hlt
  have hcB : ∀ n, cB (parkS σ m ⟨rest, bel d, d⟩) fl n = cB σ (d :: fl) n := fun n => by
    have h1 := cw_set (fB n) (row σ m ++ [⟨rest, bel d, d⟩]) σ.wait m hlt
    rw [List.countP_append] at h1
    have h2 : ([⟨rest, bel d, d⟩] : List Jb).countP (fB n) = if isB n d = true then 1 else 0 := by cases hd : isB n d <;> simp [fB, hd]
    have h3 : (σ.wait.getD m []).countP (fB n) = (row σ m).countP (fB n) := rfl
    unfold cB
    rw [count_one]
    show cw (fB n) (σ.wait.set m _) + _ = _
    omega
  have hout : ∀ e, out σ (d :: fl) e → out (parkS σ m ⟨rest, bel d, d⟩) fl e := fun e he => by
    rcases he with ⟨i, j, hj, rfl⟩ | he
    · refine .inl ⟨i, j, ?_, rfl⟩
      show j ∈ row { σ with wait := σ.wait.set m (row σ m ++ [⟨rest, bel d, d⟩]) } i
      rw [hrow]
      by_cases e : i = m
      · subst e; rw [if_pos rfl]; simp [hj]
      · rw [if_neg e]; exact hj
    · rcases List.mem_cons.1 he with rfl | he
      · refine .inl ⟨m, ⟨rest, bel e, e⟩, ?_, rfl⟩
        show _ ∈ row { σ with wait := σ.wait.set m (row σ m ++ [⟨rest, bel e, e⟩]) } m
        rw [hrow, if_pos rfl]; simp
      · exact .inr he
  refine ⟨h.len, by show (σ.wait.set m _).length = _; simp [h.wlen], h.hbb, h.hbo, h.sound, h.saw, h.newsK, fun i j hj => ?_, fun e he => h.fly e (by simp [he]), fun i hi => ?_, fun n h1 h2 h3 => ?_, fun n h1 h2 h3 k hk => ?_, fun n h1 h2 h3 h4 => ?_, h.made, fun n h1 h2 h3 h4 => ?_⟩
  · have hj' : j ∈ row { σ with wait := σ.wait.set m (row σ m ++ [⟨rest, bel d, d⟩]) } i := hj
    rw [hrow] at hj'
    by_cases e : i = m
    · subst e
      rw [if_pos rfl] at hj'
      rcases List.mem_append.1 hj' with hj' | hj'
      · exact h.jobs i j hj'
      · obtain rfl : j = ⟨rest, bel d, d⟩ := by simpa using hj'
        exact ⟨rfl, h.fly d (by simp), hp⟩
    · rw [if_neg e] at hj'
      exact h.jobs i j hj'
  · have hi' : kn σ i = true := hi
    have hne : i ≠ m := fun e => by rw [e, hk] at hi'; cases hi'
    have e : row (parkS σ m ⟨rest, bel d, d⟩) i = row σ i := by
      show row { σ with wait := σ.wait.set m (row σ m ++ [⟨rest, bel d, d⟩]) } i = _
      rw [hrow, if_neg hne]
    rw [e]
    exact h.done i hi'
  · rw [hcB]; exact h.lefts n h1 h2 h3
  · rw [hcB]
    rcases h.parts n h1 h2 h3 k hk with h4 | h4
    · exact .inl (hout _ h4)
    · exact .inr h4
  · rw [hcB] at h4; exact h.some_ n h1 h2 h3 h4
  · rcases h.opens n h1 h2 h3 h4 with h5 | ⟨h5, h6⟩
    · exact .inl (hout _ h5)
    · refine .inr ⟨h5, ?_⟩
      rcases h6 with h6 | h6
      · exact .inl (hout _ h6)
      · exact .inr h6
theorem bel_le {d : Do} (h : Val T bb bo σ d) (hb : bb ≤ T.length + 1) (ho : bo ≤ T.length + 1) : bel d ≤ T.length + 1 := by
  cases d with
  | B n k => have := h.2.1; show n ≤ _; omega
  | O n => have := h.2.1; show n + 1 ≤ _; omega
  | L n => have := h.2.1; show n ≤ _; omega
theorem Inv.await {d : Do} (h : Inv T seen sw bb bo x (d :: fl) σ) {b : List UInt8} (hp : ∃ pre, nms (src T d) (bel d) = pre ++ nms b (bel d) ∧ ∀ k ∈ pre, kn σ k = true) {run : Sch → Sch} (hrun : Knw σ (src T d) (bel d) → Inv T seen sw bb bo x fl (run σ)) :
    Inv T seen sw bb bo x fl (awaitS run σ b (bel d) d) := by
  obtain ⟨pre, hp1, hp2⟩ := hp
  unfold awaitS
  by_cases h0 : (ms (kn σ) b (bel d)).1 = 0
  · rw [if_pos h0]
    refine hrun fun i hi => ?_
    rw [hp1] at hi
    rcases List.mem_append.1 hi with hi | hi
    · exact hp2 i hi
    · exact (ms_zero h0).2 i hi
  · rw [if_neg h0]
    obtain ⟨h1, h2, _, pre', h4, h5⟩ := ms_some (K := kn σ) (b := b) (below := bel d) (by omega)
    have := bel_le (h.fly d (by simp)) h.hbb h.hbo
    refine h.park (by omega) h2 ⟨pre ++ pre', by rw [hp1, h4]; simp, fun k hk => ?_⟩
    rcases List.mem_append.1 hk with hk | hk
    · exact hp2 k hk
    · exact h5 k hk

theorem kn_setL (σ : Sch) (n : Nat) (z : Int) (i : Nat) : kn (setL σ n z) i = kn σ i := rfl
/-- A part is known: one less is missing. -/
theorem Inv.less {n k : Nat} (h : Inv T seen sw bb bo x (.B n k :: fl) σ) (hk : Knw σ (pt T n k) n) (hm : σ.left n - 1 ≤ 0 → kn σ n = true) : Inv T seen sw bb bo x fl (setL σ n (σ.left n - 1)) := by
  obtain ⟨v1, v2, v3, v4⟩ := h.fly (.B n k) (by simp)
  have hcn : cB σ (.B n k :: fl) n = cB σ fl n + 1 := by unfold cB; rw [count_one]; simp [isB]; omega
  have hco : ∀ i, i ≠ n → cB σ (.B n k :: fl) i = cB σ fl i := fun i hi => by unfold cB; rw [count_one]; simp [isB, Ne.symm hi]
  have hc : ∀ i, cB (setL σ n (σ.left n - 1)) fl i = cB σ fl i := fun i => rfl
  have hl : ∀ i, (setL σ n (σ.left n - 1)).left i = if i = n then σ.left n - 1 else σ.left i := fun i => rfl
  have hout : ∀ d, out (setL σ n (σ.left n - 1)) fl d ↔ out σ fl d := fun d => Iff.rfl
  have hsub : ∀ d, d ≠ .B n k → out σ (.B n k :: fl) d → out σ fl d := fun d hd ho => by
    rcases ho with ho | ho
    · exact .inl ho
    · rcases List.mem_cons.1 ho with ho | ho
      · exact absurd ho hd
      · exact .inr ho
  refine ⟨h.len, h.wlen, h.hbb, h.hbo, h.sound, h.saw, h.newsK, h.jobs, fun d hd => h.fly d (by simp [hd]), h.done, fun i h1 h2 h3 => ?_, fun i h1 h2 h3 j hj => ?_, fun i h1 h2 h3 h4 => ?_, fun i h1 h2 h3 h4 => ?_, fun i h1 h2 h3 h4 => ?_⟩
  · obtain ⟨a, b⟩ := h.lefts i h1 h2 h3
    rw [hc, hl]
    by_cases e : i = n
    · subst e
      rw [hcn] at a b
      rw [if_pos rfl]
      omega
    · rw [hco i e] at a b
      rw [if_neg e]
      exact ⟨a, b⟩
  · rw [hc, hout]
    by_cases e : i = n
    · subst e
      obtain ⟨a, b⟩ := h.lefts i h1 h2 h3
      rw [hcn] at b
      by_cases e2 : j = k
      · subst e2
        exact .inr ⟨hk, by omega⟩
      · rcases h.parts i h1 h2 h3 j hj with h4 | ⟨h4, h5⟩
        · exact .inl (hsub _ (by simpa using e2) h4)
        · exact .inr ⟨h4, by omega⟩
    · rcases h.parts i h1 h2 h3 j hj with h4 | ⟨h4, h5⟩
      · exact .inl (hsub _ (by simp [e]) h4)
      · rw [hco i e] at h5
        exact .inr ⟨h4, h5⟩
  · rw [hc] at h4
    by_cases e : i = n
    · subst e
      exact ⟨k, v4, hk⟩
    · rw [← hco i e] at h4
      exact h.some_ i h1 h2 h3 h4
  · rw [hl] at h4
    by_cases e : i = n
    · subst e
      rw [if_pos rfl] at h4
      exact hm h4
    · rw [if_neg e] at h4
      exact h.made i h1 h2 h3 h4
  · rcases h.opens i h1 h2 h3 h4 with h5 | ⟨h5, h6⟩
    · exact .inl (hsub _ (by simp) h5)
    · refine .inr ⟨h5, ?_⟩
      rcases h6 with h6 | h6
      · exact .inl (hsub _ (by simp) h6)
      · exact .inr h6
theorem setL_add (σ : Sch) (n : Nat) (z : Int) : addS (setL σ n z) n = setL (addS σ n) n z := by
  unfold addS
  have e : kn (setL σ n z) n = kn σ n := rfl
  rw [e]
  split <;> rfl
theorem cB_pos {n k : Nat} (h : out σ fl (.B n k)) : 1 ≤ cB σ fl n := by
  unfold cB
  rcases h with ⟨m, j, hj, hd⟩ | h
  · have := cw_pos (fB n) σ.wait m j hj (by unfold fB; rw [hd]; simp [isB])
    omega
  · have : 0 < fl.countP (isB n) := List.countP_pos_iff.2 ⟨_, h, by simp [isB]⟩
    omega
theorem Inv.runB {n k : Nat} (h : Inv T seen sw bb bo x (.B n k :: fl) σ) (hk : Knw σ (pt T n k) n) : Inv T seen sw bb bo x fl (runB σ n) := by
  obtain ⟨v1, v2, v3, v4⟩ := h.fly (.B n k) (by simp)
  unfold Ytbhfjjlfpgineaa.runB
  by_cases h0 : σ.left n - 1 = 0
  · rw [if_pos h0, setL_add]
    have hK : Kno T seen false n := by
      obtain ⟨a, b⟩ := h.lefts n v1 v2 v3
      have hcn : cB σ (.B n k :: fl) n = cB σ fl n + 1 := by unfold cB; rw [count_one]; simp [isB]; omega
      have hn : n ≤ T.length := by have := h.hbb; omega
      have hk' : ∀ i ∈ nms (pt T n k) n, Kno T seen false i := fun i hi => h.sound i (hk i hi)
      by_cases h3 : kd T n = 3
      · exact .shared v1 hn h3 v4 hk'
      · have hi : ini T n = pn T n := by unfold ini; rw [if_neg (by omega), if_neg h3]
        rw [hi, hcn] at a
        have hc0 : cB σ fl n = 0 := by omega
        refine .made v1 hn v3 fun i hi' => ?_
        by_cases e : i = k
        · subst e; exact hk'
        · rcases h.parts n v1 v2 v3 i hi' with h4 | ⟨h4, _⟩
          · exfalso
            have h5 : out σ fl (.B n i) := by
              rcases h4 with h4 | h4
              · exact .inl h4
              · rcases List.mem_cons.1 h4 with h4 | h4
                · injection h4 with _ h4; exact absurd h4 e
                · exact .inr h4
            have := cB_pos h5
            omega
          · exact fun j hj => h.sound j (h4 j hj)
    have h1 := h.add hK
    have hlt : n < σ.names.length := by rw [h.len]; have := kno_bd hK; omega
    have e : σ.left n = (addS σ n).left n := by rw [left_add]
    rw [e]
    exact h1.less (hk.mono fun i hi => by rw [kn_add σ n hlt, hi]; rfl) fun _ => by rw [kn_add σ n hlt]; simp
  · rw [if_neg h0]
    exact h.less hk fun hle => h.made n v1 v2 v3 (by omega)
theorem Inv.runL {n : Nat} (h : Inv T seen sw bb bo x (.L n :: fl) σ) (hk : Knw σ (pt T n 0) n) : Inv T seen sw bb bo x fl (runL T σ n) := by
  obtain ⟨v1, v2, v3, v4, v5⟩ := h.fly (.L n) (by simp)
  have hK : ∀ i ∈ nms (pt T n 1) n, Kno T seen false i := fun i hi => kno_open (h.sound n v5) v3 v4 (fun j hj => h.sound j (hk j hj)) hi
  obtain ⟨h1, h2, h3⟩ := h.adds _ hK
  have hk1 : Knw (Ytbhfjjlfpgineaa.runL T σ n) (pt T n 1) n := h3
  have hn := h2 n v5
  unfold Ytbhfjjlfpgineaa.runL at hk1 ⊢
  generalize List.foldl addS σ (nms (pt T n 1) n) = τ at h1 h2 h3 hk1 hn ⊢
  have hsub : ∀ d, d ≠ .L n → out τ (.L n :: fl) d → out τ fl d := fun d hd ho => by
    rcases ho with ho | ho
    · exact .inl ho
    · rcases List.mem_cons.1 ho with ho | ho
      · exact absurd ho hd
      · exact .inr ho
  have hcB : ∀ i, cB τ (.L n :: fl) i = cB τ fl i := fun i => by unfold cB; rw [count_one]; simp [isB]
  refine ⟨h1.len, h1.wlen, h1.hbb, h1.hbo, h1.sound, h1.saw, h1.newsK, h1.jobs, fun d hd => h1.fly d (by simp [hd]), h1.done, fun i a b c => ?_, fun i a b c j hj => ?_, fun i a b c e => ?_, h1.made, fun i a b c e => ?_⟩
  · rw [← hcB]; exact h1.lefts i a b c
  · rw [← hcB]
    rcases h1.parts i a b c j hj with h4 | h4
    · exact .inl (hsub _ (by simp) h4)
    · exact .inr h4
  · rw [← hcB] at e; exact h1.some_ i a b c e
  · rcases h1.opens i a b c e with h5 | ⟨h5, h6⟩
    · exact .inl (hsub _ (by simp) h5)
    · refine .inr ⟨h5, ?_⟩
      by_cases ei : i = n
      · subst ei; exact .inr hk1
      · rcases h6 with h6 | h6
        · exact .inl (hsub _ (by simpa using ei) h6)
        · exact .inr h6
theorem Inv.runO {n : Nat} (h : Inv T seen sw bb bo x (.O n :: fl) σ) (hk : kn σ n = true) : Inv T seen sw bb bo x fl (runO T σ n) := by
  obtain ⟨v1, v2, v3, v4⟩ := h.fly (.O n) (by simp)
  have hsub : ∀ d, d ≠ .O n → out σ (.O n :: fl) d → out σ (.L n :: fl) d := fun d hd ho => by
    rcases ho with ho | ho
    · exact .inl ho
    · rcases List.mem_cons.1 ho with ho | ho
      · exact absurd ho hd
      · exact .inr (by simp [ho])
  have hcB : ∀ i, cB σ (.L n :: fl) i = cB σ (.O n :: fl) i := fun i => by unfold cB; rw [count_one, count_one]; simp [isB]
  have h' : Inv T seen sw bb bo x (.L n :: fl) σ := by
    refine ⟨h.len, h.wlen, h.hbb, h.hbo, h.sound, h.saw, h.newsK, h.jobs, fun d hd => ?_, h.done, fun i a b c => ?_, fun i a b c j hj => ?_, fun i a b c e => ?_, h.made, fun i a b c e => ?_⟩
    · rcases List.mem_cons.1 hd with rfl | hd
      · exact ⟨v1, v2, v3, v4, hk⟩
      · exact h.fly d (by simp [hd])
    · rw [hcB]; exact h.lefts i a b c
    · rw [hcB]
      rcases h.parts i a b c j hj with h4 | h4
      · exact .inl (hsub _ (by simp) h4)
      · exact .inr h4
    · rw [hcB] at e; exact h.some_ i a b c e
    · by_cases ei : i = n
      · subst ei
        exact .inr ⟨hk, .inl (.inr (by simp))⟩
      · rcases h.opens i a b c e with h5 | ⟨h5, h6⟩
        · exact .inl (hsub _ (by simpa using ei) h5)
        · refine .inr ⟨h5, ?_⟩
          rcases h6 with h6 | h6
          · exact .inl (hsub _ (by simp) h6)
          · exact .inr h6
  exact h'.await (b := pt T n 0) ⟨[], rfl, by simp⟩ fun hk' => h'.runL hk'
theorem nms_self {n : Nat} (h : 1 ≤ n) (h32 : n < 4294967296) : nms (nm n) (n + 1) = [n] := by
  have := nms_nm n (n + 1) [] (by omega) (by omega) h32
  rw [List.append_nil] at this
  rw [this, nms_short [] (n + 1) (by simp)]
theorem Inv.runD {d : Do} (hT : T.length ≤ 65535) (h : Inv T seen sw bb bo x (d :: fl) σ) (hk : Knw σ (src T d) (bel d)) : Inv T seen sw bb bo x fl (runD T σ d) := by
  cases d with
  | B n k => exact h.runB hk
  | O n =>
    obtain ⟨v1, v2, _⟩ := h.fly (.O n) (by simp)
    have := h.hbo
    refine h.runO (hk n ?_)
    show n ∈ nms (nm n) (n + 1)
    rw [nms_self v1 (by omega)]; simp
  | L n => exact h.runL hk
/-- The first job of the row under way is done. -/
theorem Inv.runJ (hT : T.length ≤ 65535) (h : Inv T seen sw bb bo x fl σ) {j : Jb} {r : List Jb} (hr : row σ x = j :: r) (hx : kn σ x = true) : Inv T seen sw bb bo x fl (runJ T { σ with wait := σ.wait.set x r } j) := by
  obtain ⟨h1, h2, h3⟩ := h.pop hr hx
  unfold Ytbhfjjlfpgineaa.runJ
  rw [h2]
  exact h1.await h3 fun hk => h1.runD hT hk
end
end Go.Proofs.Ytbhfjjlfpgineaa
