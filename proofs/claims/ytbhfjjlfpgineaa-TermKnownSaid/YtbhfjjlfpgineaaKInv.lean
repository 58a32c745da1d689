/- What holds of a search under way, whatever it does next; what it knows at its end is what the document's rules say. Conditions: none. -/
import Derived.Test.YtbhfjjlfpgineaaKMath
namespace Go.Proofs.Ytbhfjjlfpgineaa

/-- The bytes that are waited for, their limit. -/
def src (T : List Trm) : Do → List UInt8
  | .B n k => pt T n k
  | .O n => nm n
  | .L n => pt T n 0
def bel : Do → Nat
  | .B n _ => n
  | .O n => n + 1
  | .L n => n
def isB (n : Nat) : Do → Bool
  | .B m _ => m == n
  | _ => false
theorem isB_iff {n : Nat} {d : Do} : isB n d = true ↔ ∃ k, d = .B n k := by
  cases d <;> simp [isB]
/-- How many that are told so are there. -/
def cw (f : Jb → Bool) (W : List (List Jb)) : Nat := (W.map fun l => l.countP f).sum
theorem cw_set (f : Jb → Bool) (l : List Jb) : ∀ (W : List (List Jb)) (m : Nat), m < W.length → cw f (W.set m l) + (W.getD m []).countP f = cw f W + l.countP f
  | [], m, h => by simp at h
  | r :: W, 0, _ => by simp [cw]; omega
  | r :: W, m + 1, h => by
    have ih := cw_set f l W m (by simpa using h)
    simp only [cw, List.set_cons_succ, List.map_cons, List.sum_cons, List.getD_cons_succ] at ih ⊢
    omega
theorem cw_pos (f : Jb → Bool) : ∀ (W : List (List Jb)) (m : Nat) (j : Jb), j ∈ W.getD m [] → f j = true → 1 ≤ cw f W
  | [], m, j, h, _ => by simp at h
  | r :: W, 0, j, h, hf => by
    have : 0 < r.countP f := List.countP_pos_iff.2 ⟨j, by simpa using h, hf⟩
    simp only [cw, List.map_cons, List.sum_cons]
    omega
  | r :: W, m + 1, j, h, hf => by
    have := cw_pos f W m j (by simpa using h) hf
    simp only [cw, List.map_cons, List.sum_cons] at this ⊢
    omega
def fB (n : Nat) (j : Jb) : Bool := isB n j.d
def cB (σ : Sch) (fl : List Do) (n : Nat) : Nat := cw (fB n) σ.wait + fl.countP (isB n)
def out (σ : Sch) (fl : List Do) (d : Do) : Prop := (∃ m, ∃ j ∈ row σ m, j.d = d) ∨ d ∈ fl
def Val (T : List Trm) (bb bo : Nat) (σ : Sch) : Do → Prop
  | .B n k => 1 ≤ n ∧ n < bb ∧ 2 ≤ kd T n ∧ k < pn T n
  | .O n => 1 ≤ n ∧ n < bo ∧ kd T n = 8 ∧ 2 ≤ pn T n
  | .L n => 1 ≤ n ∧ n < bo ∧ kd T n = 8 ∧ 2 ≤ pn T n ∧ kn σ n = true
def ini (T : List Trm) (n : Nat) : Int := if pn T n = 0 then 0 else if kd T n = 3 then 1 else pn T n
/-- All names in these bytes are known. -/
def Knw (σ : Sch) (b : List UInt8) (below : Nat) : Prop := ∀ i ∈ nms b below, kn σ i = true

structure Inv (T : List Trm) (seen sw : List (List UInt8)) (bb bo x : Nat) (fl : List Do) (σ : Sch) : Prop where
  len : σ.names.length = T.length + 1
  wlen : σ.wait.length = T.length + 1
  hbb : bb ≤ T.length + 1
  hbo : bo ≤ T.length + 1
  sound : ∀ n, kn σ n = true → Kno T seen false n
  saw : ∀ s ∈ sw, Knw σ s (T.length + 1)
  newsK : ∀ n ∈ σ.news, kn σ n = true
  jobs : ∀ m, ∀ j ∈ row σ m, j.below = bel j.d ∧ Val T bb bo σ j.d ∧ ∃ pre, nms (src T j.d) (bel j.d) = pre ++ m :: nms j.rest (bel j.d) ∧ ∀ k ∈ pre, kn σ k = true
  fly : ∀ d ∈ fl, Val T bb bo σ d
  done : ∀ m, kn σ m = true → m ∈ σ.news ∨ m = x ∨ row σ m = []
  lefts : ∀ n, 1 ≤ n → n < bb → 2 ≤ kd T n → σ.left n = ini T n - ((pn T n : Int) - cB σ fl n) ∧ cB σ fl n ≤ pn T n
  parts : ∀ n, 1 ≤ n → n < bb → 2 ≤ kd T n → ∀ k, k < pn T n → out σ fl (.B n k) ∨ (Knw σ (pt T n k) n ∧ cB σ fl n < pn T n)
  some_ : ∀ n, 1 ≤ n → n < bb → kd T n = 3 → cB σ fl n < pn T n → ∃ k, k < pn T n ∧ Knw σ (pt T n k) n
  made : ∀ n, 1 ≤ n → n < bb → 2 ≤ kd T n → σ.left n ≤ 0 → kn σ n = true
  opens : ∀ n, 1 ≤ n → n < bo → kd T n = 8 → 2 ≤ pn T n → out σ fl (.O n) ∨ (kn σ n = true ∧ (out σ fl (.L n) ∨ Knw σ (pt T n 1) n))

section
variable {T : List Trm} {seen sw : List (List UInt8)} {bb bo x : Nat} {fl : List Do} {σ : Sch}
theorem row_set (σ : Sch) (m : Nat) (l : List Jb) (h : m < σ.wait.length) (i : Nat) : row { σ with wait := σ.wait.set m l } i = if i = m then l else row σ i := by
  unfold row
  rw [List.getD_eq_getElem?_getD, List.getD_eq_getElem?_getD]
  by_cases e : i = m
  · subst e
    rw [if_pos rfl, List.getElem?_set_self h]
    rfl
  · rw [if_neg e, List.getElem?_set_ne (Ne.symm e)]
theorem kn_add (σ : Sch) (n : Nat) (h : n < σ.names.length) (i : Nat) : kn (addS σ n) i = (kn σ i || i == n) := by
  unfold addS
  by_cases hk : kn σ n = true
  · rw [if_pos hk]
    by_cases e : i = n
    · subst e; simp [hk]
    · simp [e]
  · rw [if_neg hk]
    show (σ.names.set n true).getD i false = _
    unfold kn
    rw [List.getD_eq_getElem?_getD, List.getD_eq_getElem?_getD]
    by_cases e : i = n
    · subst e
      rw [List.getElem?_set_self h]; simp
    · rw [List.getElem?_set_ne (Ne.symm e)]; simp [e]
theorem kn_up_add (σ : Sch) (n : Nat) {i : Nat} (h : kn σ i = true) : kn (addS σ n) i = true := by
  unfold addS
  split
  · exact h
  · show (σ.names.set n true).getD i false = true
    unfold kn at h
    rw [List.getD_eq_getElem?_getD] at h ⊢
    by_cases e : n = i
    · subst e
      rcases Nat.lt_or_ge n σ.names.length with h1 | h1
      · rw [List.getElem?_set_self h1]; rfl
      · rw [List.getElem?_eq_none h1] at h; cases h
    · rw [List.getElem?_set_ne e]; exact h
theorem row_add (σ : Sch) (n i : Nat) : row (addS σ n) i = row σ i := by
  unfold addS
  split <;> rfl
theorem left_add (σ : Sch) (n : Nat) : (addS σ n).left = σ.left := by
  unfold addS
  split <;> rfl
theorem wait_add (σ : Sch) (n : Nat) : (addS σ n).wait = σ.wait := by
  unfold addS
  split <;> rfl
theorem len_add (σ : Sch) (n : Nat) : (addS σ n).names.length = σ.names.length := by
  unfold addS
  split <;> simp
theorem Val.mono {σ' : Sch} {d : Do} (h : Val T bb bo σ d) (hk : ∀ i, kn σ i = true → kn σ' i = true) : Val T bb bo σ' d := by
  cases d with
  | B n k => exact h
  | O n => exact h
  | L n => exact ⟨h.1, h.2.1, h.2.2.1, h.2.2.2.1, hk n h.2.2.2.2⟩
theorem Knw.mono {σ' : Sch} {b : List UInt8} {n : Nat} (h : Knw σ b n) (hk : ∀ i, kn σ i = true → kn σ' i = true) : Knw σ' b n := fun i hi => hk i (h i hi)

/-- One more is known. -/
theorem Inv.add (h : Inv T seen sw bb bo x fl σ) {n : Nat} (hn : Kno T seen false n) : Inv T seen sw bb bo x fl (addS σ n) := by
  have hb := kno_bd hn
  have hlt : n < σ.names.length := by rw [h.len]; omega
  have hup : ∀ i, kn σ i = true → kn (addS σ n) i = true := fun i hi => by rw [kn_add σ n hlt, hi]; rfl
  have hcB : ∀ i, cB (addS σ n) fl i = cB σ fl i := fun i => by unfold cB; rw [wait_add]
  have hout : ∀ d, out (addS σ n) fl d ↔ out σ fl d := fun d => by unfold out; simp only [row_add]
  refine ⟨by rw [len_add]; exact h.len, by rw [wait_add]; exact h.wlen, h.hbb, h.hbo, fun i hi => ?_, fun s hs => (h.saw s hs).mono hup, fun i hi => ?_, fun m j hj => ?_, fun d hd => (h.fly d hd).mono hup, fun m hm => ?_, fun i h1 h2 h3 => ?_, fun i h1 h2 h3 k hk => ?_, fun i h1 h2 h3 h4 => ?_, fun i h1 h2 h3 h4 => ?_, fun i h1 h2 h3 h4 => ?_⟩
  · rw [kn_add σ n hlt] at hi
    by_cases e : i = n
    · rw [e]; exact hn
    · exact h.sound i (by simpa [e] using hi)
  · by_cases hk : kn σ n = true
    · have e : addS σ n = σ := by unfold addS; rw [if_pos hk]
      rw [e] at hi ⊢
      exact h.newsK i hi
    · have e : (addS σ n).news = σ.news ++ [n] := by unfold addS; rw [if_neg hk]
      rw [e] at hi
      rcases List.mem_append.1 hi with hi | hi
      · exact hup i (h.newsK i hi)
      · obtain rfl : i = n := by simpa using hi
        rw [kn_add σ i hlt]; simp
  · rw [row_add] at hj
    obtain ⟨h1, h2, pre, h3, h4⟩ := h.jobs m j hj
    exact ⟨h1, h2.mono hup, pre, h3, fun k hk => hup k (h4 k hk)⟩
  · rw [row_add]
    rw [kn_add σ n hlt] at hm
    by_cases hk : kn σ n = true
    · have e : addS σ n = σ := by unfold addS; rw [if_pos hk]
      rw [e]
      refine h.done m ?_
      by_cases e2 : m = n
      · rw [e2]; exact hk
      · simpa [e2] using hm
    · have e : (addS σ n).news = σ.news ++ [n] := by unfold addS; rw [if_neg hk]
      rw [e]
      by_cases e2 : m = n
      · left; rw [e2]; simp
      · rcases h.done m (by simpa [e2] using hm) with h1 | h1 | h1
        · left; simp [h1]
        · exact .inr (.inl h1)
        · exact .inr (.inr h1)
  · rw [left_add, hcB]; exact h.lefts i h1 h2 h3
  · rw [hout, hcB]
    rcases h.parts i h1 h2 h3 k hk with h4 | h4
    · exact .inl h4
    · exact .inr ⟨h4.1.mono hup, h4.2⟩
  · rw [hcB] at h4
    obtain ⟨k, a, b⟩ := h.some_ i h1 h2 h3 h4
    exact ⟨k, a, b.mono hup⟩
  · rw [left_add] at h4; exact hup i (h.made i h1 h2 h3 h4)
  · rw [hout, hout]
    rcases h.opens i h1 h2 h3 h4 with h5 | ⟨h5, h6⟩
    · exact .inl h5
    · refine .inr ⟨hup i h5, ?_⟩
      rcases h6 with h6 | h6
      · exact .inl h6
      · exact .inr (h6.mono hup)
theorem Inv.adds (h : Inv T seen sw bb bo x fl σ) : ∀ (l : List Nat), (∀ n ∈ l, Kno T seen false n) → Inv T seen sw bb bo x fl (l.foldl addS σ) ∧ (∀ i, kn σ i = true → kn (l.foldl addS σ) i = true) ∧ ∀ n ∈ l, kn (l.foldl addS σ) n = true := by
  intro l
  induction l generalizing σ with
  | nil => intro _; exact ⟨h, fun _ hi => hi, by simp⟩
  | cons a l ih =>
    intro hl
    have ha := hl a (by simp)
    have hb := kno_bd ha
    have hlt : a < σ.names.length := by rw [h.len]; omega
    obtain ⟨h1, h2, h3⟩ := ih (h.add ha) fun n hn => hl n (by simp [hn])
    refine ⟨h1, fun i hi => h2 i (by rw [kn_add σ a hlt, hi]; rfl), fun n hn => ?_⟩
    rcases List.mem_cons.1 hn with rfl | hn
    · exact h2 n (by rw [kn_add σ n hlt]; simp)
    · exact h3 n hn
end
end Go.Proofs.Ytbhfjjlfpgineaa
