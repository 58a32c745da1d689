/- Plain mathematics of what is known: the document's rules; the search's state, and what each of its steps does. Conditions: none. -/
import Derived.Test.YtbhfjjlfpgineaaTab
namespace Go.Proofs.Ytbhfjjlfpgineaa

/-- The term number n; its kind; its part number i. -/
def tm (T : List Trm) (n : Nat) : Trm := T.getD (n - 1) (1, [])
def kd (T : List Trm) (n : Nat) : Nat := (tm T n).1
def pn (T : List Trm) (n : Nat) : Nat := (tm T n).2.length
def pt (T : List Trm) (n i : Nat) : List UInt8 := (tm T n).2.getD i []

/-- What is known: told (true: by the document's rules 1 and 2), or at all (false). -/
inductive Kno (T : List Trm) (seen : List (List UInt8)) : Bool → Nat → Prop
  | seen {s : List UInt8} {n : Nat} : s ∈ seen → n ∈ nms s (T.length + 1) → Kno T seen true n
  | opened {m n : Nat} : Kno T seen true m → kd T m = 8 → 2 ≤ pn T m → (∀ k ∈ nms (pt T m 0) m, Kno T seen false k) → n ∈ nms (pt T m 1) m → Kno T seen true n
  | told {n : Nat} : Kno T seen true n → Kno T seen false n
  | made {n : Nat} : 1 ≤ n → n ≤ T.length → 2 ≤ kd T n → (∀ i, i < pn T n → ∀ k ∈ nms (pt T n i) n, Kno T seen false k) → Kno T seen false n
  | shared {n i : Nat} : 1 ≤ n → n ≤ T.length → kd T n = 3 → i < pn T n → (∀ k ∈ nms (pt T n i) n, Kno T seen false k) → Kno T seen false n

theorem kd_out {T : List Trm} {n : Nat} (h : T.length < n) : kd T n = 1 := by
  unfold kd tm
  rw [List.getD_eq_getElem?_getD, List.getElem?_eq_none (by omega)]
  rfl
theorem kno_bd {T : List Trm} {seen : List (List UInt8)} {b : Bool} {n : Nat} (h : Kno T seen b n) : 1 ≤ n ∧ n ≤ T.length := by
  induction h with
  | seen _ h2 => have := nms_bd h2; omega
  | opened _ h2 _ _ h5 _ _ => have := nms_bd h5; omega
  | told _ ih => exact ih
  | made h1 h2 _ _ _ => exact ⟨h1, h2⟩
  | shared h1 h2 _ _ _ _ => exact ⟨h1, h2⟩
/-- What is sealed, and known in whatever way, is opened by its key. -/
theorem kno_open {T : List Trm} {seen : List (List UInt8)} {m n : Nat} (h : Kno T seen false m) (h8 : kd T m = 8) (h2 : 2 ≤ pn T m) (hk : ∀ k ∈ nms (pt T m 0) m, Kno T seen false k) (hn : n ∈ nms (pt T m 1) m) : Kno T seen false n := by
  cases h with
  | told h => exact .told (.opened h h8 h2 hk hn)
  | made _ _ _ h4 => exact h4 1 (by omega) n hn
  | shared _ _ h3 _ _ => omega
theorem kno_more {T : List Trm} {seen seen' : List (List UInt8)} (hs : ∀ s ∈ seen, s ∈ seen') {b : Bool} {n : Nat} (h : Kno T seen b n) : Kno T seen' b n := by
  induction h with
  | seen h1 h2 => exact .seen (hs _ h1) h2
  | opened _ h2 h3 _ h5 ih1 ih2 => exact .opened ih1 h2 h3 ih2 h5
  | told _ ih => exact .told ih
  | made h1 h2 h3 _ ih => exact .made h1 h2 h3 ih
  | shared h1 h2 h3 h4 _ ih => exact .shared h1 h2 h3 h4 ih
/-- A set that holds what was seen, and that the rules don't leave, holds all that is known. -/
theorem kno_least {T : List Trm} {seen : List (List UInt8)} {K : Nat → Prop} (h1 : ∀ s ∈ seen, ∀ n ∈ nms s (T.length + 1), K n)
    (h2 : ∀ m n, K m → kd T m = 8 → 2 ≤ pn T m → (∀ k ∈ nms (pt T m 0) m, K k) → n ∈ nms (pt T m 1) m → K n)
    (h3 : ∀ n, 1 ≤ n → n ≤ T.length → 2 ≤ kd T n → (∀ i, i < pn T n → ∀ k ∈ nms (pt T n i) n, K k) → K n)
    (h4 : ∀ n i, 1 ≤ n → n ≤ T.length → kd T n = 3 → i < pn T n → (∀ k ∈ nms (pt T n i) n, K k) → K n) {b : Bool} {n : Nat} (h : Kno T seen b n) : K n := by
  induction h with
  | seen a b => exact h1 _ a _ b
  | opened _ a b _ c ih1 ih2 => exact h2 _ _ ih1 a b ih2 c
  | told _ ih => exact ih
  | made a b c _ ih => exact h3 _ a b c ih
  | shared a b c d _ ih => exact h4 _ _ a b c d ih
/-- To see what is known adds nothing. -/
theorem kno_idle {T : List Trm} {seen : List (List UInt8)} {s : List UInt8} (hs : ∀ k ∈ nms s (T.length + 1), Kno T seen false k) {n : Nat} (h : Kno T (seen ++ [s]) false n) : Kno T seen false n := by
  refine kno_least (K := fun n => Kno T seen false n) ?_ (fun m n => kno_open) (fun n a b c d => .made a b c d) (fun n i a b c d e => .shared a b c d e) h
  intro s' h' n hn
  rcases List.mem_append.1 h' with h' | h'
  · exact .told (.seen h' hn)
  · obtain rfl : s' = s := by simpa using h'
    exact hs n hn

/-- What is to be done as soon as a list of bytes is known: a part of the term number n is; it is known itself; its key is. -/
inductive Do where
  | B (n k : Nat)
  | O (n : Nat)
  | L (n : Nat)
deriving DecidableEq
/-- .. and waits: what is left of the bytes, their limit. -/
structure Jb where
  rest : List UInt8
  below : Nat
  d : Do
/-- A search under way. -/
structure Sch where
  names : List Bool
  news : List Nat
  wait : List (List Jb)
  left : Nat → Int
def kn (σ : Sch) (n : Nat) : Bool := σ.names.getD n false
def row (σ : Sch) (m : Nat) : List Jb := σ.wait.getD m []
def addS (σ : Sch) (n : Nat) : Sch := if kn σ n = true then σ else { σ with names := σ.names.set n true, news := σ.news ++ [n] }
def parkS (σ : Sch) (m : Nat) (j : Jb) : Sch := { σ with wait := σ.wait.set m (row σ m ++ [j]) }
def setL (σ : Sch) (n : Nat) (z : Int) : Sch := { σ with left := fun i => if i = n then z else σ.left i }
/-- The first name in b that isn't known, and what stands behind it. -/
def ms (K : Nat → Bool) (b : List UInt8) (below : Nat) : Nat × List UInt8 :=
  if _h : 0 < (nx b below).1 then (if K (nx b below).1 = true then ms K (nx b below).2 below else nx b below) else (0, [])
termination_by b.length
decreasing_by
  rcases nx_spec b below with ⟨_, _, h3⟩ | h1
  · omega
  · rw [h1] at _h; simp at _h
theorem ms_none (K : Nat → Bool) (b : List UInt8) (below : Nat) (h : (nx b below).1 = 0) : ms K b below = (0, []) := by rw [ms, dif_neg (by omega)]
theorem ms_known (K : Nat → Bool) (b : List UInt8) (below : Nat) (h : 0 < (nx b below).1) (hk : K (nx b below).1 = true) : ms K b below = ms K (nx b below).2 below := by rw [ms, dif_pos h, if_pos hk]
theorem ms_not (K : Nat → Bool) (b : List UInt8) (below : Nat) (h : 0 < (nx b below).1) (hk : K (nx b below).1 = false) : ms K b below = nx b below := by rw [ms, dif_pos h, if_neg (by simp [hk])]
theorem ms_spec (K : Nat → Bool) (below : Nat) : ∀ (f : Nat) (b : List UInt8), b.length ≤ f →
    (ms K b below = (0, []) ∧ ∀ k ∈ nms b below, K k = true) ∨ (0 < (ms K b below).1 ∧ (ms K b below).1 < below ∧ K (ms K b below).1 = false ∧ (ms K b below).2.length ≤ b.length ∧
      ∃ pre, nms b below = pre ++ (ms K b below).1 :: nms (ms K b below).2 below ∧ ∀ k ∈ pre, K k = true) := by
  intro f
  induction f with
  | zero =>
    intro b hb
    have : nx b below = (0, []) := by
      rcases nx_spec b below with ⟨_, _, h3⟩ | h1
      · omega
      · exact h1
    left
    exact ⟨ms_none K b below (by rw [this]), by rw [nms_none b below (by rw [this])]; simp⟩
  | succ f ih =>
    intro b hb
    rcases nx_spec b below with ⟨h1, h2, h3⟩ | h1
    · cases hk : K (nx b below).1 with
      | true =>
        rw [ms_known K b below h1 hk, nms_more b below h1]
        rcases ih (nx b below).2 (by omega) with ⟨e1, e2⟩ | ⟨e1, e2, e3, e4, pre, e5, e6⟩
        · left
          refine ⟨e1, fun k hk' => ?_⟩
          rcases List.mem_cons.1 hk' with rfl | hk'
          · exact hk
          · exact e2 k hk'
        · right
          refine ⟨e1, e2, e3, by omega, (nx b below).1 :: pre, by rw [e5]; rfl, fun k hk' => ?_⟩
          rcases List.mem_cons.1 hk' with rfl | hk'
          · exact hk
          · exact e6 k hk'
      | false =>
        right
        rw [ms_not K b below h1 hk, nms_more b below h1]
        exact ⟨h1, h2, hk, by omega, [], rfl, by simp⟩
    · left
      exact ⟨ms_none K b below (by rw [h1]), by rw [nms_none b below (by rw [h1])]; simp⟩
theorem ms_zero {K : Nat → Bool} {b : List UInt8} {below : Nat} (h : (ms K b below).1 = 0) : ms K b below = (0, []) ∧ ∀ k ∈ nms b below, K k = true := by
  rcases ms_spec K below _ b (Nat.le_refl _) with h1 | ⟨h1, _⟩
  · exact h1
  · omega
theorem ms_some {K : Nat → Bool} {b : List UInt8} {below : Nat} (h : 0 < (ms K b below).1) : (ms K b below).1 < below ∧ K (ms K b below).1 = false ∧ (ms K b below).2.length ≤ b.length ∧
      ∃ pre, nms b below = pre ++ (ms K b below).1 :: nms (ms K b below).2 below ∧ ∀ k ∈ pre, K k = true := by
  rcases ms_spec K below _ b (Nat.le_refl _) with ⟨h1, _⟩ | ⟨_, h2⟩
  · rw [h1] at h; simp at h
  · exact h2
theorem ms_iff {K : Nat → Bool} {b : List UInt8} {below : Nat} : (ms K b below).1 = 0 ↔ ∀ k ∈ nms b below, K k = true := by
  constructor
  · exact fun h => (ms_zero h).2
  · intro h
    rcases Nat.eq_zero_or_pos (ms K b below).1 with h0 | h0
    · exact h0
    · obtain ⟨_, h2, _, pre, h4, _⟩ := ms_some h0
      have := h (ms K b below).1 (by rw [h4]; simp)
      rw [h2] at this
      cases this

def runB (σ : Sch) (n : Nat) : Sch := if σ.left n - 1 = 0 then addS (setL σ n (σ.left n - 1)) n else setL σ n (σ.left n - 1)
def runL (T : List Trm) (σ : Sch) (n : Nat) : Sch := (nms (pt T n 1) n).foldl addS σ
def awaitS (run : Sch → Sch) (σ : Sch) (b : List UInt8) (below : Nat) (d : Do) : Sch :=
  if (ms (kn σ) b below).1 = 0 then run σ else parkS σ (ms (kn σ) b below).1 ⟨(ms (kn σ) b below).2, below, d⟩
def runO (T : List Trm) (σ : Sch) (n : Nat) : Sch := awaitS (fun σ => runL T σ n) σ (pt T n 0) n (.L n)
def runD (T : List Trm) (σ : Sch) : Do → Sch
  | .B n _ => runB σ n
  | .O n => runO T σ n
  | .L n => runL T σ n
def runJ (T : List Trm) (σ : Sch) (j : Jb) : Sch := awaitS (fun σ => runD T σ j.d) σ j.rest j.below j.d
end Go.Proofs.Ytbhfjjlfpgineaa
