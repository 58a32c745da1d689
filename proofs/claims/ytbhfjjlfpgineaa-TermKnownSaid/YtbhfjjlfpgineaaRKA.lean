/- The reference's All: are all names in bytes known? Conditions: at most 65535 terms. And the plain mathematics of its Known: its two lists under way. Conditions: none. -/
import Derived.Test.YtbhfjjlfpgineaaROf
namespace Go.Proofs.Ytbhfjjlfpgineaa
open Go.RowKit

/-- Block g is a list of Booleans. -/
def Bol (w : World) (g : Nat) (xs : List Bool) : Prop := w.heap[g]? = some (.cells (xs.map Value.bool).toArray 4 (0, 0))
def at_ (xs : List Bool) (n : Nat) : Bool := xs.getD n false
section
variable {w w' : World} {g : Nat} {xs : List Bool}
theorem Bol.lt (h : Bol w g xs) : g < w.heap.size := (Array.getElem?_eq_some_iff.1 h).1
theorem Bol.up (h : Bol w g xs) (hb : Below w.heap.size w w') : Bol w' g xs := (hb.block g h.lt).trans h
theorem Bol.cell (h : Bol w g xs) {n : Nat} (hn : n < xs.length) : w.cell? ⟨g, n, none⟩ = some (.bool (at_ xs n)) := by
  rw [cell_of_block h]
  simp [at_, hn]
end
theorem all_end {ns : List Nat} {f : Nat → Bool} (h : ∀ j (hj : j < ns.length), f ns[j] = true) : ns.all f = true := by
  rw [List.all_eq_true]
  intro x hx
  obtain ⟨j, hj, rfl⟩ := List.getElem_of_mem hx
  exact h j hj
theorem all_not {ns : List Nat} {f : Nat → Bool} {j : Nat} (hj : j < ns.length) (h : f ns[j] = false) : ns.all f = false := by
  rw [Bool.eq_false_iff]
  intro h2
  rw [List.all_eq_true.1 h2 _ (List.getElem_mem hj)] at h
  cases h

set_option maxRecDepth 100000 in
set_option maxHeartbeats 4000000 in
theorem rall_any {w : World} {ok : Nat → Prop} {kg ck N n c m : Nat} {ks : List Bool} {A : Option Addr} {b : List UInt8} (hk : Bol w kg ks) (hkl : ks.length = N + 1) (hN : N ≤ 65535) (hmN : m ≤ N) (hn : b.length = n) (hx : Byt w ok A b) (hok : ∀ g, ok g → g < w.heap.size) (hc : n ≤ c) (hl : n ≤ 100000000) :
    Calls Try.prog 36 #[.slice (some ⟨kg, 0, none⟩) (N + 1) ck, .slice A n c, .int .i64 (m : Int)] w fun e w' => e = .returned (.bool ((nms b (m + 1)).all (at_ ks))) ∧ Below w.heap.size w w' := by
  have HRI := Lib.hid (rin_any (c := c) (N := m) hn hx hok hc hl (by omega))
  have HK := Lib.hid hk
  have HKL := Lib.hid hkl
  have HBL := Lib.hid hn
  clear hk hkl hn hx hok
  go_enter Try.func36, Try.ntmps36
  go_wp2_with fail
  go_at_call 16
  refine HRI.out.mono ?_
  intro e w1 h1
  obtain ⟨A1, n1, c1, rfl, hl1, q1, q2, hc1, hb1⟩ := inE_n h1
  have HB1 := Lib.hid hb1
  have HK1 := Lib.hid (HK.out.up hb1)
  have hnm : n1 ≤ 100000000 := by have := nms_length (m + 1) _ b (Nat.le_refl _); have e1 := hl1.out; have e2 := HBL.out; omega
  clear h1 hb1 HRI
  go_wp2_with fail
  go_loopg [8] n1 (fun G p wr => ∃ i : Nat, p = .int .i64 i ∧ i ≤ n1 ∧ n1 - i ≤ G ∧ Hid (wr = w1) ∧ Hid (∀ j (hj : j < (nms b (m + 1)).length), j < i → at_ ks (nms b (m + 1))[j] = true))
  case atStart => exact ⟨0, rfl, by omega, by omega, rfl, fun j hj h => absurd h (by omega)⟩
  case round =>
    obtain ⟨i, rfl, hin, hgk, hw, hall⟩ := hrel
    have hw' : wr = w1 := hw.out
    subst hw'
    have HGK := Lib.hid hgk
    clear hgk hw
    rcases Nat.lt_or_ge i n1 with hlt | hge
    · have hil : i < (nms b (m + 1)).length := by rw [hl1.out]; exact hlt
      obtain ⟨g1, rfl, _, hci⟩ := hc1.out i hil
      obtain ⟨k, hk⟩ : ∃ k, (nms b (m + 1))[i] = k := ⟨_, rfl⟩
      have hkb := nms_bd (b := b) (below := m + 1) (n := k) (by rw [← hk]; exact List.getElem_mem _)
      rw [hk] at hci
      have hck := HK1.out.cell (n := k) (by rw [HKL.out]; omega)
      obtain ⟨bk, hbk⟩ : ∃ bk, at_ ks k = bk := ⟨_, rfl⟩
      rw [hbk] at hck
      have HIL := Lib.hid hil
      have HBK : Hid (∀ hj : i < (nms b (m + 1)).length, at_ ks ((nms b (m + 1))[i]'hj) = bk) := fun hj => by rw [hk]; exact hbk
      have z1 : (0 : Int) ≤ (k : Int) := by omega
      have z2 : (k : Int) < (N : Int) + 1 := by omega
      have z3 : (i : Int) + 1 ≤ 100000001 := by omega
      clear hk hkb hbk hil
      cases bk with
      | true =>
        have HA : Hid (∀ j (hj : j < (nms b (m + 1)).length), j < i + 1 → at_ ks (nms b (m + 1))[j] = true) := fun j hj h => by
          by_cases e : j = i
          · subst e; exact HBK.out hj
          · exact hall.out j hj (by omega)
        go_wp2_with fail
        go_roundg (n1 - (i + 1))
        case measure => have := HGK.out; omega
        case rel => exact ⟨i + 1, by go_num, by omega, Nat.le_refl _, rfl, HA.out⟩
      | false =>
        have HE := Lib.hid (all_not (f := at_ ks) HIL.out (HBK.out _))
        go_wp2_with fail
        go_ret
        exact ⟨bool_end HE.out.symm, HB1.out⟩
    · obtain rfl : i = n1 := by omega
      have HE := Lib.hid (all_end (f := at_ ks) fun j hj => hall.out j hj (by rw [hl1.out] at hj; exact hj))
      have d0 : ¬ ((i : Int) < (i : Int)) := by omega
      go_wp2_with fail
      go_ret
      exact ⟨bool_end HE.out.symm, HB1.out⟩
def cnt (xs : List Bool) : Nat := xs.countP (fun b => !b)
theorem at_set {xs : List Bool} {n m : Nat} (hn : n < xs.length) : at_ (xs.set n true) m = (if m = n then true else at_ xs m) := by
  unfold at_
  rw [List.getD_eq_getElem?_getD, List.getD_eq_getElem?_getD, List.getElem?_set]
  by_cases e : n = m
  · subst e
    simp [hn]
  · rw [if_neg e, if_neg (fun h => e h.symm)]
theorem at_out {xs : List Bool} {n : Nat} (h : at_ xs n = true) : n < xs.length := by
  unfold at_ at h
  rw [List.getD_eq_getElem?_getD] at h
  by_cases hn : n < xs.length
  · exact hn
  · rw [List.getElem?_eq_none (by omega)] at h
    cases h
theorem cnt_set : ∀ (xs : List Bool) (n : Nat), n < xs.length → at_ xs n = false → cnt (xs.set n true) + 1 = cnt xs
  | [], n, h, _ => by simp at h
  | x :: xs, 0, _, h => by
    have hx : x = false := h
    subst hx
    simp [cnt]
  | x :: xs, n + 1, h, ha => by
    have ih := cnt_set xs n (by simpa using h) ha
    simp only [List.set_cons_succ, cnt, List.countP_cons] at ih ⊢
    omega
theorem cnt_le (xs : List Bool) : cnt xs ≤ xs.length := List.countP_le_length
/-- Names taken as told. -/
def setAll (td : List Bool) (ns : List Nat) : List Bool := ns.foldl (fun t n => t.set n true) td
theorem setAll_length (td : List Bool) : ∀ ns, (setAll td ns).length = td.length := by
  intro ns
  unfold setAll
  induction ns generalizing td with
  | nil => rfl
  | cons n ns ih => rw [List.foldl_cons, ih, List.length_set]
theorem setAll_snoc (td : List Bool) (ns : List Nat) (n : Nat) : setAll td (ns ++ [n]) = (setAll td ns).set n true := by simp [setAll]
theorem setAll_app (td : List Bool) (ns ms : List Nat) : setAll td (ns ++ ms) = setAll (setAll td ns) ms := by simp [setAll]
theorem setAll_at (td : List Bool) (m : Nat) : ∀ (ns : List Nat), (∀ n ∈ ns, n < td.length) → (at_ (setAll td ns) m = true ↔ at_ td m = true ∨ m ∈ ns) := by
  intro ns
  induction ns generalizing td with
  | nil => intro _; simp [setAll]
  | cons n ns ih =>
    intro h
    have e : setAll td (n :: ns) = setAll (td.set n true) ns := rfl
    rw [e, ih (td.set n true) (fun k hk => by rw [List.length_set]; exact h k (by simp [hk])), at_set (h n (by simp))]
    by_cases em : m = n
    · simp [em]
    · simp [em]

section
variable {T : List Trm} {seen : List (List UInt8)} {c0 : Nat} {td kn : List Bool} {mr : Bool} {j : Nat}
/-- The rules don't leave the lists at that number. -/
structure Clo (T : List Trm) (td kn : List Bool) (n : Nat) : Prop where
  told : at_ td n = true → at_ kn n = true
  made : 2 ≤ kd T n → (∀ i, i < pn T n → (nms (pt T n i) n).all (at_ kn) = true) → at_ kn n = true
  shared : kd T n = 3 → ∀ i, i < pn T n → (nms (pt T n i) n).all (at_ kn) = true → at_ kn n = true
  opened : kd T n = 8 → at_ td n = true → 2 ≤ pn T n → (nms (pt T n 0) n).all (at_ kn) = true → ∀ k ∈ nms (pt T n 1) n, at_ td k = true
/-- The lists under way. -/
structure DI (T : List Trm) (seen : List (List UInt8)) (c0 : Nat) (td kn : List Bool) (mr : Bool) (j : Nat) : Prop where
  tl : td.length = T.length + 1
  kl : kn.length = T.length + 1
  s1 : ∀ m, at_ td m = true → Kno T seen true m
  s2 : ∀ m, at_ kn m = true → Kno T seen false m
  sn : ∀ s ∈ seen, ∀ n ∈ nms s (T.length + 1), at_ td n = true
  ct : cnt td + cnt kn ≤ c0
  cm : mr = true → cnt td + cnt kn < c0
  cl : mr = false → ∀ n, 1 ≤ n → n ≤ j → Clo T td kn n
theorem DI.known (h : DI T seen c0 td kn mr j) {n : Nat} (hn : n ≤ T.length) (hk : Kno T seen false n) (h0 : at_ kn n = false) : DI T seen c0 td (kn.set n true) true j := by
  have hl : n < kn.length := by rw [h.kl]; omega
  have hc := cnt_set kn n hl h0
  refine ⟨h.tl, by rw [List.length_set]; exact h.kl, h.s1, fun m hm => ?_, h.sn, ?_, fun _ => ?_, fun e => by cases e⟩
  · rw [at_set hl] at hm
    split at hm
    · rename_i e; subst e; exact hk
    · exact h.s2 m hm
  · have := h.ct; omega
  · have := h.ct; omega
theorem DI.tell (h : DI T seen c0 td kn mr j) {n : Nat} (hn : n ≤ T.length) (hk : Kno T seen true n) (h0 : at_ td n = false) : DI T seen c0 (td.set n true) kn true j := by
  have hl : n < td.length := by rw [h.tl]; omega
  have hc := cnt_set td n hl h0
  refine ⟨by rw [List.length_set]; exact h.tl, h.kl, fun m hm => ?_, h.s2, fun s hs k hk' => ?_, ?_, fun _ => ?_, fun e => by cases e⟩
  · rw [at_set hl] at hm
    split at hm
    · rename_i e; subst e; exact hk
    · exact h.s1 m hm
  · rw [at_set hl]
    split
    · rfl
    · exact h.sn s hs k hk'
  · have := h.ct; omega
  · have := h.ct; omega
theorem DI.next (h : DI T seen c0 td kn mr j) (hc : mr = false → Clo T td kn (j + 1)) : DI T seen c0 td kn mr (j + 1) :=
  ⟨h.tl, h.kl, h.s1, h.s2, h.sn, h.ct, h.cm, fun e n h1 h2 => by
    rcases Nat.lt_or_ge n (j + 1) with hlt | hge
    · exact h.cl e n h1 (by omega)
    · obtain rfl : n = j + 1 := by omega
      exact hc e⟩
/-- A new pass. -/
theorem DI.again (h : DI T seen c0 td kn mr j) : DI T seen (cnt td + cnt kn) td kn false 0 :=
  ⟨h.tl, h.kl, h.s1, h.s2, h.sn, Nat.le_refl _, (fun e => by cases e), fun _ n h1 h2 => by omega⟩
theorem DI.final (h : DI T seen c0 td kn false T.length) : ∀ n, at_ kn n = true ↔ Kno T seen false n := by
  have hc := h.cl rfl
  have hall : ∀ b n, Kno T seen b n → (if b then at_ td n = true else at_ kn n = true) := by
    intro b n hk
    induction hk with
    | seen h1 h2 => exact h.sn _ h1 _ h2
    | @opened m n h1 h2 h3 h4 h5 ih1 ih2 =>
      have hb := kno_bd h1
      exact (hc m hb.1 hb.2).opened h2 ih1 h3 (List.all_eq_true.2 fun k hk => ih2 k hk) _ h5
    | @told n h1 ih =>
      have hb := kno_bd h1
      exact (hc n hb.1 hb.2).told ih
    | @made n h1 h2 h3 h4 ih => exact (hc n h1 h2).made h3 fun i hi => List.all_eq_true.2 fun k hk => ih i hi k hk
    | @shared n i h1 h2 h3 h4 h5 ih => exact (hc n h1 h2).shared h3 i h4 (List.all_eq_true.2 fun k hk => ih k hk)
  exact fun n => ⟨h.s2 n, fun hk => hall false n hk⟩
/-- Is it known, by what is told and known so far? -/
def isK (T : List Trm) (td kn : List Bool) (n : Nat) : Bool :=
  at_ td n || (decide (1 < kd T n) && (((tm T n).2.all fun p => (nms p n).all (at_ kn)) || (decide (kd T n = 3) && (tm T n).2.any fun p => (nms p n).all (at_ kn))))
theorem parts_all {T : List Trm} {n : Nat} {f : List UInt8 → Bool} : (tm T n).2.all f = true ↔ ∀ i, i < pn T n → f (pt T n i) = true := by
  rw [List.all_eq_true]
  constructor
  · intro h i hi
    have : pt T n i = (tm T n).2[i]'hi := by
      unfold pt
      rw [List.getD_eq_getElem?_getD, List.getElem?_eq_getElem hi]
      rfl
    rw [this]
    exact h _ (List.getElem_mem _)
  · intro h x hx
    obtain ⟨i, hi, rfl⟩ := List.getElem_of_mem hx
    have : pt T n i = (tm T n).2[i]'hi := by
      unfold pt
      rw [List.getD_eq_getElem?_getD, List.getElem?_eq_getElem hi]
      rfl
    rw [← this]
    exact h i hi
theorem parts_any {T : List Trm} {n : Nat} {f : List UInt8 → Bool} : (tm T n).2.any f = true ↔ ∃ i, i < pn T n ∧ f (pt T n i) = true := by
  have h := parts_all (T := T) (n := n) (f := fun p => !f p)
  rw [← List.not_any_eq_all_not, Bool.not_eq_true'] at h
  constructor
  · intro ha
    apply Classical.byContradiction
    intro hn
    rw [h.2 (fun i hi => by
      cases hq : f (pt T n i) with
      | false => rfl
      | true => exact absurd ⟨i, hi, hq⟩ hn)] at ha
    cases ha
  · rintro ⟨i, hi, hf⟩
    cases hq : (tm T n).2.any f with
    | true => rfl
    | false =>
      have := h.1 hq i hi
      simp [hf] at this
theorem isK_kno (h : DI T seen c0 td kn mr j) {n : Nat} (h1 : 1 ≤ n) (hn : n ≤ T.length) (hi : isK T td kn n = true) : Kno T seen false n := by
  unfold isK at hi
  simp only [Bool.or_eq_true, Bool.and_eq_true, decide_eq_true_eq] at hi
  rcases hi with hi | ⟨h2, hi | ⟨h3, hi⟩⟩
  · exact .told (h.s1 n hi)
  · rw [parts_all] at hi
    exact .made h1 hn h2 fun i hi' k hk => h.s2 k (List.all_eq_true.1 (hi i hi') k hk)
  · rw [parts_any] at hi
    obtain ⟨i, hi', hf⟩ := hi
    exact .shared h1 hn h3 hi' fun k hk => h.s2 k (List.all_eq_true.1 hf k hk)
/-- Is what is sealed there opened? -/
def opK (T : List Trm) (td kn : List Bool) (n : Nat) : Bool := decide (kd T n = 8) && at_ td n && (nms (pt T n 0) n).all (at_ kn) && decide (1 < pn T n)
theorem opK_kno (h : DI T seen c0 td kn mr j) {n : Nat} (ho : opK T td kn n = true) {k : Nat} (hk : k ∈ nms (pt T n 1) n) : Kno T seen true k := by
  unfold opK at ho
  simp only [Bool.and_eq_true, decide_eq_true_eq] at ho
  exact .opened (h.s1 n ho.1.1.2) ho.1.1.1 ho.2 (fun q hq => h.s2 q (List.all_eq_true.1 ho.1.2 q hq)) hk
/-- Nothing new at that number: the rules don't leave the lists there. -/
theorem clo_of {n : Nat} (h1 : isK T td kn n = true → at_ kn n = true) (h2 : opK T td kn n = true → ∀ k ∈ nms (pt T n 1) n, at_ td k = true) : Clo T td kn n := by
  refine ⟨fun h => h1 ?_, fun h2' h => h1 ?_, fun h3 i hi h => h1 ?_, fun h8 ht hp h0 => h2 ?_⟩
  · unfold isK; rw [h]; rfl
  · unfold isK
    rw [parts_all.2 h, decide_eq_true (show 1 < kd T n from h2')]
    simp
  · unfold isK
    rw [parts_any.2 ⟨i, hi, h⟩, decide_eq_true h3, decide_eq_true (show 1 < kd T n by omega)]
    simp
  · unfold opK
    rw [decide_eq_true h8, ht, h0, decide_eq_true (show 1 < pn T n from hp)]
    rfl
end
end Go.Proofs.Ytbhfjjlfpgineaa
