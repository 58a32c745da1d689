/- What a search under way is in memory; what may turn. Conditions: none. -/
import Derived.Test.YtbhfjjlfpgineaaSto
namespace Go.Proofs.Ytbhfjjlfpgineaa
open Go.RowKit

theorem Try.info3 : (Try.prog.info? 3).map (fun i => (i.zero, i.size, i.bytes)) = some (some (.int .i64 0), 1, 8) := by kernel_rfl
theorem Try.info1 : (Try.prog.info? 1).map (fun i => (i.zero, i.size, i.bytes)) = some (some .nilFunc, 1, 8) := by kernel_rfl

/-- What a block is for: none turns that is 'still'. -/
inductive Role where
  | still
  | sb
  | nb
  | wb
  | news
  | row (m : Nat)
  | left (n : Nat)
deriving DecidableEq
/-- Each block's role; where the counters lie. -/
structure Gh where
  role : Nat → Role
  lf : Nat → Nat
/-- Where the search lies: its struct, Known's, the names, the lists that wait; how many names there may be; where new memory begins; which list is under way (0: none), and is no longer the search's. -/
structure Cs where
  sb : Nat
  kb : Nat
  nb : Nat
  wb : Nat
  N : Nat
  base : Nat
  x : Nat
abbrev ptr (b : Nat) : Value := .pointer (some ⟨b, 0, none⟩)

/-- Only blocks of these roles have turned. -/
structure Tr (R : Role → Prop) (w w' : World) (g g' : Gh) (bx : Nat → Prop) : Prop where
  os : w'.os = w.os
  tape : w'.tape = w.tape
  output : w'.output = w.output
  size : w.heap.size ≤ w'.heap.size
  role : ∀ b, b < w.heap.size → ¬ R (g.role b) → g'.role b = g.role b
  block : ∀ b, b < w.heap.size → ¬ R (g.role b) → w'.heap[b]? = w.heap[b]?
  lf : ∀ n, bx n → g'.lf n = g.lf n
def NotStill (r : Role) : Prop := r ≠ .still
abbrev Ex (w w' : World) (g g' : Gh) (bx : Nat → Prop) : Prop := Tr NotStill w w' g g' bx

def Still (w : World) (g : Gh) : Nat → Prop := fun b => b < w.heap.size ∧ g.role b = .still
/-- A variable that doesn't turn. -/
def Cel (w : World) (g : Gh) (b : Nat) (v : Value) : Prop := Still w g b ∧ w.cell? ⟨b, 0, none⟩ = some v
def MDo (C : Cs) (T : List Trm) (w : World) (g : Gh) (bx : Nat → Prop) (u : Value) : Do → Prop
  | .B n _ => bx n ∧ ∃ s b, u = .func (.func 47) #[] #[ptr (g.lf n), ptr s, ptr b] ∧ Cel w g s (ptr C.sb) ∧ Cel w g b (.int .i64 n)
  | .O n => ∃ s p b A c, u = .func (.func 48) #[] #[ptr s, ptr p, ptr b] ∧ Cel w g s (ptr C.sb) ∧ Cel w g p (.slice A (tm T n).2.length c) ∧ (tm T n).2.length ≤ 64 ∧ Lst w (Still w g) A (tm T n).2 ∧ Cel w g b (.int .i64 n)
  | .L n => ∃ s p b A c, u = .func (.func 49) #[] #[ptr s, ptr p, ptr b] ∧ Cel w g s (ptr C.sb) ∧ Cel w g p (.slice A (tm T n).2.length c) ∧ (tm T n).2.length ≤ 64 ∧ Lst w (Still w g) A (tm T n).2 ∧ Cel w g b (.int .i64 n)
def MJb (C : Cs) (T : List Trm) (w : World) (g : Gh) (bx : Nat → Prop) (u : Value) (j : Jb) : Prop :=
  ∃ s r b d A c vd, u = .func (.func 56) #[] #[ptr s, ptr r, ptr b, ptr d] ∧ Cel w g s (ptr C.sb) ∧ Cel w g r (.slice A j.rest.length c) ∧ j.rest.length ≤ c ∧ c ≤ maxLen ∧ j.rest.length < 4294967281 ∧ Byt w (Still w g) A j.rest ∧
    Cel w g b (.int .i64 j.below) ∧ j.below ≤ C.N ∧ Cel w g d vd ∧ MDo C T w g bx vd j.d
def Row (C : Cs) (T : List Trm) (w : World) (g : Gh) (bx : Nat → Prop) (m : Nat) (v : Value) (js : List Jb) : Prop :=
  ∃ vs : List Value, w.ownsRow 0 1 1 v js.length vs ∧ (∀ b, v.ownBlock = some b → g.role b = .row m) ∧ ∀ i (h : i < js.length), ∃ u, vs[i]? = some u ∧ MJb C T w g bx u js[i]

section
variable {C : Cs} {T : List Trm} {w w' w'' : World} {g g' g'' : Gh} {bx bx' : Nat → Prop} {R : Role → Prop}
theorem Tr.refl (R : Role → Prop) (w : World) (g : Gh) (bx : Nat → Prop) : Tr R w w g g bx := ⟨rfl, rfl, rfl, Nat.le_refl _, fun _ _ _ => rfl, fun _ _ _ => rfl, fun _ _ => rfl⟩
theorem Tr.trans (h : Tr R w w' g g' bx) (h' : Tr R w' w'' g' g'' bx) : Tr R w w'' g g'' bx :=
  ⟨h'.os.trans h.os, h'.tape.trans h.tape, h'.output.trans h.output, Nat.le_trans h.size h'.size, fun b hb hn => (h'.role b (Nat.lt_of_lt_of_le hb h.size) (by rw [h.role b hb hn]; exact hn)).trans (h.role b hb hn),
    fun b hb hn => (h'.block b (Nat.lt_of_lt_of_le hb h.size) (by rw [h.role b hb hn]; exact hn)).trans (h.block b hb hn), fun n hn => (h'.lf n hn).trans (h.lf n hn)⟩
theorem Tr.imp {R' : Role → Prop} (h : Tr R w w' g g' bx) (hi : ∀ r, R r → R' r) : Tr R' w w' g g' bx :=
  ⟨h.os, h.tape, h.output, h.size, fun b hb hn => h.role b hb fun e => hn (hi _ e), fun b hb hn => h.block b hb fun e => hn (hi _ e), h.lf⟩
theorem Tr.less (h : Tr R w w' g g' bx) (hi : ∀ n, bx' n → bx n) : Tr R w w' g g' bx' := ⟨h.os, h.tape, h.output, h.size, h.role, h.block, fun n hn => h.lf n (hi n hn)⟩
theorem Tr.of_below (h : Below w.heap.size w w') : Tr R w w' g g bx := ⟨h.os, h.tape, h.output, h.size, fun _ _ _ => rfl, fun b hb _ => h.block b hb, fun _ _ => rfl⟩
theorem Tr.of_wr {b : Nat} (h : Wr b w w') (hb : R (g.role b)) : Tr R w w' g g bx := ⟨h.os, h.tape, h.output, Nat.le_of_eq h.size.symm, fun _ _ _ => rfl, fun k _ hn => h.block k fun e => hn (e ▸ hb), fun _ _ => rfl⟩
theorem Tr.of_grown {row : Option Nat} (h : w.grownBy w' row) (hb : ∀ b, row = some b → R (g.role b)) : Tr R w w' g g bx := ⟨h.os, h.tape, h.output, h.size, fun _ _ _ => rfl, fun k hk hn => h.block k hk fun e => hn (hb k e.symm), fun _ _ => rfl⟩
/-- A role for what is new. -/
theorem Tr.dub (h : Tr R w w' g g' bx) {b : Nat} (hb : w.heap.size ≤ b) (r : Role) : Tr R w w' g { g' with role := fun i => if i = b then r else g'.role i } bx :=
  ⟨h.os, h.tape, h.output, h.size, fun i hi hn => by show (if i = b then r else g'.role i) = _; rw [if_neg (by omega)]; exact h.role i hi hn, h.block, h.lf⟩
theorem Tr.still (h : Tr R w w' g g' bx) (hR : ¬ R .still) {b : Nat} (hb : Still w g b) : Still w' g' b := ⟨Nat.lt_of_lt_of_le hb.1 h.size, (h.role b hb.1 (by rw [hb.2]; exact hR)).trans hb.2⟩
theorem Cel.tr {b : Nat} {v : Value} (h : Cel w g b v) (e : Tr R w w' g g' bx) (hR : ¬ R .still) : Cel w' g' b v :=
  ⟨e.still hR h.1, (World.cell?_of_block (e.block b h.1.1 (by rw [h.1.2]; exact hR))).trans h.2⟩
theorem Byt.tr {A : Option Addr} {xs : List UInt8} (h : Byt w (Still w g) A xs) (e : Tr R w w' g g' bx) (hR : ¬ R .still) : Byt w' (Still w' g') A xs :=
  (h.keep fun b hb => e.block b hb.1 (by rw [hb.2]; exact hR)).imp fun _ hb => e.still hR hb
theorem Lst.tr {A : Option Addr} {xs : List (List UInt8)} (h : Lst w (Still w g) A xs) (e : Tr R w w' g g' bx) (hR : ¬ R .still) : Lst w' (Still w' g') A xs :=
  (h.keep fun b hb => e.block b hb.1 (by rw [hb.2]; exact hR)).imp fun _ hb => e.still hR hb
theorem MDo.tr {u : Value} {d : Do} (h : MDo C T w g bx u d) (e : Tr R w w' g g' bx) (hR : ¬ R .still) : MDo C T w' g' bx u d := by
  cases d with
  | B n k =>
    obtain ⟨h0, s, b, h1, h2, h3⟩ := h
    exact ⟨h0, s, b, by rw [e.lf n h0]; exact h1, h2.tr e hR, h3.tr e hR⟩
  | O n =>
    obtain ⟨s, p, b, A, c, h1, h2, h3, h4, h5, h6⟩ := h
    exact ⟨s, p, b, A, c, h1, h2.tr e hR, h3.tr e hR, h4, h5.tr e hR, h6.tr e hR⟩
  | L n =>
    obtain ⟨s, p, b, A, c, h1, h2, h3, h4, h5, h6⟩ := h
    exact ⟨s, p, b, A, c, h1, h2.tr e hR, h3.tr e hR, h4, h5.tr e hR, h6.tr e hR⟩
theorem MDo.more {u : Value} {d : Do} (h : MDo C T w g bx u d) (hi : ∀ n, bx n → bx' n) : MDo C T w g bx' u d := by
  cases d with
  | B n k => exact ⟨hi n h.1, h.2⟩
  | O n => exact h
  | L n => exact h
theorem MJb.tr {u : Value} {j : Jb} (h : MJb C T w g bx u j) (e : Tr R w w' g g' bx) (hR : ¬ R .still) : MJb C T w' g' bx u j := by
  obtain ⟨s, r, b, d, A, c, vd, h1, h2, h3, h4, h5, h6, h7, h8, h9, h10, h11⟩ := h
  exact ⟨s, r, b, d, A, c, vd, h1, h2.tr e hR, h3.tr e hR, h4, h5, h6, h7.tr e hR, h8.tr e hR, h9, h10.tr e hR, h11.tr e hR⟩
theorem MJb.more {u : Value} {j : Jb} (h : MJb C T w g bx u j) (hi : ∀ n, bx n → bx' n) : MJb C T w g bx' u j := by
  obtain ⟨s, r, b, d, A, c, vd, h1, h2, h3, h4, h5, h6, h7, h8, h9, h10, h11⟩ := h
  exact ⟨s, r, b, d, A, c, vd, h1, h2, h3, h4, h5, h6, h7, h8, h9, h10, h11.more hi⟩
theorem Row.tr {m : Nat} {v : Value} {js : List Jb} (h : Row C T w g bx m v js) (e : Tr R w w' g g' bx) (hR : ¬ R .still) (hm : ¬ R (.row m)) : Row C T w' g' bx m v js := by
  obtain ⟨vs, h1, h2, h3⟩ := h
  refine ⟨vs, ownsRow_keep h1 fun b hb => e.block b (h1.lt b hb).2 (by rw [h2 b hb]; exact hm), fun b hb => (e.role b (h1.lt b hb).2 (by rw [h2 b hb]; exact hm)).trans (h2 b hb), fun i hi => ?_⟩
  obtain ⟨u, h4, h5⟩ := h3 i hi
  exact ⟨u, h4, h5.tr e hR⟩
theorem Row.more {m : Nat} {v : Value} {js : List Jb} (h : Row C T w g bx m v js) (hi : ∀ n, bx n → bx' n) : Row C T w g bx' m v js := by
  obtain ⟨vs, h1, h2, h3⟩ := h
  refine ⟨vs, h1, h2, fun i hj => ?_⟩
  obtain ⟨u, h4, h5⟩ := h3 i hj
  exact ⟨u, h4, h5.more hi⟩
end

/-- The search under way, in memory. -/
structure Mem (C : Cs) (T : List Trm) (w : World) (g : Gh) (bx : Nat → Prop) (σ : Sch) : Prop where
  fresh : ∀ b, w.heap.size ≤ b → g.role b = .still
  old : ∀ b, g.role b ≠ .still → C.base ≤ b
  base : C.base ≤ w.heap.size
  sbR : g.role C.sb = .sb
  nbR : g.role C.nb = .nb
  wbR : g.role C.wb = .wb
  kbC : Cel w g C.kb (.slice (some ⟨C.nb, 0, none⟩) C.N C.N)
  sbB : ∃ v, w.heap[C.sb]? = some (.cells [ptr C.kb, v, .slice (some ⟨C.wb, 0, none⟩) C.N C.N].toArray 86 (0, 0)) ∧ w.ownsRow 0 3 1 v σ.news.length (σ.news.map fun n : Nat => Value.int .i64 n) ∧ ∀ b, v.ownBlock = some b → g.role b = .news
  nbB : w.heap[C.nb]? = some (.cells (σ.names.map Value.bool).toArray 4 (0, 0))
  namesN : σ.names.length = C.N
  wbB : ∃ wv : List Value, w.heap[C.wb]? = some (.cells wv.toArray 105 (0, 0)) ∧ wv.length = C.N ∧ ∀ m (h : m < wv.length), (C.x = 0 ∨ m ≠ C.x) → Row C T w g bx m wv[m] (row σ m)
  waitN : σ.wait.length = C.N
  lefts : ∀ n, bx n → w.heap[g.lf n]? = some (.cells #[.int .i64 (σ.left n)] 3 (0, 0)) ∧ g.role (g.lf n) = .left n
  cnt : σ.news.length ≤ σ.names.count true
  ex : C.x = 0 ∨ kn σ C.x = true
section
variable {C : Cs} {T : List Trm} {w w' : World} {g g' : Gh} {bx : Nat → Prop} {σ : Sch}
theorem no_still : ¬ (fun _ : Role => False) .still := fun h => h
theorem Mem.below (h : Mem C T w g bx σ) (hb : Below w.heap.size w w') : Mem C T w' g bx σ := by
  have e : Tr (fun _ => False) w w' g g bx := Tr.of_below hb
  obtain ⟨v, h1, h2, h3⟩ := h.sbB
  obtain ⟨wv, h4, h5, h6⟩ := h.wbB
  refine ⟨fun b hb' => h.fresh b (Nat.le_trans hb.size hb'), h.old, Nat.le_trans h.base hb.size, h.sbR, h.nbR, h.wbR, h.kbC.tr e no_still, ⟨v, (hb.block _ (lt_of_block h1)).trans h1, ownsRow_keep h2 fun b hv => hb.block b (h2.lt b hv).2, h3⟩,
    (hb.block _ (lt_of_block h.nbB)).trans h.nbB, h.namesN, ⟨wv, (hb.block _ (lt_of_block h4)).trans h4, h5, fun m hm hne => (h6 m hm hne).tr e no_still (fun h => h)⟩, h.waitN, fun n hn => ?_, h.cnt, h.ex⟩
  obtain ⟨a, b⟩ := h.lefts n hn
  exact ⟨(hb.block _ (lt_of_block a)).trans a, b⟩
/-- What a call leaves. -/
def Ends (C : Cs) (T : List Trm) (w : World) (g : Gh) (bx : Nat → Prop) (σ : Sch) (e : Ending) (w' : World) : Prop :=
  e = .returned (.tuple #[]) ∧ ∃ g', Mem C T w' g' bx σ ∧ Ex w w' g g' bx
theorem ends_same (h : Mem C T w g bx σ) : Ends C T w g bx σ (.returned (.tuple #[])) w := ⟨rfl, g, h, Tr.refl _ _ _ _⟩
theorem count_set : ∀ (l : List Bool) (n : Nat), l.getD n false = false → n < l.length → (l.set n true).count true = l.count true + 1
  | [], n, _, h => by simp at h
  | b :: l, 0, h, _ => by
    obtain rfl : b = false := by simpa using h
    simp
  | b :: l, n + 1, h, hl => by
    have := count_set l n (by simpa using h) (by simpa using hl)
    simp only [List.set_cons_succ, List.count_cons, this]
    omega
end
end Go.Proofs.Ytbhfjjlfpgineaa
