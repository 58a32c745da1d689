/- What waits is done: each kind of it. Conditions: counters and lists are short; MaxLen holds some number. -/
import Derived.Test.YtbhfjjlfpgineaaAwa
namespace Go.Proofs.Ytbhfjjlfpgineaa
open Go.RowKit

section
variable {C : Cs} {T : List Trm} {w w' : World} {g g' : Gh} {bx : Nat → Prop} {σ : Sch}
/-- What is always so of a search. -/
structure Env (C : Cs) (T : List Trm) (w : World) : Prop where
  tok : Tok T
  base : 0 < C.base
  N : C.N ≤ 70000
  mx : Mx w
def Short (σ : Sch) : Prop := ∀ m, (row σ m).length ≤ 100000000
/-- What may be done now. -/
def Can (C : Cs) (T : List Trm) (σ : Sch) : Do → Prop
  | .B n _ => n < C.N ∧ -1000000 ≤ σ.left n ∧ σ.left n ≤ 1000000
  | .O n => n < C.N ∧ 2 ≤ pn T n
  | .L n => n < C.N ∧ 2 ≤ pn T n

set_option maxRecDepth 100000 in
set_option maxHeartbeats 1000000 in
theorem runO_any {n s p b : Nat} {A : Option Addr} {c : Nat} (E : Env C T w) (h : Mem C T w g bx σ) (hS : Short σ) (hn : n < C.N) (hs : Cel w g s (ptr C.sb)) (hp : Cel w g p (.slice A (tm T n).2.length c)) (hl : Lst w (Still w g) A (tm T n).2) (h2 : 2 ≤ pn T n) (hb : Cel w g b (.int .i64 n)) :
    Calls Try.prog 48 #[ptr s, ptr p, ptr b] w (Ends C T w g bx (runO T σ n)) := by
  have hlen : 0 < (tm T n).2.length := by have : 2 ≤ (tm T n).2.length := h2; omega
  have h64 := (tm_fit E.tok n).1
  obtain ⟨ab, ao, A', c', rfl, k1, k2, k3, k4⟩ := hl.at_ hlen
  rw [← pt_get hlen] at k1 k2 k4
  rw [Nat.add_zero] at k1
  have hpl := pt_length E.tok n 0
  have bl : Below w.heap.size w w.drew := (Below.refl _ _).drew
  have e1 : Ex w w.drew g g bx := Tr.of_below bl
  have hM := E.mx.below bl
  have HC := Lib.hid (await_any (g := g) (below := n) (vd := .func (.func 49) #[] #[ptr s, ptr p, ptr b]) (d := .L n) (run := fun σ => runL T σ n) (h.below bl) hM E.N rfl (Still.up (k4.drewN 1) bl) k2 k3 (by omega) (by omega)
    ⟨s, p, b, _, c, rfl, hs.tr e1 not_ns, hp.tr e1 not_ns, h64, hl.tr e1 not_ns, hb.tr e1 not_ns⟩ hS (fun w' g' hm he f caps hf => by
      injection hf with hf1 _ hf3
      injection hf1 with hf1
      subst hf1 hf3
      have he' := e1.trans he
      exact runL_any E.tok hm E.base (h.mx E.base he' E.mx) hn E.N (hs.tr he' not_ns) (hp.tr he' not_ns) (hl.tr he' not_ns) h2 (hb.tr he' not_ns)))
  have E1 := Lib.hid e1
  obtain ⟨m, hm⟩ : ∃ m, (tm T n).2.length = m := ⟨_, rfl⟩
  have s0 := hs.2
  have p0 := hp.2
  have b0 := hb.2
  rw [hm] at p0 hlen
  have q1 : (0 : Int) ≤ 0 := by omega
  have q2 : (0 : Int) < (m : Int) := by omega
  clear e1 hm h hl k4 hs hp hb hM
  go_enter Try.func48, Try.ntmps48
  refine wp_region_still_tail 6 (by kernel_rfl) (by kernel_rfl) ?_
  change wpStill _ _ w.drew (fun a' => wpList _ _ _ _ a' w.drew) _ _
  obtain ⟨w1, hw1⟩ : ∃ w1, w1 = w.drew := ⟨_, rfl⟩
  rw [← hw1] at HC E1 ⊢
  have ec : ∀ A, w.cell? A = w1.cell? A := by intro A; rw [hw1]; rfl
  rw [ec] at s0 p0 b0 k1
  clear hw1 ec
  simp only [List.take_succ_cons, List.take_zero, List.drop_succ_cons, List.drop_zero]
  repeat still_step
  refine wpStill_nil ?_
  go_wp2_with fail
  go_at_call 46
  refine HC.out.mono ?_
  rintro e w2 ⟨rfl, g2, hm2, he2⟩
  have HM2 := Lib.hid hm2
  have HE2 := Lib.hid (E1.out.trans he2)
  clear hm2 he2
  go_wp2
  go_end0
  exact ⟨rfl, g2, HM2.out, HE2.out⟩
theorem runD_any {vd : Value} {d : Do} (E : Env C T w) (h : Mem C T w g bx σ) (hS : Short σ) (hd : MDo C T w g bx vd d) (hc : Can C T σ d) {f : FuncId} {caps : Array Value} (hf : vd = .func (.func f) #[] caps) : Calls Try.prog f caps w (Ends C T w g bx (runD T σ d)) := by
  cases d with
  | B n k =>
    obtain ⟨h0, s, b, h1, h2, h3⟩ := hd
    rw [h1] at hf
    injection hf with hf1 _ hf3
    injection hf1 with hf1
    subst hf1 hf3
    exact runB_any h h0 hc.1 E.N h2 h3 hc.2.1 hc.2.2
  | O n =>
    obtain ⟨s, p, b, A, c, h1, h2, h3, h4, h5, h6⟩ := hd
    rw [h1] at hf
    injection hf with hf1 _ hf3
    injection hf1 with hf1
    subst hf1 hf3
    exact runO_any E h hS hc.1 h2 h3 h5 hc.2 h6
  | L n =>
    obtain ⟨s, p, b, A, c, h1, h2, h3, h4, h5, h6⟩ := hd
    rw [h1] at hf
    injection hf with hf1 _ hf3
    injection hf1 with hf1
    subst hf1 hf3
    exact runL_any E.tok h E.base E.mx hc.1 E.N h2 h3 h5 hc.2 h6
theorem Env.tr (E : Env C T w) (h : Mem C T w g bx σ) (e : Ex w w' g g' bx) : Env C T w' := ⟨E.tok, E.base, E.N, h.mx E.base e E.mx⟩

set_option maxRecDepth 100000 in
set_option maxHeartbeats 1000000 in
theorem runJ_any {j : Jb} {s r b d : Nat} {A : Option Addr} {c : Nat} {vd : Value} (E : Env C T w) (h : Mem C T w g bx σ) (hS : Short σ) (hc : Can C T σ j.d)
    (h2 : Cel w g s (ptr C.sb)) (h3 : Cel w g r (.slice A j.rest.length c)) (h4 : j.rest.length ≤ c) (h5 : c ≤ maxLen) (h6 : j.rest.length < 4294967281) (h7 : Byt w (Still w g) A j.rest) (h8 : Cel w g b (.int .i64 j.below)) (h9 : j.below ≤ C.N) (h10 : Cel w g d vd) (h11 : MDo C T w g bx vd j.d) :
    Calls Try.prog 56 #[ptr s, ptr r, ptr b, ptr d] w (Ends C T w g bx (runJ T σ j)) := by
  have HC := Lib.hid (await_any (g := g) (run := fun σ => runD T σ j.d) h E.mx E.N rfl h7 h4 h5 h6 h9 h11 hS (fun w' g' hm he f caps hf => runD_any (E.tr h he) hm hS (h11.tr he not_ns) hc hf))
  have c2 := h2.2
  have c3 := h3.2
  have c8 := h8.2
  have c10 := h10.2
  obtain ⟨n, hn⟩ : ∃ n, j.rest.length = n := ⟨_, rfl⟩
  obtain ⟨m, hm⟩ : ∃ m, j.below = m := ⟨_, rfl⟩
  rw [hn] at c3 HC
  rw [hm] at c8
  have HC' : Hid (Calls Try.prog 46 #[ptr C.sb, .slice A n c, .int .i64 m, vd] w (Ends C T w g bx (runJ T σ j))) := by
    rw [← hm]
    exact HC.out
  clear HC h2 h3 h4 h5 h6 h7 h8 h9 h10 h11 h hn hm
  go_enter Try.func56, Try.ntmps56
  go_wp2_with fail
  go_at_call 46
  refine HC'.out.mono ?_
  rintro e w2 ⟨rfl, g2, hm2, he2⟩
  have HM2 := Lib.hid hm2
  have HE2 := Lib.hid he2
  clear hm2 he2
  go_wp2
  go_end0
  exact ⟨rfl, g2, HM2.out, HE2.out⟩
end
end Go.Proofs.Ytbhfjjlfpgineaa
