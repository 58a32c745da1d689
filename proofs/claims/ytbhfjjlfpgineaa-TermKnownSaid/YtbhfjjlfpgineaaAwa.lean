/- await does what is to be done as soon as all names in some bytes are known: now, or later. Conditions: fewer than 4294967281 bytes; MaxLen holds some number; the lists that wait are short. -/
import Derived.Test.YtbhfjjlfpgineaaClo
import Derived.Deep.Cut
import Derived.Deep.CutRange
import Derived.Deep.DeepCutAuto
namespace Go.Proofs.Ytbhfjjlfpgineaa
open Go.RowKit

section
variable {C : Cs} {T : List Trm} {w w' : World} {g g' : Gh} {bx : Nat → Prop} {σ : Sch}
/-- A variable that is made. -/
theorem cel_new (h : Mem C T w g bx σ) (v : Value) (t : TypeId) : Cel (w.alloc (.cells #[v] t)) g w.heap.size v :=
  ⟨⟨by simp, h.fresh _ (Nat.le_refl _)⟩, by rw [cell_of_block (heap_alloc_new w _)]; rfl⟩
theorem below_alloc (w : World) (o : Obj) : Below w.heap.size w (w.alloc o) := (Below.refl _ _).alloc (Nat.le_refl _) o

theorem cell_apart {w : World} {g b o : Nat} {v : Value} (h : ¬ b = g) : (w.setCell ⟨g, 0, none⟩ v).cell? ⟨b, o, none⟩ = w.cell? ⟨b, o, none⟩ := World.cell?_of_block (Below.heap_setCell _ _ _ _ h)
theorem cell_apart2 {w : World} {g i b o : Nat} {v : Value} (h : ¬ b = g) : (w.setCell ⟨g, i, none⟩ v).cell? ⟨b, o, none⟩ = w.cell? ⟨b, o, none⟩ := World.cell?_of_block (Below.heap_setCell _ _ _ _ h)
theorem one_func (f : Fn) (caps : Array Value) : ∀ u ∈ [Value.func f #[] caps], u.oneCell' = true := by
  intro u hu
  obtain rfl : u = .func f #[] caps := by simpa using hu
  rfl
/-- Behind the search for what is missing. -/
def AwaMid (C : Cs) (T : List Trm) (w3 : World) (g : Gh) (bx : Nat → Prop) (σ : Sch) (b : List UInt8) (below : Nat) (s t : Value) (wx : World) : Prop :=
  ∃ (r : Nat) (A : Option Addr) (c : Nat), s = .int .i64 ((ms (kn σ) b below).1 : Nat) ∧ t = ptr r ∧ Cel wx g r (.slice A (ms (kn σ) b below).2.length c) ∧ (ms (kn σ) b below).2.length ≤ c ∧ c ≤ maxLen ∧ Byt wx (Still wx g) A (ms (kn σ) b below).2 ∧ Mem C T wx g bx σ ∧ Below w3.heap.size w3 wx

theorem awaMid_new {w3 w4 : World} {b : List UInt8} {below n4 c4 : Nat} {A4 : Option Addr} (h3 : Mem C T w3 g bx σ) (hb : Below w3.heap.size w3 w4) (hl : (ms (kn σ) b below).2.length = n4) (hc : n4 ≤ c4) (hm : c4 ≤ maxLen) (hx : Byt w4 (Still w3 g) A4 (ms (kn σ) b below).2) :
    AwaMid C T w3 g bx σ b below (.int .i64 ((ms (kn σ) b below).1 : Nat)) (ptr w4.heap.size) (w4.alloc (.cells #[.slice A4 n4 c4] 41)) := by
  subst hl
  have h4 := h3.below hb
  have hx4 := Still.up hx hb
  exact ⟨_, A4, c4, rfl, rfl, cel_new h4 _ 41, hc, hm, hx4.tr (R := NotStill) (bx := bx) (Tr.of_below (below_alloc _ _)) not_ns, h4.below (below_alloc _ _), hb.alloc hb.size _⟩
theorem awaMid_old {w3 w4 : World} {b : List UInt8} {below n4 c4 : Nat} {A4 : Option Addr} (h3 : Mem C T w3 g bx σ) (hb : Below w3.heap.size w3 w4) (hB : w4.heap[w3.heap.size]? = some (.cells #[.slice none 0 0] 41)) (hl : (ms (kn σ) b below).2.length = n4) (hc : n4 ≤ c4) (hm : c4 ≤ maxLen) (hx : Byt w4 (Still w3 g) A4 (ms (kn σ) b below).2) :
    AwaMid C T w3 g bx σ b below (.int .i64 ((ms (kn σ) b below).1 : Nat)) (ptr w3.heap.size) (w4.setCell ⟨w3.heap.size, 0, none⟩ (.slice A4 n4 c4)) := by
  subst hl
  have hb5 : Below w3.heap.size w3 (w4.setCell ⟨w3.heap.size, 0, none⟩ (.slice A4 (ms (kn σ) b below).2.length c4)) := hb.setCell (Nat.le_refl _) _
  have hlt := lt_of_block hB
  have hx5 : Byt (w4.setCell ⟨w3.heap.size, 0, none⟩ (.slice A4 (ms (kn σ) b below).2.length c4)) (Still w3 g) A4 (ms (kn σ) b below).2 := hx.keep fun x hx => Below.heap_setCell _ _ _ _ (by have := hx.1; show x ≠ w3.heap.size; omega)
  exact ⟨_, A4, c4, rfl, rfl, ⟨⟨by simpa using hlt, h3.fresh _ (Nat.le_refl _)⟩, cell_of_one (one_setCell hB)⟩, hc, hm, Still.up hx5 hb5, h3.below hb5, hb5⟩

def RPark (k : Nat) (r : Role) : Prop := r = .row k ∨ r = .wb
theorem park_end {wc w5 : World} {k n g5 cap5 : Nat} {v fv : Value} {vs wv : List Value} {o : Obj} {j : Jb} (h : Mem C T wc g bx σ) (hk : k < C.N) (b1 : wc.heap[C.wb]? = some (.cells wv.toArray 105 (0, 0))) (b2 : wv.length = C.N) (b3 : ∀ m (h : m < wv.length), (C.x = 0 ∨ m ≠ C.x) → Row C T wc g bx m wv[m] (row σ m)) (hv : wv[k]? = some v)
    (o1 : wc.ownsRow 0 1 1 v (row σ k).length vs) (o2 : ∀ b, v.ownBlock = some b → g.role b = .row k) (o3 : ∀ i (h : i < (row σ k).length), ∃ u, vs[i]? = some u ∧ MJb C T wc g bx u (row σ k)[i])
    (hown : w5.ownsRow 0 1 1 (.slice (some ⟨g5, 0, none⟩) n cap5) n (vs ++ [fv])) (hn : n = (row σ k).length + 1) (hgrow : (wc.alloc o).drew.grownBy w5 v.ownBlock) (hat : v.ownBlock = some g5 ∨ g5 = wc.heap.size + 1) (hj : MJb C T wc g bx fv j) :
    ∃ g', Mem C T (w5.setCell ⟨C.wb, k, none⟩ (.slice (some ⟨g5, 0, none⟩) n cap5)) g' bx (parkS σ k j) ∧ Ex wc (w5.setCell ⟨C.wb, k, none⟩ (.slice (some ⟨g5, 0, none⟩) n cap5)) g g' bx := by
  have hns : ¬ RPark k .still := fun e => by rcases e with e | e <;> cases e
  have t1 : Tr (RPark k) wc (wc.alloc o).drew g g bx := Tr.of_below ((Below.refl _ _).alloc (Nat.le_refl _) o).drew
  have t2 : Tr (RPark k) (wc.alloc o).drew w5 g g bx := Tr.of_grown hgrow fun b hb => .inl (o2 b hb)
  have hB5 : w5.heap[C.wb]? = some (.cells wv.toArray 105 (0, 0)) := by
    refine ((hgrow.block C.wb (by simp; have := lt_of_block b1; omega) (fun e => ?_)).trans (Below.heap_alloc wc o _ (lt_of_block b1))).trans b1
    have := o2 _ e.symm
    rw [h.wbR] at this
    cases this
  have t3 : Tr (RPark k) w5 (w5.setCell ⟨C.wb, k, none⟩ (.slice (some ⟨g5, 0, none⟩) n cap5)) g g bx := ⟨rfl, rfl, rfl, by simp, fun _ _ _ => rfl, fun x _ hx => Below.heap_setCell _ _ _ _ fun e => hx (by rw [show x = C.wb from e]; exact .inr h.wbR), fun _ _ => rfl⟩
  have t := (t1.trans t2).trans t3
  obtain ⟨g', t', hv2, hfresh, hold, hlf, hro⟩ := dub_row (v' := .slice (some ⟨g5, 0, none⟩) n cap5) (b0 := wc.heap.size + 1) t o2 (by rcases hat with e | e; exact .inl (by rw [e]; rfl); exact .inr (by rw [e]; rfl)) (by omega) (fun b hb => by simpa using (hown.lt b hb).2) h.fresh h.old h.base
  have hg5 := hv2 g5 rfl
  have hkeep : ∀ b, b < wc.heap.size → ∀ r, g.role b = r → g'.role b = r := fun b hb r hr => (hro b hb).trans hr
  have hwl := lt_of_block b1
  have hnl := lt_of_block h.nbB
  obtain ⟨nv, s1, s2, s3⟩ := h.sbB
  have hsl := lt_of_block s1
  have hne : g5 ≠ C.wb := fun e => by rw [e, hkeep _ hwl _ h.wbR] at hg5; cases hg5
  have hkw : k < σ.wait.length := by rw [h.waitN]; exact hk
  have hrow := row_set σ k (row σ k ++ [j]) hkw
  refine ⟨g', ⟨hfresh, hold, Nat.le_trans h.base t.size, hkeep _ hsl _ h.sbR, hkeep _ hnl _ h.nbR, hkeep _ hwl _ h.wbR, h.kbC.tr t' hns, ⟨nv, (t'.block _ hsl (by rw [h.sbR]; intro e; rcases e with e | e <;> cases e)).trans s1, ownsRow_keep s2 fun b hb => t'.block b (s2.lt b hb).2 (by rw [s3 b hb]; intro e; rcases e with e | e <;> cases e), fun b hb => hkeep b (s2.lt b hb).2 _ (s3 b hb)⟩,
    (t'.block _ hnl (by rw [h.nbR]; intro e; rcases e with e | e <;> cases e)).trans h.nbB, h.namesN, ⟨wv.set k (.slice (some ⟨g5, 0, none⟩) n cap5), ?_, by simp [b2], fun m hm hne' => ?_⟩, ?_, fun i hi => ?_, h.cnt, h.ex⟩, t'.imp fun r hr e => by subst e; exact hns hr⟩
  · rw [heap_setCell_same w5 C.wb k _ 105 _ hB5]
    simp
  · have hm' : m < wv.length := by simpa using hm
    have hrw : row (parkS σ k j) m = if m = k then row σ k ++ [j] else row σ m := hrow m
    rw [hrw]
    by_cases e : m = k
    · subst e
      rw [if_pos rfl]
      have el : (row σ m ++ [j]).length = n := by rw [hn]; simp
      have eg : (wv.set m (.slice (some ⟨g5, 0, none⟩) n cap5))[m] = .slice (some ⟨g5, 0, none⟩) n cap5 := by simp
      rw [eg]
      refine ⟨vs ++ [fv], by rw [el]; exact ownsRow_keep hown fun b hb => Below.heap_setCell _ _ _ _ (by obtain rfl : g5 = b := (by simpa [Value.ownBlock] using hb); exact hne), hv2, fun i hi => ?_⟩
      have hvl : vs.length = (row σ m).length := by have := o1.1; omega
      by_cases ei : i < (row σ m).length
      · obtain ⟨u, h1, h2⟩ := o3 i ei
        refine ⟨u, by rw [List.getElem?_append_left (by omega)]; exact h1, ?_⟩
        rw [List.getElem_append_left ei]
        exact h2.tr t' hns
      · have ei' : i = (row σ m).length := by simp at hi; omega
        subst ei'
        refine ⟨fv, by rw [← hvl]; simp, ?_⟩
        rw [List.getElem_append_right (Nat.le_refl _)]
        simp only [Nat.sub_self, List.getElem_cons_zero]
        exact hj.tr t' hns
    · rw [if_neg e]
      have eg : (wv.set k (.slice (some ⟨g5, 0, none⟩) n cap5))[m] = wv[m] := by rw [List.getElem_set_ne (Ne.symm e)]
      rw [eg]
      exact (b3 m hm' hne').tr t' hns fun e2 => by
        rcases e2 with e2 | e2
        · exact e (Role.row.inj e2)
        · cases e2
  · show (σ.wait.set k _).length = _
    rw [List.length_set]; exact h.waitN
  · obtain ⟨a, b⟩ := h.lefts i hi
    have hl := lt_of_block a
    rw [hlf]
    exact ⟨(t'.block _ hl (by rw [b]; intro e; rcases e with e | e <;> cases e)).trans a, hkeep _ hl _ b⟩

set_option maxRecDepth 100000 in
set_option maxHeartbeats 4000000 in
theorem await_any {A : Option Addr} {b : List UInt8} {n c below : Nat} {vd : Value} {d : Do} {run : Sch → Sch} (h : Mem C T w g bx σ) (hM : Mx w) (hN : C.N ≤ 70000) (hn : b.length = n) (hx : Byt w (Still w g) A b) (hc : n ≤ c) (hm : c ≤ maxLen) (hl : n < 4294967281) (hb : below ≤ C.N)
    (hd : MDo C T w g bx vd d) (hrow : ∀ m, (row σ m).length ≤ 100000000)
    (hrun : ∀ w' g', Mem C T w' g' bx σ → Ex w w' g g' bx → ∀ f caps, vd = .func (.func f) #[] caps → Calls Try.prog f caps w' (Ends C T w' g' bx (run σ))) :
    Calls Try.prog 46 #[ptr C.sb, .slice A n c, .int .i64 below, vd] w (Ends C T w g bx (awaitS run σ b below d)) := by
  obtain ⟨f, caps, rfl, hf⟩ : ∃ f caps, vd = .func (.func f) #[] caps ∧ (f = 47 ∨ f = 48 ∨ f = 49) := by
    cases d with
    | B n k => obtain ⟨_, _, _, rfl, _⟩ := hd; exact ⟨_, _, rfl, .inl rfl⟩
    | O n => obtain ⟨_, _, _, _, _, rfl, _⟩ := hd; exact ⟨_, _, rfl, .inr (.inl rfl)⟩
    | L n => obtain ⟨_, _, _, _, _, rfl, _⟩ := hd; exact ⟨_, _, rfl, .inr (.inr rfl)⟩
  have HF := Lib.hid hf
  have HD := Lib.hid hd
  have HX := Lib.hid hx
  have H0 := Lib.hid h
  have HR := Lib.hid hrun
  have HRW := Lib.hid hrow
  have HMX := Lib.hid hM
  clear hf hd hx h hrun hrow hM
  go_enter Try.func46, Try.ntmps46
  go_wp2_with fail
  obtain ⟨w3, hw3⟩ : ∃ w3, ((w.alloc (.cells #[ptr C.sb] 81)).alloc (.cells #[.int .i64 (below : Int)] 3)).alloc (.cells #[.func (.func f) #[] caps] 1) = w3 := ⟨_, rfl⟩
  have hb3 : Below w.heap.size w w3 := by
    rw [← hw3]
    exact (((Below.refl _ _).alloc (Nat.le_refl _) _).alloc (by simp) _).alloc (by simp; omega) _
  have t3 : Tr NotStill w w3 g g bx := Tr.of_below hb3
  have m3 : Mem C T w3 g bx σ := H0.out.below hb3
  have c1 : Cel w3 g w.heap.size (ptr C.sb) := by
    have h1 := H0.out.below (below_alloc w (.cells #[ptr C.sb] 81))
    have a1 := cel_new H0.out (ptr C.sb) 81
    have h2 := h1.below (below_alloc _ (.cells #[.int .i64 (below : Int)] 3))
    rw [← hw3]
    exact (a1.tr (R := NotStill) (bx := bx) (Tr.of_below (below_alloc _ _)) not_ns).tr (R := NotStill) (bx := bx) (Tr.of_below (below_alloc _ _)) not_ns
  have c2 : Cel w3 g (w.heap.size + 1) (.int .i64 (below : Int)) := by
    have h1 := H0.out.below (below_alloc w (.cells #[ptr C.sb] 81))
    have a2 := cel_new h1 (.int .i64 (below : Int)) 3
    rw [alloc_size] at a2
    rw [← hw3]
    exact a2.tr (R := NotStill) (bx := bx) (Tr.of_below (below_alloc _ _)) not_ns
  have c3 : Cel w3 g (w.heap.size + 2) (.func (.func f) #[] caps) := by
    have h1 := H0.out.below (below_alloc w (.cells #[ptr C.sb] 81))
    have h2 := h1.below (below_alloc _ (.cells #[.int .i64 (below : Int)] 3))
    have a3 := cel_new h2 (.func (.func f) #[] caps) 1
    rw [alloc_size, alloc_size] at a3
    rw [← hw3]
    exact a3
  rw [hw3]
  clear hw3
  have M3 := Lib.hid m3
  have C1 := Lib.hid c1
  have C2 := Lib.hid c2
  have C3 := Lib.hid c3
  have HM : Hid (∀ W, Below w3.heap.size w3 W → Calls Try.prog 37 #[ptr C.kb, .slice A n c, .int .i64 below] W (NextE W (Still w3 g) (ms (kn σ) b below))) := fun W hW =>
    missing_any (m3.knm.below hW) hn ((HX.out.tr t3 not_ns).below hW fun _ h => h.1) (fun x hx => Nat.lt_of_lt_of_le hx.1 hW.size) hc hm hl hb hN (((HMX.out).below hb3).below hW)
  have sbl : C.sb < w3.heap.size := by obtain ⟨v, h1, _⟩ := m3.sbB; exact lt_of_block h1
  have sb0 : w3.cell? ⟨C.sb, 0, none⟩ = some (ptr C.kb) := by obtain ⟨v, h1, _⟩ := m3.sbB; rw [cell_of_block h1]; rfl
  have e1 := c1.2
  have e2 := c2.2
  have l1 := c1.1.1
  have l2 := c2.1.1
  have hkeep : Hid (∀ W, Below w3.heap.size w3 W → W.cell? ⟨w.heap.size, 0, none⟩ = some (ptr C.sb) ∧ W.cell? ⟨C.sb, 0, none⟩ = some (ptr C.kb) ∧ W.cell? ⟨w.heap.size + 1, 0, none⟩ = some (.int .i64 (below : Int))) := fun W hW =>
    ⟨(hW.cell (p := ⟨w.heap.size, 0, none⟩) l1).trans e1, (hW.cell (p := ⟨C.sb, 0, none⟩) sbl).trans sb0, (hW.cell (p := ⟨w.heap.size + 1, 0, none⟩) l2).trans e2⟩
  clear t3 m3 c1 c2 c3
  go_cut [8, 9] from 10 to 19 (fun s t wx => AwaMid C T w3 g bx σ b below s t wx)
  case first =>
    go_region_held3 (fun W => W.cell? ⟨w.heap.size, 0, none⟩ = some (ptr C.sb) ∧ W.cell? ⟨C.sb, 0, none⟩ = some (ptr C.kb) ∧ W.cell? ⟨w.heap.size + 1, 0, none⟩ = some (.int .i64 (below : Int))) (first | go_keep | (refine ⟨?_, ?_, ?_⟩ <;> (rw [cell_apart (by assumption)]; assumption))) (first
      | (go_at_call 37; refine (HM.out w3.drew (Below.refl _ _).drew).mono ?_; intro e w4 h4; obtain ⟨A4, n4, c4, rfl, h41, h42, h43, h44, h45⟩ := nextE_n h4; have hb4 : Below w3.heap.size w3 w4 := (Below.refl _ _).drew.trans (h45.mono (Nat.le_refl _)); obtain ⟨k41, k42, k43⟩ := hkeep.out w4 hb4; have B4 := Lib.hid hb4; clear hb4 h4 h45; have n1 : ¬ w.heap.size = w4.heap.size := (by have := B4.out.size; omega); have n2 : ¬ C.sb = w4.heap.size := (by have := B4.out.size; omega); have n3 : ¬ w.heap.size + 1 = w4.heap.size := (by have := B4.out.size; omega))
      | (go_at_call 37; refine (HM.out _ ((Below.refl _ _).drew.alloc (Nat.le_refl _) _)).mono ?_; intro e w4 h4; obtain ⟨A4, n4, c4, rfl, h41, h42, h43, h44, h45⟩ := nextE_n h4; have hb4 : Below w3.heap.size w3 w4 := ((Below.refl _ _).drew.alloc (Nat.le_refl _) _).trans (h45.mono (by simp)); obtain ⟨k41, k42, k43⟩ := hkeep.out w4 hb4; have hB : w4.heap[w3.heap.size]? = some (.cells #[.slice none 0 0] 41) := (h45.block w3.heap.size (by simp)).trans (heap_alloc_new w3.drew _); have k44 := cell_of_one hB; have k45 := free_of_one hB; have BB := Lib.hid hB; have B4 := Lib.hid hb4; clear hB hb4 h4 h45; have n1 : ¬ w.heap.size = w3.heap.size := (by omega); have n2 : ¬ C.sb = w3.heap.size := (by omega); have n3 : ¬ w.heap.size + 1 = w3.heap.size := (by omega))
      | fail)
    · go_wp2_with (fail)
      go_meet
      case rel => exact awaMid_new M3.out B4.out h41.out h42 h43 h44
    · go_wp2_with (fail)
      go_meet
      case rel => exact awaMid_old M3.out B4.out BB.out h41.out h42 h43 h44
  case rest =>
    clear HM sbl sb0 e1 e2 l1 l2 hkeep
    obtain ⟨r, A4, c4, rfl, rfl, hr, h42, h43, h44, h45, h46⟩ := hcut
    have hbc : Below w.heap.size w wc := hb3.trans (h46.mono hb3.size)
    have ex : Ex w wc g g bx := Tr.of_below hbc
    have t3c : Tr NotStill w3 wc g g bx := Tr.of_below h46
    have c1 := C1.out.tr t3c not_ns
    have c2 := C2.out.tr t3c not_ns
    have c3 := C3.out.tr t3c not_ns
    have EX := Lib.hid ex
    have MC := Lib.hid h45
    obtain ⟨k, hk⟩ : ∃ k, (ms (kn σ) b below).1 = k := ⟨_, rfl⟩
    obtain ⟨ys, hys⟩ : ∃ ys, (ms (kn σ) b below).2 = ys := ⟨_, rfl⟩
    rw [hk]
    rw [hys] at hr h42 h44
    have HK := Lib.hid hk
    have HY := Lib.hid hys
    clear hk hys ex t3c h46 h45 M3 C1 C2 C3 hb3 hbc
    by_cases h0 : k = 0
    · subst h0
      have HAW : Hid (awaitS run σ b below d = run σ) := by
        show awaitS run σ b below d = _
        unfold awaitS
        rw [if_pos HK.out]
      have e3 := c3.2
      clear c1 c2 c3 hr h44
      rcases HF.out with rfl | rfl | rfl
      all_goals
        have HC := Lib.hid (HR.out wc g MC.out EX.out _ _ rfl)
        go_wp2_with fail
        first
          | go_at_call 47
          | go_at_call 48
          | go_at_call 49
        refine HC.out.mono ?_
        rintro e w5 ⟨rfl, g5, hm5, he5⟩
        have HM5 := Lib.hid hm5
        have HE5 := Lib.hid (EX.out.trans he5)
        clear hm5 he5
        go_wp2
        go_end0
        refine ⟨rfl, g5, ?_, HE5.out⟩
        rw [HAW.out]
        exact HM5.out
    · have d0 : ((k : Int) == 0) = false := by rw [beq_eq_false_iff_ne]; omega
      obtain ⟨m1, m2, m3, pre, m4, m5⟩ := ms_some (K := kn σ) (b := b) (below := below) (by rw [HK.out]; omega)
      rw [HK.out] at m1 m2
      rw [HY.out] at m3
      have hkN : k < C.N := by omega
      obtain ⟨wv, b1, b2, b3⟩ := MC.out.wbB
      obtain ⟨vs, o1, o2, o3⟩ := b3 k (by omega) (MC.out.ex.imp (fun e => e) fun e2 e => by rw [← e, m2] at e2; cases e2)
      obtain ⟨v, hv⟩ : ∃ v, wv[k]'(by omega) = v := ⟨_, rfl⟩
      rw [hv] at o1 o2
      obtain ⟨nv, s1, s2, s3⟩ := MC.out.sbB
      have k61 := c1.2
      have k62 : wc.cell? ⟨C.sb, 2, none⟩ = some (.slice (some ⟨C.wb, 0, none⟩) C.N C.N) := by rw [cell_of_block s1]; rfl
      have k63 : wc.cell? ⟨C.wb, k, none⟩ = some v := by
        rw [cell_of_block b1, ← hv]
        have : k < wv.length := by omega
        simp [this]
      have q1 : (0 : Int) ≤ (k : Int) := by omega
      have q2 : (k : Int) < (C.N : Int) := by omega
      have lw := lt_of_block b1
      have lc1 := c1.1.1
      have ls := lt_of_block s1
      have HNE : Hid (∀ x, g.role x ≠ .row k → some x ≠ v.ownBlock) := fun x hx e => hx (o2 x e.symm)
      have hrk := HRW.out k
      obtain ⟨i1, hi1, hy0, hy1, hy2⟩ := info_parts Try.info1
      have f1 : (row σ k).length + 1 ≤ maxLen := by unfold maxLen; omega
      have f2 : ((row σ k).length + 1) * 8 ≤ 140737488355328 := by omega
      have n1 : ¬ w.heap.size = C.wb := fun e => by have := c1.1.2; rw [e, MC.out.wbR] at this; cases this
      have n2 : ¬ C.sb = C.wb := MC.out.ne_sw
      have NE1 : Hid (some w.heap.size ≠ v.ownBlock) := HNE.out _ (by rw [c1.1.2]; intro e; cases e)
      have NE2 : Hid (some C.sb ≠ v.ownBlock) := HNE.out _ (by rw [MC.out.sbR]; intro e; cases e)
      have NE3 : Hid (some C.wb ≠ v.ownBlock) := HNE.out _ (by rw [MC.out.wbR]; intro e; cases e)
      have B1 := Lib.hid b1
      have B2 := Lib.hid b2
      have B3 := Lib.hid b3
      have O1 := Lib.hid o1
      have O2 := Lib.hid o2
      have O3 := Lib.hid o3
      have HV : Hid (wv[k]? = some v) := by
        show wv[k]? = some v
        rw [List.getElem?_eq_getElem (by omega), hv]
      have M4 := Lib.hid m4
      have CC := Lib.hid (And.intro c1 (And.intro c2 c3))
      have HRr := Lib.hid hr
      have HX4 := Lib.hid h44
      clear b1 b2 b3 o1 o2 o3 hv m4 m5 s1 s2 s3 c1 c2 c3 hr h44 m2
      go_wp2_with fail
      have KP : Hid (∀ W : World, W.heap[w.heap.size]? = wc.heap[w.heap.size]? → W.heap[C.sb]? = wc.heap[C.sb]? → W.cell? ⟨w.heap.size, 0, none⟩ = some (ptr C.sb) ∧ W.cell? ⟨C.sb, 2, none⟩ = some (.slice (some ⟨C.wb, 0, none⟩) C.N C.N)) := fun W h1 h2 => ⟨(World.cell?_of_block (a := ⟨w.heap.size, 0, none⟩) h1).trans k61, (World.cell?_of_block (a := ⟨C.sb, 2, none⟩) h2).trans k62⟩
      refine wp_region_held_drew (S := fun W => W.cell? ⟨w.heap.size, 0, none⟩ = some (ptr C.sb) ∧ W.cell? ⟨C.sb, 2, none⟩ = some (.slice (some ⟨C.wb, 0, none⟩) C.N C.N)) (by kernel_rfl) (KP.out _ rfl rfl) (fun hHeld => ?_)
      refine' wpAnyH_take (i := 0) (oi := { dst := some 24, op := Op.load 81 (Operand.tmp 4), type := 81, pos := "known.go:80", after := #[], guard := none }) (v := ptr C.sb) rfl (by kernel_rfl) (by kernel_rfl) (by kernel_rfl) (fun _ _ _ h => h) (.inl ⟨by rfl, fun W hs => by obtain ⟨hs1, hs2⟩ := hs; go_simp⟩) (by assumption) ?qz1
      try simp only [Act.put, List.setIfInBounds_toArray, List.set_cons_zero, List.set_cons_succ]
      refine' wpAnyH_take (i := 1) (oi := { dst := some 25, op := Op.nilCheck (Operand.tmp 24), type := 0, pos := "known.go:80", after := #[{ on := 0, ground := Ground.data }], guard := none }) (v := ptr C.sb) rfl (by kernel_rfl) (by kernel_rfl) (by kernel_rfl) (fun _ _ _ h => h) (.inl ⟨by rfl, fun W hs => by obtain ⟨hs1, hs2⟩ := hs; go_simp⟩) (by assumption) ?qz2
      try simp only [Act.put, List.setIfInBounds_toArray, List.set_cons_zero, List.set_cons_succ]
      refine' wpAnyH_take (i := 2) (oi := { dst := some 26, op := Op.fieldAddr 86 (Operand.tmp 25) 2, type := 0, pos := "known.go:80", after := #[{ on := 1, ground := Ground.data }], guard := none }) (v := .pointer (some ⟨C.sb, 2, none⟩)) rfl (by kernel_rfl) (by kernel_rfl) (by kernel_rfl) (fun _ _ _ h => h) (.inl ⟨by rfl, fun W hs => by obtain ⟨hs1, hs2⟩ := hs; go_simp⟩) (by assumption) ?qz3
      try simp only [Act.put, List.setIfInBounds_toArray, List.set_cons_zero, List.set_cons_succ]
      refine' wpAnyH_take (i := 3) (oi := { dst := some 27, op := Op.load 84 (Operand.tmp 26), type := 84, pos := "known.go:80", after := #[{ on := 2, ground := Ground.data }], guard := none }) (v := .slice (some ⟨C.wb, 0, none⟩) C.N C.N) rfl (by kernel_rfl) (by kernel_rfl) (by kernel_rfl) (fun _ _ _ h => h) (.inl ⟨by rfl, fun W hs => by obtain ⟨hs1, hs2⟩ := hs; go_simp⟩) (by assumption) ?qz4
      try simp only [Act.put, List.setIfInBounds_toArray, List.set_cons_zero, List.set_cons_succ]
      refine' wpAnyH_take (i := 4) (oi := { dst := some 28, op := Op.move (Operand.tmp 8), type := 3, pos := "known.go:80", after := #[], guard := none }) (v := .int .i64 k) rfl (by kernel_rfl) (by kernel_rfl) (by kernel_rfl) (fun _ _ _ h => h) (.inl ⟨by rfl, fun W hs => by obtain ⟨hs1, hs2⟩ := hs; go_simp⟩) (by assumption) ?qz5
      try simp only [Act.put, List.setIfInBounds_toArray, List.set_cons_zero, List.set_cons_succ]
      refine' wpAnyH_take (i := 5) (oi := { dst := some 29, op := Op.load 81 (Operand.tmp 4), type := 81, pos := "known.go:80", after := #[], guard := none }) (v := ptr C.sb) rfl (by kernel_rfl) (by kernel_rfl) (by kernel_rfl) (fun _ _ _ h => h) (.inl ⟨by rfl, fun W hs => by obtain ⟨hs1, hs2⟩ := hs; go_simp⟩) (by assumption) ?qz6
      try simp only [Act.put, List.setIfInBounds_toArray, List.set_cons_zero, List.set_cons_succ]
      refine' wpAnyH_take (i := 6) (oi := { dst := some 30, op := Op.nilCheck (Operand.tmp 29), type := 0, pos := "known.go:80", after := #[{ on := 5, ground := Ground.data }], guard := none }) (v := ptr C.sb) rfl (by kernel_rfl) (by kernel_rfl) (by kernel_rfl) (fun _ _ _ h => h) (.inl ⟨by rfl, fun W hs => by obtain ⟨hs1, hs2⟩ := hs; go_simp⟩) (by assumption) ?qz7
      try simp only [Act.put, List.setIfInBounds_toArray, List.set_cons_zero, List.set_cons_succ]
      refine' wpAnyH_take (i := 7) (oi := { dst := some 31, op := Op.fieldAddr 86 (Operand.tmp 30) 2, type := 0, pos := "known.go:80", after := #[{ on := 6, ground := Ground.data }], guard := none }) (v := .pointer (some ⟨C.sb, 2, none⟩)) rfl (by kernel_rfl) (by kernel_rfl) (by kernel_rfl) (fun _ _ _ h => h) (.inl ⟨by rfl, fun W hs => by obtain ⟨hs1, hs2⟩ := hs; go_simp⟩) (by assumption) ?qz8
      try simp only [Act.put, List.setIfInBounds_toArray, List.set_cons_zero, List.set_cons_succ]
      refine' wpAnyH_take (i := 8) (oi := { dst := some 32, op := Op.load 84 (Operand.tmp 31), type := 84, pos := "known.go:80", after := #[{ on := 7, ground := Ground.data }], guard := none }) (v := .slice (some ⟨C.wb, 0, none⟩) C.N C.N) rfl (by kernel_rfl) (by kernel_rfl) (by kernel_rfl) (fun _ _ _ h => h) (.inl ⟨by rfl, fun W hs => by obtain ⟨hs1, hs2⟩ := hs; go_simp⟩) (by assumption) ?qz9
      try simp only [Act.put, List.setIfInBounds_toArray, List.set_cons_zero, List.set_cons_succ]
      refine' wpAnyH_take (i := 9) (oi := { dst := some 33, op := Op.move (Operand.tmp 8), type := 3, pos := "known.go:80", after := #[], guard := none }) (v := .int .i64 k) rfl (by kernel_rfl) (by kernel_rfl) (by kernel_rfl) (fun _ _ _ h => h) (.inl ⟨by rfl, fun W hs => by obtain ⟨hs1, hs2⟩ := hs; go_simp⟩) (by assumption) ?qz10
      try simp only [Act.put, List.setIfInBounds_toArray, List.set_cons_zero, List.set_cons_succ]
      refine' wpAnyH_take (i := 10) (oi := { dst := some 34, op := Op.indexAddr 84 (Operand.tmp 32) (Operand.tmp 33), type := 0, pos := "known.go:80", after := #[{ on := 8, ground := Ground.data }, { on := 9, ground := Ground.data }], guard := none }) (v := .pointer (some ⟨C.wb, k, none⟩)) rfl (by kernel_rfl) (by kernel_rfl) (by kernel_rfl) (fun _ _ _ h => h) (.inl ⟨by rfl, fun W hs => by obtain ⟨hs1, hs2⟩ := hs; go_simp⟩) (by assumption) ?qz11
      try simp only [Act.put, List.setIfInBounds_toArray, List.set_cons_zero, List.set_cons_succ]
      refine' wpAnyH_take (i := 12) (oi := { dst := some 36, op := Op.makeFunc (Fn.func 56) #[] #[Operand.tmp 4, Operand.tmp 9, Operand.tmp 6, Operand.tmp 7], type := 1, pos := "known.go:80", after := #[], guard := none }) (v := .func (.func 56) #[] #[ptr w.heap.size, ptr r, ptr (w.heap.size + 1), ptr (w.heap.size + 1 + 1)]) rfl (by kernel_rfl) (by kernel_rfl) (by kernel_rfl) (fun _ _ _ h => h) (.inl ⟨by rfl, fun W hs => by obtain ⟨hs1, hs2⟩ := hs; go_simp⟩) (by assumption) ?qz12
      try simp only [Act.put, List.setIfInBounds_toArray, List.set_cons_zero, List.set_cons_succ]
      refine wpAnyH_ready (rs := [11, 13]) (by kernel_rfl) (by simp) ?_
      refine AllReadyH.cons (o := { dst := some 35, op := Op.load 105 (Operand.tmp 34), type := 105, pos := "known.go:80", after := #[{ on := 10, ground := Ground.data }], guard := none }) rfl (fun K hK => ?_) (AllReadyH.cons (o := { dst := some 37, op := Op.buildSlice 105 1 #[(0, Operand.tmp 36)], type := 105, pos := "known.go:80", after := #[{ on := 12, ground := Ground.data }], guard := none }) rfl (fun K hK => ?_) AllReadyH.nil)
      · rw [if_pos (by rfl)]
        go_simp
        refine hK.out _ _ hHeld (fun hHeld => ?_)
        clear hK K
        try simp only [Act.put, List.setIfInBounds_toArray, List.set_cons_zero, List.set_cons_succ]
        refine wpAnyH_ready (rs := [13]) (by kernel_rfl) (by simp) ?_
        refine AllReadyH.cons (o := { dst := some 37, op := Op.buildSlice 105 1 #[(0, Operand.tmp 36)], type := 105, pos := "known.go:80", after := #[{ on := 12, ground := Ground.data }], guard := none }) rfl (fun K hK => ?_) AllReadyH.nil
        rw [if_pos (by rfl)]
        go_simp
        refine hK.out _ _ (KP.out _ (Below.heap_alloc _ _ _ lc1) (Below.heap_alloc _ _ _ ls)) (fun hHeld => ?_)
        clear hK K
        try simp only [Act.put, List.setIfInBounds_toArray, List.set_cons_zero, List.set_cons_succ]
        refine wpAnyH_ready (rs := [14]) (by kernel_rfl) (by simp) ?_
        refine AllReadyH.cons (o := { dst := some 38, op := Op.call { callee := Callee.builtin Builtin.append, args := #[Operand.tmp 35, Operand.tmp 37], argTypes := #[105, 105] }, type := 105, pos := "known.go:80", after := #[{ on := 11, ground := Ground.data }, { on := 13, ground := Ground.data }], guard := none }) rfl (fun K hK => ?_) AllReadyH.nil
        rw [if_pos (by rfl)]
        refine wp_append_lies _ _ _ _ rfl 0 1 i1 .nilFunc 1 8 Try.underlying105 hi1 hy0 hy1 hy2 rfl Nat.one_pos v (row σ k).length vs (by rfl) (World.ownsRow.alloc (w := wc.drew) O1.out (.cells #[.func (.func 56) #[] #[ptr w.heap.size, ptr r, ptr (w.heap.size + 1), ptr (w.heap.size + 1 + 1)]] 1)) ⟨wc.heap.size, 0, none⟩ 1 1 [.func (.func 56) #[] #[ptr w.heap.size, ptr r, ptr (w.heap.size + 1), ptr (w.heap.size + 1 + 1)]] (by rfl) rfl (cell_one_new wc.drew _ _) (one_func _ _) Nat.one_pos f1 f2 (Nat.zero_le _) (wc.heap.size + 1) (by simp) ?_
        intro g5 cap5 w5 hown5 hgrow5 hat5 hlt5
        have hold5 : ∀ x, x < wc.heap.size → some x ≠ v.ownBlock → w5.heap[x]? = wc.heap[x]? := fun x hx hne => (hgrow5.block x (by simp; omega) hne).trans (Below.heap_alloc wc _ _ hx)
        have hB5 := (hold5 _ lw NE3.out).trans B1.out
        have k53 : w5.cell? ⟨C.wb, k, none⟩ = some v := (World.cell?_of_block (a := ⟨C.wb, k, none⟩) (hold5 _ lw NE3.out)).trans k63
        have f53 : w5.frozen? ⟨C.wb, k, none⟩ = false := by simp [World.frozen?, hB5]
        have E51 := hold5 _ lc1 NE1.out
        have E52 := hold5 _ ls NE2.out
        refine hK.out _ _ (KP.out _ E51 E52) (fun hHeld => ?_)
        clear hK K
        try simp only [Act.put, List.setIfInBounds_toArray, List.set_cons_zero, List.set_cons_succ]
        refine' wpAnyH_take (i := 15) (oi := { dst := some 39, op := Op.indexAddr 84 (Operand.tmp 27) (Operand.tmp 28), type := 0, pos := "known.go:80", after := #[{ on := 3, ground := Ground.data }, { on := 4, ground := Ground.data }, { on := 0, ground := Ground.phase }, { on := 1, ground := Ground.phase }, { on := 2, ground := Ground.phase }, { on := 3, ground := Ground.phase }, { on := 4, ground := Ground.phase }, { on := 5, ground := Ground.phase }, { on := 6, ground := Ground.phase }, { on := 7, ground := Ground.phase }, { on := 8, ground := Ground.phase }, { on := 9, ground := Ground.phase }, { on := 10, ground := Ground.phase }, { on := 11, ground := Ground.phase }, { on := 12, ground := Ground.phase }, { on := 13, ground := Ground.phase }, { on := 14, ground := Ground.phase }], guard := none }) (v := .pointer (some ⟨C.wb, k, none⟩)) rfl (by kernel_rfl) (by kernel_rfl) (by kernel_rfl) (fun _ _ _ h => h) (.inl ⟨by rfl, fun W hs => by obtain ⟨hs1, hs2⟩ := hs; go_simp⟩) (by assumption) ?qz13
        try simp only [Act.put, List.setIfInBounds_toArray, List.set_cons_zero, List.set_cons_succ]
        refine wpAnyH_ready (rs := [16]) (by kernel_rfl) (by simp) ?_
        refine AllReadyH.cons (o := { dst := none, op := Op.store 105 (Operand.tmp 39) (Operand.tmp 38), type := 0, pos := "known.go:80", after := #[{ on := 15, ground := Ground.data }, { on := 14, ground := Ground.data }, { on := 14, ground := Ground.chain }, { on := 0, ground := Ground.phase }, { on := 1, ground := Ground.phase }, { on := 2, ground := Ground.phase }, { on := 3, ground := Ground.phase }, { on := 4, ground := Ground.phase }, { on := 5, ground := Ground.phase }, { on := 6, ground := Ground.phase }, { on := 7, ground := Ground.phase }, { on := 8, ground := Ground.phase }, { on := 9, ground := Ground.phase }, { on := 10, ground := Ground.phase }, { on := 11, ground := Ground.phase }, { on := 12, ground := Ground.phase }, { on := 13, ground := Ground.phase }, { on := 14, ground := Ground.phase }], guard := none }) rfl (fun K hK => ?_) AllReadyH.nil
        rw [if_pos (by rfl)]
        go_simp
        refine hK.out _ _ (KP.out _ ((Below.heap_setCell _ _ _ _ n1).trans E51) ((Below.heap_setCell _ _ _ _ n2).trans E52)) (fun hHeld => ?_)
        clear hK K
        refine wpAnyH_done (by kernel_rfl) ?_ _
        go_end0
        have hj : MJb C T wc g bx (.func (.func 56) #[] #[ptr w.heap.size, ptr r, ptr (w.heap.size + 1), ptr (w.heap.size + 1 + 1)]) ⟨ys, below, d⟩ := ⟨_, _, _, _, A4, c4, _, rfl, CC.out.1, HRr.out, h42, h43, by show ys.length < _; omega, HX4.out, CC.out.2.1, hb, CC.out.2.2, HD.out.tr EX.out not_ns⟩
        obtain ⟨g6, hm6, he6⟩ := park_end MC.out hkN B1.out B2.out B3.out HV.out O1.out O2.out O3.out hown5 rfl hgrow5 hat5 hj
        refine ⟨rfl, g6, ?_, EX.out.trans he6⟩
        have e : awaitS run σ b below d = parkS σ k ⟨ys, below, d⟩ := by
          unfold awaitS
          rw [if_neg (by rw [HK.out]; exact h0), HK.out, HY.out]
        rw [e]
        exact hm6
      · rw [if_pos (by rfl)]
        go_simp
        refine hK.out _ _ (KP.out _ (Below.heap_alloc _ _ _ lc1) (Below.heap_alloc _ _ _ ls)) (fun hHeld => ?_)
        clear hK K
        try simp only [Act.put, List.setIfInBounds_toArray, List.set_cons_zero, List.set_cons_succ]
        refine wpAnyH_ready (rs := [11]) (by kernel_rfl) (by simp) ?_
        refine AllReadyH.cons (o := { dst := some 35, op := Op.load 105 (Operand.tmp 34), type := 105, pos := "known.go:80", after := #[{ on := 10, ground := Ground.data }], guard := none }) rfl (fun K hK => ?_) AllReadyH.nil
        rw [if_pos (by rfl)]
        go_simp
        refine hK.out _ _ hHeld (fun hHeld => ?_)
        clear hK K
        try simp only [Act.put, List.setIfInBounds_toArray, List.set_cons_zero, List.set_cons_succ]
        refine wpAnyH_ready (rs := [14]) (by kernel_rfl) (by simp) ?_
        refine AllReadyH.cons (o := { dst := some 38, op := Op.call { callee := Callee.builtin Builtin.append, args := #[Operand.tmp 35, Operand.tmp 37], argTypes := #[105, 105] }, type := 105, pos := "known.go:80", after := #[{ on := 11, ground := Ground.data }, { on := 13, ground := Ground.data }], guard := none }) rfl (fun K hK => ?_) AllReadyH.nil
        rw [if_pos (by rfl)]
        refine wp_append_lies _ _ _ _ rfl 0 1 i1 .nilFunc 1 8 Try.underlying105 hi1 hy0 hy1 hy2 rfl Nat.one_pos v (row σ k).length vs (by rfl) (World.ownsRow.alloc (w := wc.drew) O1.out (.cells #[.func (.func 56) #[] #[ptr w.heap.size, ptr r, ptr (w.heap.size + 1), ptr (w.heap.size + 1 + 1)]] 1)) ⟨wc.heap.size, 0, none⟩ 1 1 [.func (.func 56) #[] #[ptr w.heap.size, ptr r, ptr (w.heap.size + 1), ptr (w.heap.size + 1 + 1)]] (by rfl) rfl (cell_one_new wc.drew _ _) (one_func _ _) Nat.one_pos f1 f2 (Nat.zero_le _) (wc.heap.size + 1) (by simp) ?_
        intro g5 cap5 w5 hown5 hgrow5 hat5 hlt5
        have hold5 : ∀ x, x < wc.heap.size → some x ≠ v.ownBlock → w5.heap[x]? = wc.heap[x]? := fun x hx hne => (hgrow5.block x (by simp; omega) hne).trans (Below.heap_alloc wc _ _ hx)
        have hB5 := (hold5 _ lw NE3.out).trans B1.out
        have k53 : w5.cell? ⟨C.wb, k, none⟩ = some v := (World.cell?_of_block (a := ⟨C.wb, k, none⟩) (hold5 _ lw NE3.out)).trans k63
        have f53 : w5.frozen? ⟨C.wb, k, none⟩ = false := by simp [World.frozen?, hB5]
        have E51 := hold5 _ lc1 NE1.out
        have E52 := hold5 _ ls NE2.out
        refine hK.out _ _ (KP.out _ E51 E52) (fun hHeld => ?_)
        clear hK K
        try simp only [Act.put, List.setIfInBounds_toArray, List.set_cons_zero, List.set_cons_succ]
        refine' wpAnyH_take (i := 15) (oi := { dst := some 39, op := Op.indexAddr 84 (Operand.tmp 27) (Operand.tmp 28), type := 0, pos := "known.go:80", after := #[{ on := 3, ground := Ground.data }, { on := 4, ground := Ground.data }, { on := 0, ground := Ground.phase }, { on := 1, ground := Ground.phase }, { on := 2, ground := Ground.phase }, { on := 3, ground := Ground.phase }, { on := 4, ground := Ground.phase }, { on := 5, ground := Ground.phase }, { on := 6, ground := Ground.phase }, { on := 7, ground := Ground.phase }, { on := 8, ground := Ground.phase }, { on := 9, ground := Ground.phase }, { on := 10, ground := Ground.phase }, { on := 11, ground := Ground.phase }, { on := 12, ground := Ground.phase }, { on := 13, ground := Ground.phase }, { on := 14, ground := Ground.phase }], guard := none }) (v := .pointer (some ⟨C.wb, k, none⟩)) rfl (by kernel_rfl) (by kernel_rfl) (by kernel_rfl) (fun _ _ _ h => h) (.inl ⟨by rfl, fun W hs => by obtain ⟨hs1, hs2⟩ := hs; go_simp⟩) (by assumption) ?qz14
        try simp only [Act.put, List.setIfInBounds_toArray, List.set_cons_zero, List.set_cons_succ]
        refine wpAnyH_ready (rs := [16]) (by kernel_rfl) (by simp) ?_
        refine AllReadyH.cons (o := { dst := none, op := Op.store 105 (Operand.tmp 39) (Operand.tmp 38), type := 0, pos := "known.go:80", after := #[{ on := 15, ground := Ground.data }, { on := 14, ground := Ground.data }, { on := 14, ground := Ground.chain }, { on := 0, ground := Ground.phase }, { on := 1, ground := Ground.phase }, { on := 2, ground := Ground.phase }, { on := 3, ground := Ground.phase }, { on := 4, ground := Ground.phase }, { on := 5, ground := Ground.phase }, { on := 6, ground := Ground.phase }, { on := 7, ground := Ground.phase }, { on := 8, ground := Ground.phase }, { on := 9, ground := Ground.phase }, { on := 10, ground := Ground.phase }, { on := 11, ground := Ground.phase }, { on := 12, ground := Ground.phase }, { on := 13, ground := Ground.phase }, { on := 14, ground := Ground.phase }], guard := none }) rfl (fun K hK => ?_) AllReadyH.nil
        rw [if_pos (by rfl)]
        go_simp
        refine hK.out _ _ (KP.out _ ((Below.heap_setCell _ _ _ _ n1).trans E51) ((Below.heap_setCell _ _ _ _ n2).trans E52)) (fun hHeld => ?_)
        clear hK K
        refine wpAnyH_done (by kernel_rfl) ?_ _
        go_end0
        have hj : MJb C T wc g bx (.func (.func 56) #[] #[ptr w.heap.size, ptr r, ptr (w.heap.size + 1), ptr (w.heap.size + 1 + 1)]) ⟨ys, below, d⟩ := ⟨_, _, _, _, A4, c4, _, rfl, CC.out.1, HRr.out, h42, h43, by show ys.length < _; omega, HX4.out, CC.out.2.1, hb, CC.out.2.2, HD.out.tr EX.out not_ns⟩
        obtain ⟨g6, hm6, he6⟩ := park_end MC.out hkN B1.out B2.out B3.out HV.out O1.out O2.out O3.out hown5 rfl hgrow5 hat5 hj
        refine ⟨rfl, g6, ?_, EX.out.trans he6⟩
        have e : awaitS run σ b below d = parkS σ k ⟨ys, below, d⟩ := by
          unfold awaitS
          rw [if_neg (by rw [HK.out]; exact h0), HK.out, HY.out]
        rw [e]
        exact hm6
end
end Go.Proofs.Ytbhfjjlfpgineaa
