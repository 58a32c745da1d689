/- The reference's disk: Read, Write. Conditions: at most 2^20 writes wait. -/
import Derived.Test.YtonpcenjipigpaaGreatZ41
import Derived.Test.YtonpcenjipigpaaGreatZ15
namespace Go.Proofs.YtonpcenjipigpaaGreat
open Go.RowKit
/-- What the reference's Read answers of a block. -/
def ReadR (w : World) (b : List UInt8) (e : Ending) (w' : World) : Prop :=
  ∃ g c, e = .returned (.tuple #[.slice (some ⟨g, 0, none⟩) 64 c, .int .i64 0]) ∧ 64 ≤ c ∧ w.heap.size ≤ g ∧ Byt w' (fun k => k = g) (some ⟨g, 0, none⟩) b ∧ w.grownBy w' none ∧ c ≤ maxLen ∧ g < w'.heap.size
section
variable {foot : Nat → Prop} {w : World} {p : Nat} {s : St}
theorem rread_no (h : RDsk w foot p s) {a : Int} (ha : ¬ (0 ≤ a ∧ a < (s.n : Int))) : Calls Tryz.prog 32 #[.pointer (some ⟨p, 0, none⟩), .int .i64 a] w fun e w' => e = .returned (.tuple #[.slice none 0 0, .int .i64 1]) ∧ w = w' := by
  obtain ⟨gk, Av, Bv, vs, h1, h2, h3, h4, h5, h6, h7⟩ := h
  have c0 : w.cell? ⟨p, 0, none⟩ = some (.int .i64 (s.n : Int)) := h1.get 0 _ rfl
  clear h1 h2 h3 h4 h5 h6 h7
  by_cases h0 : a < 0
  · have d1 : decide (a < 0) = true := by simpa using h0
    go_enter Tryz.func32, Tryz.ntmps32
    go_wp2
    go_ret2
    exact ⟨rfl, rfl⟩
  · have d1 : decide (a < 0) = false := by simpa using h0
    have d2 : decide ((s.n : Int) ≤ a) = true := by simp; omega
    clear ha
    go_enter Tryz.func32, Tryz.ntmps32
    go_wp2
    go_ret2
    exact ⟨rfl, rfl⟩
theorem rread_dead (h : RDsk w foot p s) {i : Nat} (hi : i < s.n) (hd : s.dead = true) : Calls Tryz.prog 32 #[.pointer (some ⟨p, 0, none⟩), .int .i64 (i : Int)] w fun e w' => e = .returned (.tuple #[.slice none 0 0, .int .i64 150]) ∧ w = w' := by
  obtain ⟨gk, Av, Bv, vs, h1, h2, h3, h4, h5, h6, h7⟩ := h
  have c0 : w.cell? ⟨p, 0, none⟩ = some (.int .i64 (s.n : Int)) := h1.get 0 _ rfl
  have c5 : w.cell? ⟨p, 5, none⟩ = some (.bool s.dead) := h1.get 5 _ rfl
  rw [hd] at c5
  have d1 : decide ((i : Int) < 0) = false := by simp
  have d2 : decide (s.n ≤ i) = false := by simp; omega
  clear h1 h2 h3 h4 h5 h6 h7 hd hi
  go_enter Tryz.func32, Tryz.ntmps32
  go_wp2
  go_ret2
  exact ⟨rfl, rfl⟩
set_option maxRecDepth 100000 in
set_option maxHeartbeats 4000000 in
theorem rread_yes (h : RDsk w foot p s) (hL : s.L.length ≤ 1048576) {i : Nat} (hi : i < s.n) (hd : s.dead = false) : Calls Tryz.prog 32 #[.pointer (some ⟨p, 0, none⟩), .int .i64 (i : Int)] w (ReadR w (blk (redo s.K s.L) i)) := by
  obtain ⟨gk, Av, Bv, vs, h1, h2, h3, h4, h5, h6, h7⟩ := h
  obtain ⟨Aa, ca, rfl⟩ := own_shape h3
  obtain ⟨Ba, cb, rfl⟩ := own_shape h4
  have c0 : w.cell? ⟨p, 0, none⟩ = some (.int .i64 (s.n : Int)) := h1.get 0 _ rfl
  have c1 : w.cell? ⟨p, 1, none⟩ = some (.slice (some ⟨gk, 0, none⟩) (64 * s.n) (64 * s.n)) := h1.get 1 _ rfl
  have c5 : w.cell? ⟨p, 5, none⟩ = some (.bool s.dead) := h1.get 5 _ rfl
  rw [hd] at c5
  have d1 : decide ((i : Int) < 0) = false := by simp
  have d2 : decide (s.n ≤ i) = false := by simp; omega
  obtain ⟨m, hm⟩ : ∃ m, m = s.L.length := ⟨_, rfl⟩
  rw [← hm] at h1 h3 h4 h5 h6 hL
  have hn4 := h7.2.1
  have hx : Byt w (fun b => b = gk) (some ⟨gk, 64 * i, none⟩) (blk s.K i) := by
    have h2' := h2
    rw [mid_parts s.K i] at h2'
    exact h2'.byt (by rw [u8s_length, List.length_take, h7.2.2.1]; omega)
  have hbl : (blk s.K i).length = 64 := blk_length h7.2.2.1 hi
  have hk64 : IntKind.i64.wrap (64 * (i : Int)) = 64 * (i : Int) := IntWalk.i64_in _ (by omega)
  have hk65 : IntKind.i64.wrap (64 * (i : Int) + 64) = 64 * (i : Int) + 64 := IntWalk.i64_in _ (by omega)
  have q1 : (0 : Int) ≤ 64 * (i : Int) := by omega
  have q2 : 64 * (i : Int) + 64 ≤ 64 * (s.n : Int) := by omega
  have q3 : (64 * (i : Int)).toNat = 64 * i := by omega
  have q4 : (64 * (i : Int) + 64).toNat = 64 * i + 64 := by omega
  have q7 : ¬ s.n = i := by omega
  have q8 : i ≤ s.n := by omega
  obtain ⟨i5, hi5, hz0, hz1, hz2⟩ := info_parts Tryz.info5
  have HNW : Hid (∀ j u, (u8s (blk s.K i))[j]? = some u → w.cell? ((⟨gk, 64 * i, none⟩ : Addr).add j) = some u) := fun j u hu => by
    obtain ⟨hj, rfl⟩ := u8s_get _ j u hu
    obtain ⟨ad, e, _, hc⟩ := hx j hj
    cases e
    exact hc
  have H1 := Lib.hid h1
  have H3 := Lib.hid h3
  have H4 := Lib.hid h4
  have H5 := Lib.hid h5
  have H6 := Lib.hid h6
  have H7 := Lib.hid h7
  have HM := Lib.hid hm
  have HX := Lib.hid hx
  have HBL := Lib.hid hbl
  have HI := Lib.hid hi
  clear h1 h2 h3 h4 h5 h6 h7 hm hd hx hbl hi
  go_enter Tryz.func32, Tryz.ntmps32
  go_wp2_with (first
    | (at_builtin
       refine wpList_append_lies _ rfl _ _ 40 rfl w.heap.size 5 i5 _ 1 1 Tryz.underlying40 hi5 hz0 hz1 hz2 rfl (by omega) (.slice none 0 0) 0 [] rfl (World.ownsRow_nil _ _ _ _) ⟨gk, 64 * i, none⟩ 64 _ (u8s (blk s.K i)) rfl (by rw [u8s_length, HBL.out]) HNW.out (u8s_one _) (by omega) (by unfold maxLen; omega) (by omega) (Nat.le_refl _) _ rfl ?_
       intro g2 c2 w1 hown hgrow hat hlt)
    | fail)
  have hg1 : w.grownBy w1 none := hgrow
  have hcm2 : c2 ≤ maxLen := by
    rcases hown.2 with ⟨_, e⟩ | ⟨_, _, _, e, _, _, _, h5, _⟩
    · cases e
    · cases e; exact h5
  have HCM2 := Lib.hid hcm2
  clear hcm2
  obtain ⟨g', c', tl, e, hge, hbk, hnc, _⟩ := own_tail hown (by omega)
  simp only [Value.slice.injEq, Option.some.injEq, Addr.mk.injEq, true_and, and_true] at e
  obtain ⟨rfl, rfl⟩ := e
  have HB0 := Lib.hid (show Blk w1 g2 5 (u8s (blk (redo s.K (s.L.take 0)) i) ++ tl) by simpa [redo] using hbk)
  have HG1 := Lib.hid hg1
  have HGE := Lib.hid hge
  have HNC := Lib.hid hnc
  clear hown hgrow hat hlt hge hbk hnc hg1 c0 c5 d1 d2 hk64 hk65 q1 q2 q3 q4 q7 q8
  go_loopw [7] (fun vi wr => ∃ k : Nat, k ≤ m ∧ vi = .int .i64 (k : Int) ∧ Blk wr g2 5 (u8s (blk (redo s.K (s.L.take k)) i) ++ tl) ∧ w.grownBy wr none) (fun vi _ => m - (intOf vi).toNat)
  case atStart => exact ⟨0, Nat.zero_le _, rfl, HB0.out, HG1.out⟩
  case round =>
    clear HB0 HG1
    obtain ⟨k, hk, rfl, r1, r2⟩ := hrel
    obtain ⟨wo, rfl⟩ : ∃ wo : World, wo = wr := ⟨_, rfl⟩
    have hp1 : Blk wo p 44 (rcells s.n gk (.slice Aa m ca) (.slice Ba m cb) (max s.f (-1)) s.dead) := H1.out.grown r2 (by simp)
    have c2' : wo.cell? ⟨p, 2, none⟩ = some (.slice Aa m ca) := hp1.get 2 _ rfl
    have c3' : wo.cell? ⟨p, 3, none⟩ = some (.slice Ba m cb) := hp1.get 3 _ rfl
    clear hp1
    by_cases hl1 : k < m
    · have d1 : decide ((k : Int) < (m : Int)) = true := by simp; omega
      have hlL : k < s.L.length := by rw [← HM.out]; exact hl1
      obtain ⟨ga, ca', e, _, _⟩ := H3.out.form (by omega)
      simp only [Value.slice.injEq] at e
      obtain ⟨rfl, -, rfl⟩ := e
      obtain ⟨gb, cb', e, _, _⟩ := H4.out.form (by omega)
      simp only [Value.slice.injEq] at e
      obtain ⟨rfl, -, rfl⟩ := e
      obtain ⟨g, c, v1, v2, v3, v4, v5, v6, v7, v8⟩ := H5.out.2 k hlL
      have a1 : wo.cell? ⟨ga, k, none⟩ = some (.int .i64 (s.L[k].1 : Int)) := by
        have := H3.out.cells (g := ga) rfl k _ (ats_get s.L k hlL)
        rw [Addr.add_mid, Nat.zero_add] at this
        exact (World.cell?_of_block (r2.block ga (H6.out.lt ga (H6.out.av ga rfl).1) (by simp))).trans this
      have a2 : wo.cell? ⟨gb, k, none⟩ = some (.slice (some ⟨g, 0, none⟩) 64 c) := by
        have := H4.out.cells (g := gb) rfl k _ v1
        rw [Addr.add_mid, Nat.zero_add] at this
        exact (World.cell?_of_block (r2.block gb (H6.out.lt gb (H6.out.bv gb rfl).1) (by simp))).trans this
      have hfit := H7.out.2.2.2.1 s.L[k] (List.getElem_mem _)
      have hsrc : Byt wo (fun b => b = g) (some ⟨g, 0, none⟩) s.L[k].2 := v8.grown r2 (by rintro b rfl; exact ⟨H6.out.lt b v3, by simp⟩)
      have hKl : (redo s.K (s.L.take k)).length = 64 * s.n := redo_length (H7.out.2.2.2.1.take _) H7.out.2.2.1
      have hrt := redo_take_succ s.K s.L k hlL
      obtain ⟨K1, hK1⟩ : ∃ K1, K1 = redo s.K (s.L.take k) := ⟨_, rfl⟩
      obtain ⟨at_, hat⟩ : ∃ a, a = s.L[k].1 := ⟨_, rfl⟩
      obtain ⟨bb, hbb⟩ : ∃ b, b = s.L[k].2 := ⟨_, rfl⟩
      rw [← hat, ← hbb, ← hK1] at hrt
      rw [← hK1] at r1 hKl
      rw [← hat] at a1
      rw [← hbb] at hsrc
      rw [← hat, ← hbb] at hfit
      obtain ⟨hf1, hf2⟩ := hfit
      have HSR := Lib.hid hsrc
      have HF2 := Lib.hid hf2
      have HRT := Lib.hid hrt
      have HKL := Lib.hid hKl
      have R1 := Lib.hid r1
      have R2 := Lib.hid r2
      have HB1 : Hid ((blk K1 i).length = 64) := blk_length hKl HI.out
      clear v1 v2 v3 v4 v5 v6 v7 v8 hsrc hKl hrt hK1 hat hbb hf2 r1 r2
      by_cases hai : at_ = i
      · have e1 : ((at_ : Int) == (i : Int)) = true := by simp [hai]
        have e2 : (at_ == i) = true := by simp [hai]
        have HAI := Lib.hid hai
        clear hai
        go_wp2_with (first
          | (refine wpList_copy_blk rfl _ _ rfl g2 0 64 c2 64 c (some ⟨g, 0, none⟩) bb (blk K1 i) rfl rfl HF2.out HB1.out 5 [] tl R1.out rfl (fun b => b = g) HSR.out 64 (by rw [HF2.out, HB1.out]; rfl) ?_
             intro w5 hb5 hg5 hz5
             rw [lay_full (by rw [HF2.out, HB1.out])] at hb5
             have HB5 : Hid (Blk w5 g2 5 (u8s (blk (redo s.K (s.L.take (k + 1))) i) ++ tl)) := by
               rw [HRT.out, HAI.out, blk_put HKL.out HI.out HF2.out]
               exact hb5
             have HG5 : Hid (w.grownBy w5 none) := World.grownBy.andThen R2.out hg5 (by have := HGE.out; rintro j ⟨⟩; exact .inl this)
             clear hb5 hg5 hz5)
          | fail)
        go_roundw
        case rel => exact ⟨k + 1, by omega, by go_num, HB5.out, HG5.out⟩
        case measure => simp [intOf]; omega
      · have e1 : ((at_ : Int) == (i : Int)) = false := by simp; omega
        have e2 : (at_ == i) = false := by simpa using hai
        have hb5 : Blk wo g2 5 (u8s (blk (redo s.K (s.L.take (k + 1))) i) ++ tl) := by
          rw [HRT.out, blk_put_ne HKL.out hf1 HF2.out hai]
          exact R1.out
        have HB5 := Lib.hid hb5
        clear hb5
        go_wp2
        go_roundw
        case rel => exact ⟨k + 1, by omega, by go_num, HB5.out, R2.out⟩
        case measure => simp [intOf]; omega
    · obtain rfl : k = m := by omega
      rw [HM.out, List.take_length] at r1
      have d1 : decide ((k : Int) < (k : Int)) = false := by simp
      have R1 := Lib.hid r1
      have R2 := Lib.hid r2
      clear r1 r2
      go_wp2
      go_ret2
      exact ⟨g2, c2, rfl, HNC.out, HGE.out, Blk.byt (pre := []) (post := tl) (by simpa using R1.out) rfl, R2.out, HCM2.out, R1.out.lt⟩
end
theorem run_buildSlice44 (w : World) (A : Option Addr) (n c : Nat) : (Instr.buildSlice 42 1 #[(0, .slice A n c)]).run Tryz.prog w = .ok (.slice (some ⟨w.heap.size, 0, none⟩) 1 1) (w.alloc (.cells #[.slice A n c] 40)) := by kernel_rfl
theorem wp_buildSlice44 {w : World} {o : Oper} {a : Act} {K : Act → World → Prop} {Q : Exit → Act → World → Prop} (x : Operand) (ho : o.op = .buildSlice 42 1 #[(0, x)]) (A : Option Addr) (n c : Nat) (hx : a.eval x = .slice A n c)
    (h : ∀ w', Hid (Blk w' w.heap.size 40 [.slice A n c]) → Hid (w.grownBy w' none) → Hid (w'.heap.size = w.heap.size + 1) → K (a.put o.dst (.slice (some ⟨w.heap.size, 0, none⟩) 1 1)) w') : o.wp Tryz.prog a w K Q := by
  have hrun := run_buildSlice44 w A n c
  have hbk := Blk.of_alloc w #[.slice A n c] 40
  unfold Oper.wp
  simp only [execOp, ho, List.map_toArray, List.map_cons, List.map_nil, hx, Sem.run_bind, hrun, Result.andThen_ok, Sem.run_pure]
  exact h _ hbk (World.grownBy_alloc w _ none) (World.size_alloc w _)
theorem ats_snoc (L : List (Nat × List UInt8)) (i : Nat) (b : List UInt8) : ats (L ++ [(i, b)]) = ats L ++ [.int .i64 (i : Int)] := by simp [ats]
/-- The reference's disk goes on as s'. -/
def NxtR (w : World) (foot : Nat → Prop) (p : Nat) (s' : St) (w' : World) : Prop := ∃ foot', RDsk w' foot' p s' ∧ (∀ k, foot' k → foot k ∨ (w.heap.size ≤ k ∧ k < w'.heap.size)) ∧ Md foot w w'
theorem NxtR.of {V : World} {ft : Nat → Prop} {p : Nat} {s : St} {w' : World} (hd : RDsk w' ft p s) (hm : Md ft V w') : NxtR V ft p s w' := ⟨ft, hd, fun _ hk => .inl hk, hm⟩
section
variable {foot : Nat → Prop} {w : World} {p : Nat} {s : St}
/-- All that the walk of Write gathers, put together. -/
theorem rwrite_end {w1 W2 w2 w3 v1 v2 v3 w4 : World} {gk m ga2 gb2 g1 capA capB c1 i : Nat} {Av Bv : Value} {vs : List Value} {bb : List UInt8} {tl : List Value}
    (hmd : Md foot w w1) (h2 : Blk w1 gk 5 (u8s s.K)) (h5 : RB w1 foot p gk Av Bv vs s.L) (h6 : RP foot w1 p gk Av Bv) (h7 : s.ok) (hm : m = s.L.length)
    (g12 : w1.grownBy W2 none) (z12 : w1.heap.size < W2.heap.size) (gA : W2.grownBy w2 Av.ownBlock) (aA : Av.ownBlock = some ga2 ∨ ga2 = W2.heap.size) (oA : w2.ownsRow 0 3 1 (.slice (some ⟨ga2, 0, none⟩) (m + 1) capA) (m + 1) (ats (s.L ++ [(i, bb)]))) (r3 : Wr p w2 w3)
    (f1 : w3.grownBy v1 none) (e1 : g1 = w3.heap.size) (b1 : Blk v1 g1 5 (u8s bb ++ tl)) (hc1 : 64 ≤ c1) (f2 : v1.grownBy v2 none) (gB : v2.grownBy v3 Bv.ownBlock) (aB : Bv.ownBlock = some gb2 ∨ gb2 = v2.heap.size)
    (oB : v3.ownsRow 0 40 1 (.slice (some ⟨gb2, 0, none⟩) (m + 1) capB) (m + 1) (vs ++ [.slice (some ⟨g1, 0, none⟩) 64 c1])) (r4 : Wr p v3 w4) (b4 : Blk w4 p 44 (rcells s.n gk (.slice (some ⟨ga2, 0, none⟩) (m + 1) capA) (.slice (some ⟨gb2, 0, none⟩) (m + 1) capB) (max s.f (-1)) s.dead))
    (hi : i < s.n) (hbl : bb.length = 64) : NxtR w foot p (s.write i bb) w4 := by
  have hp1 := h6.lt p h6.hp
  have hk1 := h6.lt gk h6.hgk
  have zA := gA.size
  have zB := gB.size
  have z1 := f1.size
  have z2 := f2.size
  have z3 := r3.size
  have z4 := r4.size
  have zw := hmd.size
  have lg1 := b1.lt
  have la2 : ga2 < w3.heap.size := by
    have := (oA.lt ga2 rfl).2
    omega
  have lb2 : gb2 < v3.heap.size := (oB.lt gb2 rfl).2
  have fr1 : ∀ k, k < w1.heap.size → k ≠ p → Av.ownBlock ≠ some k → w3.heap[k]? = w1.heap[k]? := fun k h hp ha => ((r3.block k hp).trans (gA.block k (by omega) (fun e => ha e.symm))).trans (g12.block k h (by simp))
  have fr2 : ∀ k, k < w3.heap.size → k ≠ p → Bv.ownBlock ≠ some k → w4.heap[k]? = w3.heap[k]? := fun k h hp ha => (((r4.block k hp).trans (gB.block k (by omega) (fun e => ha e.symm))).trans (f2.block k (by omega) (by simp))).trans (f1.block k h (by simp))
  have fr : ∀ k, k < w1.heap.size → k ≠ p → Av.ownBlock ≠ some k → Bv.ownBlock ≠ some k → w4.heap[k]? = w1.heap[k]? := fun k h hp ha hb => (fr2 k (by omega) hp hb).trans (fr1 k h hp ha)
  have nAgk : Av.ownBlock ≠ some gk := fun e => (h6.av gk e).2.2 rfl
  have nBgk : Bv.ownBlock ≠ some gk := fun e => (h6.bv gk e).2.2.1 rfl
  have nBa2 : Bv.ownBlock ≠ some ga2 := fun e => by
    rcases aA with h | h
    · exact (h6.bv ga2 e).2.2.2 h
    · have := h6.lt ga2 (h6.bv ga2 e).1
      omega
  have a2p : ga2 ≠ p ∧ ga2 ≠ gk := by
    rcases aA with h | h
    · exact (h6.av ga2 h).2
    · omega
  have b2p : gb2 ≠ p ∧ gb2 ≠ gk := by
    rcases aB with h | h
    · exact ⟨(h6.bv gb2 h).2.1, (h6.bv gb2 h).2.2.1⟩
    · omega
  have a2b2 : ga2 ≠ gb2 := by
    rcases aB with h | h
    · exact fun e => nBa2 (e ▸ h)
    · omega
  have oldA : ∀ g, g < w1.heap.size → Av.ownBlock ≠ some g → ga2 ≠ g := fun g hg ha e => by
    rcases aA with h | h
    · exact ha (e ▸ h)
    · omega
  have oldB : ∀ g, g < w1.heap.size → Bv.ownBlock ≠ some g → gb2 ≠ g := fun g hg ha e => by
    rcases aB with h | h
    · exact ha (e ▸ h)
    · omega
  have b2g1 : gb2 ≠ g1 := by
    rcases aB with h | h
    · have := h6.lt gb2 (h6.bv gb2 h).1
      omega
    · omega
  have fbA : foot ga2 ∨ (w.heap.size ≤ ga2 ∧ ga2 < w4.heap.size) := by
    rcases aA with h | h
    · exact .inl (h6.av ga2 h).1
    · exact .inr ⟨by omega, by omega⟩
  have fbB : foot gb2 ∨ (w.heap.size ≤ gb2 ∧ gb2 < w4.heap.size) := by
    rcases aB with h | h
    · exact .inl (h6.bv gb2 h).1
    · exact .inr ⟨by omega, by omega⟩
  have nBg1 : some g1 ≠ Bv.ownBlock := fun e => by
    have := h6.lt g1 (h6.bv g1 e.symm).1
    omega
  have hmd4 : Md foot w w4 := hmd.trans ⟨r4.os.trans (gB.os.trans (f2.os.trans (f1.os.trans (r3.os.trans (gA.os.trans g12.os))))), r4.tape.trans (gB.tape.trans (f2.tape.trans (f1.tape.trans (r3.tape.trans (gA.tape.trans g12.tape))))),
    r4.output.trans (gB.output.trans (f2.output.trans (f1.output.trans (r3.output.trans (gA.output.trans g12.output))))), by omega, fun k hk hf => fr k hk (fun e => hf (e ▸ h6.hp)) (fun e => hf (h6.av k e).1) (fun e => hf (h6.bv k e).1)⟩
  have byt1 : Byt w4 (fun b => b = g1) (some ⟨g1, 0, none⟩) bb := by
    have hb : Blk w4 g1 5 (u8s bb ++ tl) := ((b1.grown f2 (by simp)).grown gB nBg1).keep (r4.block g1 (by omega))
    exact Blk.byt (pre := []) (post := tl) (by simpa using hb) rfl
  refine ⟨fun k => foot k ∨ (w.heap.size ≤ k ∧ k < w4.heap.size), ⟨gk, .slice (some ⟨ga2, 0, none⟩) (m + 1) capA, .slice (some ⟨gb2, 0, none⟩) (m + 1) capB, vs ++ [.slice (some ⟨g1, 0, none⟩) 64 c1], b4, ?_, ?_, ?_, ⟨?_, ?_⟩, ⟨.inl h6.hp, .inl h6.hgk, h6.ne, ?_, ?_, ?_⟩, St.write_ok h7 hi hbl⟩, fun k hk => hk, hmd4⟩
  · exact h2.keep (fr gk hk1 (fun e => h6.ne e.symm) nAgk nBgk)
  · have : (s.write i bb).L.length = m + 1 := by simp [St.write, hm]
    rw [this]
    exact own_kept (own_kept oA (fun k hk => by
      obtain rfl : ga2 = k := by simpa [Value.ownBlock] using hk
      exact r3.block ga2 a2p.1)) (fun k hk => by
      obtain rfl : ga2 = k := by simpa [Value.ownBlock] using hk
      exact fr2 ga2 la2 a2p.1 nBa2)
  · have : (s.write i bb).L.length = m + 1 := by simp [St.write, hm]
    rw [this]
    exact own_kept oB (fun k hk => by
      obtain rfl : gb2 = k := by simpa [Value.ownBlock] using hk
      exact r4.block gb2 b2p.1)
  · simp [St.write, h5.1]
  · intro j hj
    have hL : (s.write i bb).L = s.L ++ [(i, bb)] := rfl
    by_cases hjm : j < s.L.length
    · obtain ⟨g, c, v1', v2', v3', v4', v5', v6', v7', v8'⟩ := h5.2 j hjm
      refine ⟨g, c, ?_, v2', .inl v3', v4', v5', ?_, ?_, ?_⟩
      · rw [List.getElem?_append_left (by rw [h5.1]; exact hjm)]
        exact v1'
      · have := oldA g (h6.lt g v3') v6'
        simpa [Value.ownBlock] using this
      · have := oldB g (h6.lt g v3') v7'
        simpa [Value.ownBlock] using this
      · have hget : (s.write i bb).L[j] = s.L[j] := by
          simp only [hL]
          exact List.getElem_append_left hjm
        rw [hget]
        exact v8'.keep (by rintro b rfl; exact fr b (h6.lt b v3') v4' v6' v7')
    · have hj' : j = s.L.length := by
        have : j < (s.L ++ [(i, bb)]).length := hj
        simp at this
        omega
      refine ⟨g1, c1, ?_, hc1, .inr ⟨by omega, by omega⟩, by omega, by omega, ?_, ?_, ?_⟩
      · rw [hj', ← h5.1, List.getElem?_append_right (Nat.le_refl _), Nat.sub_self]
        rfl
      · have : ga2 ≠ g1 := by omega
        simpa [Value.ownBlock] using this
      · simpa [Value.ownBlock] using b2g1
      · have hget : (s.write i bb).L[j] = (i, bb) := by
          simp only [hL, hj']
          simp
        rw [hget]
        exact byt1
  · intro k hk
    obtain rfl : ga2 = k := by simpa [Value.ownBlock] using hk
    exact ⟨fbA, a2p.1, a2p.2⟩
  · intro k hk
    obtain rfl : gb2 = k := by simpa [Value.ownBlock] using hk
    exact ⟨fbB, b2p.1, b2p.2, by simpa [Value.ownBlock] using a2b2⟩
  · intro k hk
    rcases hk with hk | hk
    · have := h6.lt k hk
      omega
    · exact hk.2
theorem rwrite_arg (h : RDsk w foot p s) {a : Int} {A : Option Addr} {n c : Nat} (ha : ¬ (0 ≤ a ∧ a < (s.n : Int)) ∨ n ≠ 64) : Calls Tryz.prog 25 #[.pointer (some ⟨p, 0, none⟩), .int .i64 a, .slice A n c] w fun e w' => e = .returned (.int .i64 1) ∧ w = w' := by
  obtain ⟨gk, Av, Bv, vs, h1, h2, h3, h4, h5, h6, h7⟩ := h
  have c0 : w.cell? ⟨p, 0, none⟩ = some (.int .i64 (s.n : Int)) := h1.get 0 _ rfl
  clear h1 h2 h3 h4 h5 h6 h7
  by_cases h0 : a < 0
  · have d1 : decide (a < 0) = true := by simpa using h0
    clear ha
    go_enter Tryz.func25, Tryz.ntmps25
    go_wp2
    go_ret
    exact ⟨rfl, rfl⟩
  · have d1 : decide (a < 0) = false := by simpa using h0
    by_cases h9 : (s.n : Int) ≤ a
    · have d2 : decide ((s.n : Int) ≤ a) = true := by simpa using h9
      clear ha
      go_enter Tryz.func25, Tryz.ntmps25
      go_wp2
      go_ret
      exact ⟨rfl, rfl⟩
    · have d2 : decide ((s.n : Int) ≤ a) = false := by simpa using h9
      have hn : n ≠ 64 := by rcases ha with ha | ha; exact absurd ⟨by omega, by omega⟩ ha; exact ha
      have d3 : ((n : Int) == 64) = false := by simp; omega
      have d4 : ((n : Int) != 64) = true := by simp; omega
      clear ha hn
      go_enter Tryz.func25, Tryz.ntmps25
      go_wp2
      go_ret
      exact ⟨rfl, rfl⟩
theorem rwrite_dead (h : RDsk w foot p s) {i : Nat} (hi : i < s.n) {A : Option Addr} {c : Nat} (hg : s.goes = false) : Calls Tryz.prog 25 #[.pointer (some ⟨p, 0, none⟩), .int .i64 (i : Int), .slice A 64 c] w fun e w' => e = .returned (.int .i64 150) ∧ RDsk w' foot p s.burn ∧ Md foot w w' := by
  have hc := step_any h
  rw [hg] at hc
  have HB := Lib.hid hc
  obtain ⟨gk, Av, Bv, vs, h1, h2, h3, h4, h5, h6, h7⟩ := h
  have c0 : w.cell? ⟨p, 0, none⟩ = some (.int .i64 (s.n : Int)) := h1.get 0 _ rfl
  have d1 : decide ((i : Int) < 0) = false := by simp
  have d2 : decide (s.n ≤ i) = false := by simp; omega
  clear h1 h2 h3 h4 h5 h6 h7 hc hi hg
  go_enter Tryz.func25, Tryz.ntmps25
  go_wp2_with (first | (go_at_call 51; refine HB.out.mono ?_; rintro e w1 ⟨rfl, hd, hm⟩) | fail)
  go_ret
  exact ⟨rfl, hd, hm⟩
set_option maxRecDepth 100000 in
set_option maxHeartbeats 4000000 in
theorem rwrite_yes (h : RDsk w foot p s) {i : Nat} (hi : i < s.n) {ok : Nat → Prop} {A : Option Addr} {c : Nat} {b : List UInt8} (hb : Byt w ok A b) (hbl : b.length = 64) (hok : ∀ k, ok k → k < w.heap.size ∧ ¬ foot k) (hg : s.goes = true) (hL : s.L.length ≤ 1048576) :
    Calls Tryz.prog 25 #[.pointer (some ⟨p, 0, none⟩), .int .i64 (i : Int), .slice A 64 c] w fun e w' => e = .returned (.int .i64 0) ∧ NxtR w foot p (s.burn.write i b) w' := by
  have hc := step_any h
  rw [hg] at hc
  have HBU := Lib.hid hc
  obtain ⟨gk0, Av0, Bv0, vs0, h1, h2, h3, h4, h5, h6, h7⟩ := h
  have c0 : w.cell? ⟨p, 0, none⟩ = some (.int .i64 (s.n : Int)) := h1.get 0 _ rfl
  have d1 : decide ((i : Int) < 0) = false := by simp
  have d2 : decide (s.n ≤ i) = false := by simp; omega
  obtain ⟨i3, hi3, hz30, hz31, hz32⟩ := info_parts Tryz.info3
  have HI : Hid (i < s.burn.n) := hi
  have HLL : Hid (s.burn.L.length ≤ 1048576) := hL
  have HBL := Lib.hid hbl
  have HX := Lib.hid hb
  have HOK := Lib.hid hok
  clear h1 h2 h3 h4 h5 h6 h7 hc hi hg hL hbl hb hok
  obtain ⟨t, ht⟩ : ∃ t, t = s.burn := ⟨_, rfl⟩
  rw [← ht] at HBU HI HLL ⊢
  go_enter Tryz.func25, Tryz.ntmps25
  go_wp2_with (first
    | (go_at_call 51
       with_reducible refine HBU.out.mono ?_
       rintro e w1 ⟨rfl, hd, hm⟩
       obtain ⟨gk, Av, Bv, vs, h1, h2, h3, h4, h5, h6, h7⟩ := hd
       obtain ⟨Aa, ca, rfl⟩ := own_shape h3
       obtain ⟨Ba, cb, rfl⟩ := own_shape h4
       obtain ⟨m, hmm⟩ : ∃ m, m = t.L.length := ⟨_, rfl⟩
       rw [← hmm] at h1 h3 h4 h5 h6 HLL
       have H1 := Lib.hid h1
       have H2 := Lib.hid h2
       have H3 := Lib.hid h3
       have H4 := Lib.hid h4
       have H5 := Lib.hid h5
       have H6 := Lib.hid h6
       have H7 := Lib.hid h7
       have HMD := Lib.hid hm
       have HMM := Lib.hid hmm
       have c2 : w1.cell? ⟨p, 2, none⟩ = some (.slice Aa m ca) := h1.get 2 _ rfl
       have hp1 := h6.lt p h6.hp
       clear h1 h2 h3 h4 h5 h6 h7 hm hmm c0)
    | (at_builtin
       refine wpList_append_lies _ rfl _ _ 41 rfl 0 3 i3 _ 1 8 Tryz.underlying41 hi3 hz30 hz31 hz32 rfl (by omega) (.slice Aa m ca) m (ats t.L) rfl (H3.out.alloc _) ⟨w1.heap.size, 0, none⟩ 1 1 [.int .i64 (i : Int)] rfl rfl (cell_one_new _ _ _) (by simp [Value.oneCell']) (by omega) (by have := HLL.out; unfold maxLen; omega) (by have := HLL.out; omega) (Nat.zero_le _) (w1.heap.size + 1) (by simp) ?_
       intro ga2 capA w2 oA gA aA lA
       have OA := Lib.hid oA
       have GA := Lib.hid gA
       have AA := Lib.hid aA
       have hw2 : Blk w2 p 44 (rcells t.n gk (.slice Aa m ca) (.slice Ba m cb) (max t.f (-1)) t.dead) := (H1.out.grown (World.grownBy_alloc w1 (.cells #[.int .i64 (i : Int)] 3) none) (by simp)).grown gA (fun e => (H6.out.av p e.symm).2.1 rfl)
       have HW2 := Lib.hid hw2
       clear oA gA aA lA hw2)
    | (refine wpList_store_cell rfl 41 _ _ rfl size43 p 2 (.slice (some ⟨ga2, 0, none⟩) (m + 1) capA) rfl rfl rfl _ _ HW2.out (by simp [rcells]) ?_
       intro w3 b3 r3)
    | fail)
  have hxb : Byt w3 ok A b := HX.out.keep fun k hk => by
    have h1 := HOK.out k hk
    have hn := h1.2
    have hsz := HMD.out.size
    have hA : some k ≠ (Value.slice Aa m ca).ownBlock := fun e => hn (H6.out.av k e.symm).1
    exact (((r3.out.block k (fun e => hn (e ▸ H6.out.hp))).trans (GA.out.block k (by simp; omega) hA)).trans ((World.grownBy_alloc w1 (.cells #[.int .i64 (i : Int)] 3) none).block k (by omega) (by simp))).trans (HMD.out.block k h1.1 hn)
  obtain ⟨ad, rfl, _, hcb⟩ := hxb.some_ (by rw [HBL.out]; omega)
  have hob : w3.ownsRow 0 40 1 (.slice Ba m cb) m vs := own_kept H4.out fun k hk => by
    have h1 := H6.out.bv k hk
    have h2 := H6.out.lt k h1.1
    exact ((r3.out.block k h1.2.1).trans (GA.out.block k (by simp; omega) (fun e => h1.2.2.2 e.symm))).trans ((World.grownBy_alloc w1 (.cells #[.int .i64 (i : Int)] 3) none).block k h2 (by simp))
  have hpw : p < w3.heap.size := Blk.lt b3.out
  have c3' : w3.cell? ⟨p, 3, none⟩ = some (.slice Ba m cb) := Blk.get b3.out 3 _ rfl
  obtain ⟨i5, hi5, hz50, hz51, hz52⟩ := info_parts Tryz.info5
  obtain ⟨i33, hi33, hz330, hz331, hz332⟩ := info_parts Tryz.info40
  have HOB : Hid (w3.drew.ownsRow 0 40 1 (.slice Ba m cb) m vs) := hob
  have HNW : Hid (∀ j u, (u8s b)[j]? = some u → w3.drew.cell? (ad.add j) = some u) := fun j u hu => by
    obtain ⟨hj, rfl⟩ := u8s_get _ j u hu
    exact hcb j hj
  have PV : Hid (p < w3.drew.heap.size) := hpw
  have BV : Hid (Blk w3.drew p 44 ((rcells t.n gk (.slice Aa m ca) (.slice Ba m cb) (max t.f (-1)) t.dead).set 2 (.slice (some ⟨ga2, 0, none⟩) (m + 1) capA))) := b3.out
  have c3 : w3.drew.cell? ⟨p, 3, none⟩ = some (.slice Ba m cb) := c3'
  obtain ⟨v, hv⟩ : ∃ v, v = w3.drew := ⟨_, rfl⟩
  have HVE := Lib.hid hv
  refine wp_region_held_drew (S := fun _ => True) (by kernel_rfl) trivial (fun hHeld => ?_)
  rw [← hv] at HOB HNW PV BV c3 ⊢
  clear hv hxb hcb hob hpw c3' c2 d1 d2 b3
  refine' wpAnyH_take (i := 0) (oi := { dst := some 36, op := Op.move (Operand.tmp 0), type := 26, pos := "ref.go:44", after := #[], guard := none }) (v := .pointer (some ⟨p, 0, none⟩)) rfl (by kernel_rfl) (by kernel_rfl) (by kernel_rfl) (fun _ _ _ h => h) (Or.inl ⟨by rfl, fun _ _ => rfl⟩) (by assumption) ?qz1
  try simp only [Act.put, List.setIfInBounds_toArray, List.set_cons_zero, List.set_cons_succ]
  refine' wpAnyH_take (i := 1) (oi := { dst := some 37, op := Op.move (Operand.tmp 0), type := 26, pos := "ref.go:44", after := #[], guard := none }) (v := .pointer (some ⟨p, 0, none⟩)) rfl (by kernel_rfl) (by kernel_rfl) (by kernel_rfl) (fun _ _ _ h => h) (Or.inl ⟨by rfl, fun _ _ => rfl⟩) (by assumption) ?qz2
  try simp only [Act.put, List.setIfInBounds_toArray, List.set_cons_zero, List.set_cons_succ]
  refine' wpAnyH_take (i := 2) (oi := { dst := some 38, op := Op.nilCheck (Operand.tmp 37), type := 0, pos := "ref.go:44", after := #[{ on := 1, ground := Ground.data }], guard := none }) (v := .pointer (some ⟨p, 0, none⟩)) rfl (by kernel_rfl) (by kernel_rfl) (by kernel_rfl) (fun _ _ _ h => h) (Or.inl ⟨by rfl, fun w' hSw => by go_simp⟩) (by assumption) ?qz3
  try simp only [Act.put, List.setIfInBounds_toArray, List.set_cons_zero, List.set_cons_succ]
  refine' wpAnyH_take (i := 3) (oi := { dst := some 39, op := Op.fieldAddr 44 (Operand.tmp 38) 3, type := 0, pos := "ref.go:44", after := #[{ on := 2, ground := Ground.data }], guard := none }) (v := .pointer (some ⟨p, 3, none⟩)) rfl (by kernel_rfl) (by kernel_rfl) (by kernel_rfl) (fun _ _ _ h => h) (Or.inl ⟨by rfl, fun w' hSw => by go_simp⟩) (by assumption) ?qz4
  try simp only [Act.put, List.setIfInBounds_toArray, List.set_cons_zero, List.set_cons_succ]
  refine' wpAnyH_take (i := 5) (oi := { dst := some 41, op := Op.move (Operand.tmp 7), type := 40, pos := "ref.go:44", after := #[], guard := none }) (v := .slice none 0 0) rfl (by kernel_rfl) (by kernel_rfl) (by kernel_rfl) (fun _ _ _ h => h) (Or.inl ⟨by rfl, fun _ _ => rfl⟩) (by assumption) ?qz5
  try simp only [Act.put, List.setIfInBounds_toArray, List.set_cons_zero, List.set_cons_succ]
  refine' wpAnyH_take (i := 6) (oi := { dst := some 42, op := Op.move (Operand.tmp 2), type := 40, pos := "ref.go:44", after := #[], guard := none }) (v := .slice (some ad) 64 c) rfl (by kernel_rfl) (by kernel_rfl) (by kernel_rfl) (fun _ _ _ h => h) (Or.inl ⟨by rfl, fun _ _ => rfl⟩) (by assumption) ?qz6
  try simp only [Act.put, List.setIfInBounds_toArray, List.set_cons_zero, List.set_cons_succ]
  refine wpAnyH_ready (rs := [4, 7]) (by kernel_rfl) (by simp) ?_
  refine AllReadyH.cons (o := { dst := some 40, op := Op.load 42 (Operand.tmp 39), type := 42, pos := "ref.go:44", after := #[{ on := 3, ground := Ground.data }], guard := none }) rfl (fun K hK => ?_) (AllReadyH.cons (o := { dst := some 43, op := Op.call { callee := Callee.builtin Builtin.append, args := #[Operand.tmp 41, Operand.tmp 42], argTypes := #[40, 40] }, type := 40, pos := "ref.go:44", after := #[{ on := 5, ground := Ground.data }, { on := 6, ground := Ground.data }], guard := none }) rfl (fun K hK => ?_) AllReadyH.nil)
  · rw [if_pos (by rfl)]
    go_simp
    refine hK.out _ _ trivial (fun hHeld => ?_)
    clear hK K
    try simp only [Act.put, List.setIfInBounds_toArray, List.set_cons_zero, List.set_cons_succ]
    refine wpAnyH_ready (rs := [7]) (by kernel_rfl) (by simp) ?_
    refine AllReadyH.cons (o := { dst := some 43, op := Op.call { callee := Callee.builtin Builtin.append, args := #[Operand.tmp 41, Operand.tmp 42], argTypes := #[40, 40] }, type := 40, pos := "ref.go:44", after := #[{ on := 5, ground := Ground.data }, { on := 6, ground := Ground.data }], guard := none }) rfl (fun K hK => ?_) AllReadyH.nil
    rw [if_pos (by rfl)]
    refine wp_append_lies _ (.tmp 41) (.tmp 42) 40 rfl v.heap.size 5 i5 _ 1 1 Tryz.underlying40 hi5 hz50 hz51 hz52 rfl (by omega) (.slice none 0 0) 0 [] rfl (World.ownsRow_nil _ _ _ _) ad 64 c (u8s b) rfl (by rw [u8s_length, HBL.out]) HNW.out (u8s_one b) (by omega) (by unfold maxLen; omega) (by omega) (Nat.le_refl _) v.heap.size rfl ?_
    intro g1 c1 v1 own1 gr1 at1 lt1
    have hg1 : v.grownBy v1 none := gr1
    have he1 : g1 = v.heap.size := by rcases at1 with h | h; simp [Value.ownBlock] at h; exact h
    obtain ⟨g', c', tl, e, _, hbk1, hnc1, _⟩ := own_tail own1 (by omega)
    simp only [Value.slice.injEq, Option.some.injEq, Addr.mk.injEq, true_and, and_true] at e
    obtain ⟨rfl, rfl⟩ := e
    have BK1 := Lib.hid hbk1
    have NC1 := Lib.hid hnc1
    have G1 := Lib.hid hg1
    have E1 := Lib.hid he1
    have c3 : v1.cell? ⟨p, 3, none⟩ = some (.slice Ba m cb) := (World.cell?_of_block (hg1.block p PV.out (by simp))).trans c3
    clear own1 gr1 at1 lt1 hg1 he1 hbk1 hnc1
    refine hK.out _ _ trivial (fun hHeld => ?_)
    clear hK K
    dsimp only [Act.put]
    refine wpAnyH_ready (rs := [8]) (by kernel_rfl) (by simp) ?_
    refine AllReadyH.cons (o := { dst := some 44, op := Op.buildSlice 42 1 #[(0, Operand.tmp 43)], type := 42, pos := "ref.go:44", after := #[{ on := 7, ground := Ground.data }], guard := none }) rfl (fun K hK => ?_) AllReadyH.nil
    rw [if_pos (by rfl)]
    refine wp_buildSlice44 (.tmp 43) rfl (some ⟨g1, 0, none⟩) 64 c1 rfl ?_
    intro v2 k2 G2 z2
    have c3 : v2.cell? ⟨p, 3, none⟩ = some (.slice Ba m cb) := (World.cell?_of_block (G2.out.block p (Nat.lt_of_lt_of_le PV.out G1.out.size) (by simp))).trans c3
    have LB : Hid ((vs ++ [Value.slice (some ⟨g1, 0, none⟩) 64 c1]).length = m + 1) := by show _ = _; simp [H4.out.1]
    refine hK.out _ _ trivial (fun hHeld => ?_)
    clear hK K
    dsimp only [Act.put]
    refine wpAnyH_ready (rs := [9]) (by kernel_rfl) (by simp) ?_
    refine AllReadyH.cons (o := { dst := some 45, op := Op.call { callee := Callee.builtin Builtin.append, args := #[Operand.tmp 40, Operand.tmp 44], argTypes := #[42, 42] }, type := 42, pos := "ref.go:44", after := #[{ on := 4, ground := Ground.data }, { on := 8, ground := Ground.data }, { on := 7, ground := Ground.chain }], guard := none }) rfl (fun K hK => ?_) AllReadyH.nil
    rw [if_pos (by rfl)]
    have OB2 := (HOB.out.kept G1.out (by cases (Value.slice Ba m cb).ownBlock <;> simp)).kept G2.out (by cases (Value.slice Ba m cb).ownBlock <;> simp)
    refine wp_append_lies _ (.tmp 40) (.tmp 44) 42 rfl 0 40 i33 _ 1 24 Tryz.underlying42 hi33 hz330 hz331 hz332 rfl (by omega) (.slice Ba m cb) m vs rfl OB2 ⟨v1.heap.size, 0, none⟩ 1 1 [.slice (some ⟨g1, 0, none⟩) 64 c1] rfl rfl (World.news_of_block k2.out) (by simp [Value.oneCell']) (by omega) (by have := HLL.out; unfold maxLen; omega) (by have := HLL.out; omega) (Nat.zero_le _) v2.heap.size rfl ?_
    intro gb2 capB v3 oB gB aB lB
    have OB := Lib.hid oB
    have GB := Lib.hid gB
    have AB := Lib.hid aB
    have b3' : Blk v3 p 44 ((rcells t.n gk (.slice Aa m ca) (.slice Ba m cb) (max t.f (-1)) t.dead).set 2 (.slice (some ⟨ga2, 0, none⟩) (m + 1) capA)) := (((BV.out).grown G1.out (by simp)).grown G2.out (by simp)).grown gB (fun e => (H6.out.bv p e.symm).2.1 rfl)
    clear oB gB aB lB OB2
    refine hK.out _ _ trivial (fun hHeld => ?_)
    clear hK K
    dsimp only [Act.put]
    refine' wpAnyH_take (i := 10) (oi := { dst := some 46, op := Op.nilCheck (Operand.tmp 36), type := 0, pos := "ref.go:44", after := #[{ on := 0, ground := Ground.data }, { on := 0, ground := Ground.phase }, { on := 1, ground := Ground.phase }, { on := 2, ground := Ground.phase }, { on := 3, ground := Ground.phase }, { on := 4, ground := Ground.phase }, { on := 5, ground := Ground.phase }, { on := 6, ground := Ground.phase }, { on := 7, ground := Ground.phase }, { on := 8, ground := Ground.phase }, { on := 9, ground := Ground.phase }], guard := none }) (v := .pointer (some ⟨p, 0, none⟩)) rfl (by kernel_rfl) (by kernel_rfl) (by kernel_rfl) (fun _ _ _ h => h) (Or.inl ⟨by rfl, fun w' hSw => by go_simp⟩) (by assumption) ?qz7
    try simp only [Act.put, List.setIfInBounds_toArray, List.set_cons_zero, List.set_cons_succ]
    refine' wpAnyH_take (i := 11) (oi := { dst := some 47, op := Op.fieldAddr 44 (Operand.tmp 46) 3, type := 0, pos := "ref.go:44", after := #[{ on := 10, ground := Ground.data }, { on := 0, ground := Ground.phase }, { on := 1, ground := Ground.phase }, { on := 2, ground := Ground.phase }, { on := 3, ground := Ground.phase }, { on := 4, ground := Ground.phase }, { on := 5, ground := Ground.phase }, { on := 6, ground := Ground.phase }, { on := 7, ground := Ground.phase }, { on := 8, ground := Ground.phase }, { on := 9, ground := Ground.phase }], guard := none }) (v := .pointer (some ⟨p, 3, none⟩)) rfl (by kernel_rfl) (by kernel_rfl) (by kernel_rfl) (fun _ _ _ h => h) (Or.inl ⟨by rfl, fun w' hSw => by go_simp⟩) (by assumption) ?qz8
    try simp only [Act.put, List.setIfInBounds_toArray, List.set_cons_zero, List.set_cons_succ]
    refine wpAnyH_ready (rs := [12]) (by kernel_rfl) (by simp) ?_
    refine AllReadyH.cons (o := { dst := none, op := Op.store 42 (Operand.tmp 47) (Operand.tmp 45), type := 0, pos := "ref.go:44", after := #[{ on := 11, ground := Ground.data }, { on := 9, ground := Ground.data }, { on := 9, ground := Ground.chain }, { on := 0, ground := Ground.phase }, { on := 1, ground := Ground.phase }, { on := 2, ground := Ground.phase }, { on := 3, ground := Ground.phase }, { on := 4, ground := Ground.phase }, { on := 5, ground := Ground.phase }, { on := 6, ground := Ground.phase }, { on := 7, ground := Ground.phase }, { on := 8, ground := Ground.phase }, { on := 9, ground := Ground.phase }], guard := none }) rfl (fun K hK => ?_) AllReadyH.nil
    rw [if_pos (by rfl)]
    refine wp_store_cell 42 _ _ rfl size44 p 3 (.slice (some ⟨gb2, 0, none⟩) (m + 1) capB) rfl rfl rfl _ _ b3' (by simp [rcells]) ?_
    intro w4 b4 r4
    refine hK.out _ _ trivial (fun hHeld => ?_)
    clear hK K
    dsimp only [Act.put]
    refine wpAnyH_done (by kernel_rfl) ?_ _
    have hg31 : w3.grownBy v1 none := by
      have h1 := G1.out
      rw [HVE.out] at h1
      exact ⟨h1.os, h1.tape, h1.output, h1.size, h1.block⟩
    have hz1 : (w1.alloc (.cells #[.int .i64 (i : Int)] 3)).heap.size = w1.heap.size + 1 := by simp
    have hE := rwrite_end (i := i) (bb := b) HMD.out H2.out H5.out H6.out H7.out HMM.out (World.grownBy_alloc w1 (.cells #[.int .i64 (i : Int)] 3) none) (by rw [hz1]; omega) GA.out (by rw [hz1]; exact AA.out) (by rw [ats_snoc]; exact OA.out) r3.out
      hg31 (by have := E1.out; rw [HVE.out] at this; exact this) BK1.out (by have := NC1.out; omega) G2.out GB.out AB.out OB.out r4.out b4.out HI.out HBL.out
    have HE := Lib.hid hE
    clear hE
    go_wp2
    go_ret
    exact ⟨rfl, HE.out⟩
  · rw [if_pos (by rfl)]
    refine wp_append_lies _ (.tmp 41) (.tmp 42) 40 rfl v.heap.size 5 i5 _ 1 1 Tryz.underlying40 hi5 hz50 hz51 hz52 rfl (by omega) (.slice none 0 0) 0 [] rfl (World.ownsRow_nil _ _ _ _) ad 64 c (u8s b) rfl (by rw [u8s_length, HBL.out]) HNW.out (u8s_one b) (by omega) (by unfold maxLen; omega) (by omega) (Nat.le_refl _) v.heap.size rfl ?_
    intro g1 c1 v1 own1 gr1 at1 lt1
    have hg1 : v.grownBy v1 none := gr1
    have he1 : g1 = v.heap.size := by rcases at1 with h | h; simp [Value.ownBlock] at h; exact h
    obtain ⟨g', c', tl, e, _, hbk1, hnc1, _⟩ := own_tail own1 (by omega)
    simp only [Value.slice.injEq, Option.some.injEq, Addr.mk.injEq, true_and, and_true] at e
    obtain ⟨rfl, rfl⟩ := e
    have BK1 := Lib.hid hbk1
    have NC1 := Lib.hid hnc1
    have G1 := Lib.hid hg1
    have E1 := Lib.hid he1
    have c3 : v1.cell? ⟨p, 3, none⟩ = some (.slice Ba m cb) := (World.cell?_of_block (hg1.block p PV.out (by simp))).trans c3
    clear own1 gr1 at1 lt1 hg1 he1 hbk1 hnc1
    refine hK.out _ _ trivial (fun hHeld => ?_)
    clear hK K
    dsimp only [Act.put]
    refine wpAnyH_ready (rs := [4, 8]) (by kernel_rfl) (by simp) ?_
    refine AllReadyH.cons (o := { dst := some 40, op := Op.load 42 (Operand.tmp 39), type := 42, pos := "ref.go:44", after := #[{ on := 3, ground := Ground.data }], guard := none }) rfl (fun K hK => ?_) (AllReadyH.cons (o := { dst := some 44, op := Op.buildSlice 42 1 #[(0, Operand.tmp 43)], type := 42, pos := "ref.go:44", after := #[{ on := 7, ground := Ground.data }], guard := none }) rfl (fun K hK => ?_) AllReadyH.nil)
    · rw [if_pos (by rfl)]
      go_simp
      refine hK.out _ _ trivial (fun hHeld => ?_)
      clear hK K
      try simp only [Act.put, List.setIfInBounds_toArray, List.set_cons_zero, List.set_cons_succ]
      refine wpAnyH_ready (rs := [8]) (by kernel_rfl) (by simp) ?_
      refine AllReadyH.cons (o := { dst := some 44, op := Op.buildSlice 42 1 #[(0, Operand.tmp 43)], type := 42, pos := "ref.go:44", after := #[{ on := 7, ground := Ground.data }], guard := none }) rfl (fun K hK => ?_) AllReadyH.nil
      rw [if_pos (by rfl)]
      refine wp_buildSlice44 (.tmp 43) rfl (some ⟨g1, 0, none⟩) 64 c1 rfl ?_
      intro v2 k2 G2 z2
      have c3 : v2.cell? ⟨p, 3, none⟩ = some (.slice Ba m cb) := (World.cell?_of_block (G2.out.block p (Nat.lt_of_lt_of_le PV.out G1.out.size) (by simp))).trans c3
      have LB : Hid ((vs ++ [Value.slice (some ⟨g1, 0, none⟩) 64 c1]).length = m + 1) := by show _ = _; simp [H4.out.1]
      refine hK.out _ _ trivial (fun hHeld => ?_)
      clear hK K
      dsimp only [Act.put]
      refine wpAnyH_ready (rs := [9]) (by kernel_rfl) (by simp) ?_
      refine AllReadyH.cons (o := { dst := some 45, op := Op.call { callee := Callee.builtin Builtin.append, args := #[Operand.tmp 40, Operand.tmp 44], argTypes := #[42, 42] }, type := 42, pos := "ref.go:44", after := #[{ on := 4, ground := Ground.data }, { on := 8, ground := Ground.data }, { on := 7, ground := Ground.chain }], guard := none }) rfl (fun K hK => ?_) AllReadyH.nil
      rw [if_pos (by rfl)]
      have OB2 := (HOB.out.kept G1.out (by cases (Value.slice Ba m cb).ownBlock <;> simp)).kept G2.out (by cases (Value.slice Ba m cb).ownBlock <;> simp)
      refine wp_append_lies _ (.tmp 40) (.tmp 44) 42 rfl 0 40 i33 _ 1 24 Tryz.underlying42 hi33 hz330 hz331 hz332 rfl (by omega) (.slice Ba m cb) m vs rfl OB2 ⟨v1.heap.size, 0, none⟩ 1 1 [.slice (some ⟨g1, 0, none⟩) 64 c1] rfl rfl (World.news_of_block k2.out) (by simp [Value.oneCell']) (by omega) (by have := HLL.out; unfold maxLen; omega) (by have := HLL.out; omega) (Nat.zero_le _) v2.heap.size rfl ?_
      intro gb2 capB v3 oB gB aB lB
      have OB := Lib.hid oB
      have GB := Lib.hid gB
      have AB := Lib.hid aB
      have b3' : Blk v3 p 44 ((rcells t.n gk (.slice Aa m ca) (.slice Ba m cb) (max t.f (-1)) t.dead).set 2 (.slice (some ⟨ga2, 0, none⟩) (m + 1) capA)) := (((BV.out).grown G1.out (by simp)).grown G2.out (by simp)).grown gB (fun e => (H6.out.bv p e.symm).2.1 rfl)
      clear oB gB aB lB OB2
      refine hK.out _ _ trivial (fun hHeld => ?_)
      clear hK K
      dsimp only [Act.put]
      refine' wpAnyH_take (i := 10) (oi := { dst := some 46, op := Op.nilCheck (Operand.tmp 36), type := 0, pos := "ref.go:44", after := #[{ on := 0, ground := Ground.data }, { on := 0, ground := Ground.phase }, { on := 1, ground := Ground.phase }, { on := 2, ground := Ground.phase }, { on := 3, ground := Ground.phase }, { on := 4, ground := Ground.phase }, { on := 5, ground := Ground.phase }, { on := 6, ground := Ground.phase }, { on := 7, ground := Ground.phase }, { on := 8, ground := Ground.phase }, { on := 9, ground := Ground.phase }], guard := none }) (v := .pointer (some ⟨p, 0, none⟩)) rfl (by kernel_rfl) (by kernel_rfl) (by kernel_rfl) (fun _ _ _ h => h) (Or.inl ⟨by rfl, fun w' hSw => by go_simp⟩) (by assumption) ?qz9
      try simp only [Act.put, List.setIfInBounds_toArray, List.set_cons_zero, List.set_cons_succ]
      refine' wpAnyH_take (i := 11) (oi := { dst := some 47, op := Op.fieldAddr 44 (Operand.tmp 46) 3, type := 0, pos := "ref.go:44", after := #[{ on := 10, ground := Ground.data }, { on := 0, ground := Ground.phase }, { on := 1, ground := Ground.phase }, { on := 2, ground := Ground.phase }, { on := 3, ground := Ground.phase }, { on := 4, ground := Ground.phase }, { on := 5, ground := Ground.phase }, { on := 6, ground := Ground.phase }, { on := 7, ground := Ground.phase }, { on := 8, ground := Ground.phase }, { on := 9, ground := Ground.phase }], guard := none }) (v := .pointer (some ⟨p, 3, none⟩)) rfl (by kernel_rfl) (by kernel_rfl) (by kernel_rfl) (fun _ _ _ h => h) (Or.inl ⟨by rfl, fun w' hSw => by go_simp⟩) (by assumption) ?qz10
      try simp only [Act.put, List.setIfInBounds_toArray, List.set_cons_zero, List.set_cons_succ]
      refine wpAnyH_ready (rs := [12]) (by kernel_rfl) (by simp) ?_
      refine AllReadyH.cons (o := { dst := none, op := Op.store 42 (Operand.tmp 47) (Operand.tmp 45), type := 0, pos := "ref.go:44", after := #[{ on := 11, ground := Ground.data }, { on := 9, ground := Ground.data }, { on := 9, ground := Ground.chain }, { on := 0, ground := Ground.phase }, { on := 1, ground := Ground.phase }, { on := 2, ground := Ground.phase }, { on := 3, ground := Ground.phase }, { on := 4, ground := Ground.phase }, { on := 5, ground := Ground.phase }, { on := 6, ground := Ground.phase }, { on := 7, ground := Ground.phase }, { on := 8, ground := Ground.phase }, { on := 9, ground := Ground.phase }], guard := none }) rfl (fun K hK => ?_) AllReadyH.nil
      rw [if_pos (by rfl)]
      refine wp_store_cell 42 _ _ rfl size44 p 3 (.slice (some ⟨gb2, 0, none⟩) (m + 1) capB) rfl rfl rfl _ _ b3' (by simp [rcells]) ?_
      intro w4 b4 r4
      refine hK.out _ _ trivial (fun hHeld => ?_)
      clear hK K
      dsimp only [Act.put]
      refine wpAnyH_done (by kernel_rfl) ?_ _
      have hg31 : w3.grownBy v1 none := by
        have h1 := G1.out
        rw [HVE.out] at h1
        exact ⟨h1.os, h1.tape, h1.output, h1.size, h1.block⟩
      have hz1 : (w1.alloc (.cells #[.int .i64 (i : Int)] 3)).heap.size = w1.heap.size + 1 := by simp
      have hE := rwrite_end (i := i) (bb := b) HMD.out H2.out H5.out H6.out H7.out HMM.out (World.grownBy_alloc w1 (.cells #[.int .i64 (i : Int)] 3) none) (by rw [hz1]; omega) GA.out (by rw [hz1]; exact AA.out) (by rw [ats_snoc]; exact OA.out) r3.out
        hg31 (by have := E1.out; rw [HVE.out] at this; exact this) BK1.out (by have := NC1.out; omega) G2.out GB.out AB.out OB.out r4.out b4.out HI.out HBL.out
      have HE := Lib.hid hE
      clear hE
      go_wp2
      go_ret
      exact ⟨rfl, HE.out⟩
    · rw [if_pos (by rfl)]
      refine wp_buildSlice44 (.tmp 43) rfl (some ⟨g1, 0, none⟩) 64 c1 rfl ?_
      intro v2 k2 G2 z2
      have c3 : v2.cell? ⟨p, 3, none⟩ = some (.slice Ba m cb) := (World.cell?_of_block (G2.out.block p (Nat.lt_of_lt_of_le PV.out G1.out.size) (by simp))).trans c3
      have LB : Hid ((vs ++ [Value.slice (some ⟨g1, 0, none⟩) 64 c1]).length = m + 1) := by show _ = _; simp [H4.out.1]
      refine hK.out _ _ trivial (fun hHeld => ?_)
      clear hK K
      dsimp only [Act.put]
      refine wpAnyH_ready (rs := [4]) (by kernel_rfl) (by simp) ?_
      refine AllReadyH.cons (o := { dst := some 40, op := Op.load 42 (Operand.tmp 39), type := 42, pos := "ref.go:44", after := #[{ on := 3, ground := Ground.data }], guard := none }) rfl (fun K hK => ?_) AllReadyH.nil
      rw [if_pos (by rfl)]
      go_simp
      refine hK.out _ _ trivial (fun hHeld => ?_)
      clear hK K
      try simp only [Act.put, List.setIfInBounds_toArray, List.set_cons_zero, List.set_cons_succ]
      refine wpAnyH_ready (rs := [9]) (by kernel_rfl) (by simp) ?_
      refine AllReadyH.cons (o := { dst := some 45, op := Op.call { callee := Callee.builtin Builtin.append, args := #[Operand.tmp 40, Operand.tmp 44], argTypes := #[42, 42] }, type := 42, pos := "ref.go:44", after := #[{ on := 4, ground := Ground.data }, { on := 8, ground := Ground.data }, { on := 7, ground := Ground.chain }], guard := none }) rfl (fun K hK => ?_) AllReadyH.nil
      rw [if_pos (by rfl)]
      have OB2 := (HOB.out.kept G1.out (by cases (Value.slice Ba m cb).ownBlock <;> simp)).kept G2.out (by cases (Value.slice Ba m cb).ownBlock <;> simp)
      refine wp_append_lies _ (.tmp 40) (.tmp 44) 42 rfl 0 40 i33 _ 1 24 Tryz.underlying42 hi33 hz330 hz331 hz332 rfl (by omega) (.slice Ba m cb) m vs rfl OB2 ⟨v1.heap.size, 0, none⟩ 1 1 [.slice (some ⟨g1, 0, none⟩) 64 c1] rfl rfl (World.news_of_block k2.out) (by simp [Value.oneCell']) (by omega) (by have := HLL.out; unfold maxLen; omega) (by have := HLL.out; omega) (Nat.zero_le _) v2.heap.size rfl ?_
      intro gb2 capB v3 oB gB aB lB
      have OB := Lib.hid oB
      have GB := Lib.hid gB
      have AB := Lib.hid aB
      have b3' : Blk v3 p 44 ((rcells t.n gk (.slice Aa m ca) (.slice Ba m cb) (max t.f (-1)) t.dead).set 2 (.slice (some ⟨ga2, 0, none⟩) (m + 1) capA)) := (((BV.out).grown G1.out (by simp)).grown G2.out (by simp)).grown gB (fun e => (H6.out.bv p e.symm).2.1 rfl)
      clear oB gB aB lB OB2
      refine hK.out _ _ trivial (fun hHeld => ?_)
      clear hK K
      dsimp only [Act.put]
      refine' wpAnyH_take (i := 10) (oi := { dst := some 46, op := Op.nilCheck (Operand.tmp 36), type := 0, pos := "ref.go:44", after := #[{ on := 0, ground := Ground.data }, { on := 0, ground := Ground.phase }, { on := 1, ground := Ground.phase }, { on := 2, ground := Ground.phase }, { on := 3, ground := Ground.phase }, { on := 4, ground := Ground.phase }, { on := 5, ground := Ground.phase }, { on := 6, ground := Ground.phase }, { on := 7, ground := Ground.phase }, { on := 8, ground := Ground.phase }, { on := 9, ground := Ground.phase }], guard := none }) (v := .pointer (some ⟨p, 0, none⟩)) rfl (by kernel_rfl) (by kernel_rfl) (by kernel_rfl) (fun _ _ _ h => h) (Or.inl ⟨by rfl, fun w' hSw => by go_simp⟩) (by assumption) ?qz11
      try simp only [Act.put, List.setIfInBounds_toArray, List.set_cons_zero, List.set_cons_succ]
      refine' wpAnyH_take (i := 11) (oi := { dst := some 47, op := Op.fieldAddr 44 (Operand.tmp 46) 3, type := 0, pos := "ref.go:44", after := #[{ on := 10, ground := Ground.data }, { on := 0, ground := Ground.phase }, { on := 1, ground := Ground.phase }, { on := 2, ground := Ground.phase }, { on := 3, ground := Ground.phase }, { on := 4, ground := Ground.phase }, { on := 5, ground := Ground.phase }, { on := 6, ground := Ground.phase }, { on := 7, ground := Ground.phase }, { on := 8, ground := Ground.phase }, { on := 9, ground := Ground.phase }], guard := none }) (v := .pointer (some ⟨p, 3, none⟩)) rfl (by kernel_rfl) (by kernel_rfl) (by kernel_rfl) (fun _ _ _ h => h) (Or.inl ⟨by rfl, fun w' hSw => by go_simp⟩) (by assumption) ?qz12
      try simp only [Act.put, List.setIfInBounds_toArray, List.set_cons_zero, List.set_cons_succ]
      refine wpAnyH_ready (rs := [12]) (by kernel_rfl) (by simp) ?_
      refine AllReadyH.cons (o := { dst := none, op := Op.store 42 (Operand.tmp 47) (Operand.tmp 45), type := 0, pos := "ref.go:44", after := #[{ on := 11, ground := Ground.data }, { on := 9, ground := Ground.data }, { on := 9, ground := Ground.chain }, { on := 0, ground := Ground.phase }, { on := 1, ground := Ground.phase }, { on := 2, ground := Ground.phase }, { on := 3, ground := Ground.phase }, { on := 4, ground := Ground.phase }, { on := 5, ground := Ground.phase }, { on := 6, ground := Ground.phase }, { on := 7, ground := Ground.phase }, { on := 8, ground := Ground.phase }, { on := 9, ground := Ground.phase }], guard := none }) rfl (fun K hK => ?_) AllReadyH.nil
      rw [if_pos (by rfl)]
      refine wp_store_cell 42 _ _ rfl size44 p 3 (.slice (some ⟨gb2, 0, none⟩) (m + 1) capB) rfl rfl rfl _ _ b3' (by simp [rcells]) ?_
      intro w4 b4 r4
      refine hK.out _ _ trivial (fun hHeld => ?_)
      clear hK K
      dsimp only [Act.put]
      refine wpAnyH_done (by kernel_rfl) ?_ _
      have hg31 : w3.grownBy v1 none := by
        have h1 := G1.out
        rw [HVE.out] at h1
        exact ⟨h1.os, h1.tape, h1.output, h1.size, h1.block⟩
      have hz1 : (w1.alloc (.cells #[.int .i64 (i : Int)] 3)).heap.size = w1.heap.size + 1 := by simp
      have hE := rwrite_end (i := i) (bb := b) HMD.out H2.out H5.out H6.out H7.out HMM.out (World.grownBy_alloc w1 (.cells #[.int .i64 (i : Int)] 3) none) (by rw [hz1]; omega) GA.out (by rw [hz1]; exact AA.out) (by rw [ats_snoc]; exact OA.out) r3.out
        hg31 (by have := E1.out; rw [HVE.out] at this; exact this) BK1.out (by have := NC1.out; omega) G2.out GB.out AB.out OB.out r4.out b4.out HI.out HBL.out
      have HE := Lib.hid hE
      clear hE
      go_wp2
      go_ret
      exact ⟨rfl, HE.out⟩
end
end Go.Proofs.YtonpcenjipigpaaGreat
