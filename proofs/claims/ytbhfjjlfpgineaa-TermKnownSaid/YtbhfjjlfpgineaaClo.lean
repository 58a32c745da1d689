/- The closures of build and open: what each does. Conditions: the counter is small; MaxLen holds some number. -/
import Derived.Test.YtbhfjjlfpgineaaMiss
import Derived.StillTailTactics
namespace Go.Proofs.Ytbhfjjlfpgineaa
open Go.RowKit

theorem size3 : (Try.prog.info? 3).map (·.size) = some 1 := by kernel_rfl
section
variable {C : Cs} {T : List Trm} {w w' : World} {g g' : Gh} {bx : Nat → Prop} {σ : Sch}
def RLeft (n : Nat) (r : Role) : Prop := r = .left n
theorem Mem.setL (h : Mem C T w g bx σ) {n : Nat} {z : Int} (hn : bx n) (hb : w'.heap[g.lf n]? = some (.cells [Value.int .i64 z].toArray 3 (0, 0))) (hw : Wr (g.lf n) w w') : Mem C T w' g bx (setL σ n z) ∧ Ex w w' g g bx := by
  have hr := (h.lefts n hn).2
  have t : Tr (RLeft n) w w' g g bx := Tr.of_wr hw hr
  have hns : ¬ RLeft n .still := fun e => by cases e
  obtain ⟨v, h1, h2, h3⟩ := h.sbB
  obtain ⟨wv, h4, h5, h6⟩ := h.wbB
  refine ⟨⟨fun b hb' => h.fresh b (by rw [← hw.size]; exact hb'), h.old, by rw [hw.size]; exact h.base, h.sbR, h.nbR, h.wbR, h.kbC.tr t hns, ⟨v, (t.block _ (lt_of_block h1) (by rw [h.sbR]; intro e; cases e)).trans h1, ownsRow_keep h2 fun b hv => t.block b (h2.lt b hv).2 (by rw [h3 b hv]; intro e; cases e), h3⟩,
    (t.block _ (lt_of_block h.nbB) (by rw [h.nbR]; intro e; cases e)).trans h.nbB, h.namesN, ⟨wv, (t.block _ (lt_of_block h4) (by rw [h.wbR]; intro e; cases e)).trans h4, h5, fun m hm hne => (h6 m hm hne).tr t hns (fun e => by cases e)⟩, h.waitN, fun i hi => ?_, h.cnt, h.ex⟩, t.imp fun r e e2 => by subst e2; cases e⟩
  obtain ⟨a, b⟩ := h.lefts i hi
  by_cases e : i = n
  · subst e
    refine ⟨?_, b⟩
    rw [hb]
    simp [Ytbhfjjlfpgineaa.setL]
  · refine ⟨?_, b⟩
    rw [t.block _ (lt_of_block a) (by rw [b]; intro e2; cases e2; exact e rfl), a]
    simp [Ytbhfjjlfpgineaa.setL, e]

set_option maxRecDepth 100000 in
set_option maxHeartbeats 1000000 in
theorem runB_any {n s b : Nat} (h : Mem C T w g bx σ) (hbx : bx n) (hn : n < C.N) (hN : C.N ≤ 70000) (hs : Cel w g s (ptr C.sb)) (hb : Cel w g b (.int .i64 n)) (hl : -1000000 ≤ σ.left n) (hu : σ.left n ≤ 1000000) :
    Calls Try.prog 47 #[ptr (g.lf n), ptr s, ptr b] w (Ends C T w g bx (runB σ n)) := by
  obtain ⟨hL1, hL2⟩ := h.lefts n hbx
  have HH := Lib.hid h
  have HL := Lib.hid hL1
  obtain ⟨z, hz⟩ : ∃ z, σ.left n = z := ⟨_, rfl⟩
  obtain ⟨lf, hlf⟩ : ∃ lf, g.lf n = lf := ⟨_, rfl⟩
  have c0 : w.cell? ⟨lf, 0, none⟩ = some (.int .i64 z) := by rw [← hlf, cell_of_block hL1, hz]; rfl
  rw [hz] at hl hu
  rw [hlf, hz] at HL
  rw [hlf]
  have HZ := Lib.hid hz
  have HLF := Lib.hid hlf
  have HS := Lib.hid hs
  have HB := Lib.hid hb
  clear h hL1 hL2 hz hlf hs hb
  go_enter Try.func47, Try.ntmps47
  go_wp2_with (first | (refine wpList_store_cell rfl 3 _ _ rfl size3 lf 0 (.int .i64 (z - 1)) rfl rfl rfl [.int .i64 z] _ HL.out (by simp) ?_) | fail)
  intro w1 hb1 hw1
  have hm := HH.out.setL (n := n) (z := z - 1) hbx (by rw [HLF.out]; exact hb1.out) (by rw [HLF.out]; exact hw1.out)
  have c1 : w1.cell? ⟨lf, 0, none⟩ = some (.int .i64 (z - 1)) := by rw [cell_of_block hb1.out]; rfl
  have s1 := (HS.out.tr hm.2 not_ns).2
  have b1 := (HB.out.tr hm.2 not_ns).2
  have M1 := Lib.hid hm.1
  have E1 := Lib.hid hm.2
  clear hm c0
  by_cases h0 : z - 1 = 0
  · obtain rfl : z = 1 := by omega
    have HC := Lib.hid (add_any M1.out hn hN)
    have HR : Hid (runB σ n = addS (setL σ n (1 - 1)) n) := by
      show runB σ n = _
      unfold runB
      rw [HZ.out, if_pos (by decide)]
    go_wp2_with fail
    go_at_call 45
    refine HC.out.mono ?_
    rintro e w2 ⟨rfl, g2, hmem2, hex2⟩
    have HM2 : Hid (Mem C T w2 g2 bx (runB σ n)) := by
      show Mem C T w2 g2 bx (runB σ n)
      rw [HR.out]; exact hmem2
    have HE2 : Hid (Ex w w2 g g2 bx) := E1.out.trans hex2
    clear hmem2 hex2
    go_wp2
    go_end0
    exact ⟨rfl, g2, HM2.out, HE2.out⟩
  · have d0 : (z - 1 == 0) = false := by rw [beq_eq_false_iff_ne]; exact h0
    have HR : Hid (runB σ n = setL σ n (z - 1)) := by
      show runB σ n = _
      unfold runB
      rw [HZ.out, if_neg h0]
    clear h0
    go_wp2
    go_end0
    refine ⟨rfl, g, ?_, E1.out⟩
    rw [HR.out]
    exact M1.out
theorem Lst.at_ {w : World} {ok : Nat → Prop} {A : Option Addr} {ps : List (List UInt8)} (h : Lst w ok A ps) {j : Nat} (hj : j < ps.length) :
    ∃ ab ao A' c', A = some ⟨ab, ao, none⟩ ∧ w.cell? ⟨ab, ao + j, none⟩ = some (.slice A' ps[j].length c') ∧ ps[j].length ≤ c' ∧ c' ≤ maxLen ∧ Byt w ok A' ps[j] := by
  obtain ⟨ad, A', c', rfl, _, h1, h2, h3, h4⟩ := h j hj
  obtain ⟨ab, ao, sp⟩ := ad
  have hsp : sp = none := by
    obtain ⟨ad, _, _, e, _, h0, _⟩ := h 0 (by omega)
    cases e
    simpa [Addr.add] using World.cell?_spot h0
  subst hsp
  rw [Addr.add_lit] at h1
  exact ⟨ab, ao, A', c', rfl, h1, h2, h3, h4⟩
theorem pt_get {T : List Trm} {n i : Nat} (h : i < (tm T n).2.length) : pt T n i = (tm T n).2[i] := by
  unfold pt
  rw [List.getD_eq_getElem?_getD, List.getElem?_eq_getElem h]
  rfl
/-- A table of terms that may be. -/
def Tok (T : List Trm) : Prop := (∀ x ∈ T, Good x) ∧ T.length ≤ 65535
theorem tm_fit {T : List Trm} (h : Tok T) (n : Nat) : Fit (tm T n).2 := by
  unfold tm
  rw [List.getD_eq_getElem?_getD]
  rcases Nat.lt_or_ge (n - 1) T.length with h1 | h1
  · rw [List.getElem?_eq_getElem h1]
    exact (h.1 _ (List.getElem_mem h1)).2.2
  · rw [List.getElem?_eq_none h1]
    exact ⟨by simp, by simp⟩
theorem pt_length {T : List Trm} (h : Tok T) (n i : Nat) : (pt T n i).length ≤ 4096 := by
  unfold pt
  rw [List.getD_eq_getElem?_getD]
  rcases Nat.lt_or_ge i (tm T n).2.length with h1 | h1
  · rw [List.getElem?_eq_getElem h1]
    exact (tm_fit h n).2 _ (List.getElem_mem h1)
  · rw [List.getElem?_eq_none h1]
    simp

set_option maxRecDepth 100000 in
set_option maxHeartbeats 1000000 in
theorem runL_any {n s p b : Nat} {A : Option Addr} {c : Nat} (hT : Tok T) (h : Mem C T w g bx σ) (hC : 0 < C.base) (hM : Mx w) (hn : n < C.N) (hN : C.N ≤ 70000) (hs : Cel w g s (ptr C.sb)) (hp : Cel w g p (.slice A (tm T n).2.length c)) (hl : Lst w (Still w g) A (tm T n).2) (h2 : 2 ≤ pn T n) (hb : Cel w g b (.int .i64 n)) :
    Calls Try.prog 49 #[ptr s, ptr p, ptr b] w (Ends C T w g bx (runL T σ n)) := by
  have hlen : 1 < (tm T n).2.length := h2
  have h64 := (tm_fit hT n).1
  obtain ⟨ab, ao, A', c', rfl, k1, k2, k3, k4⟩ := hl.at_ hlen
  rw [← pt_get hlen] at k1 k2 k4
  have hpl := pt_length hT n 1
  have bl : Below w.heap.size w w.drew := (Below.refl _ _).drew
  have HC := Lib.hid (learn_any (g := g) (below := n) (h.below bl) hC rfl (Still.up (k4.drewN 1) bl) k2 k3 (by omega) (by omega) hN (hM.below bl))
  have e1 : Ex w w.drew g g bx := Tr.of_below bl
  have E1 := Lib.hid e1
  obtain ⟨m, hm⟩ : ∃ m, (tm T n).2.length = m := ⟨_, rfl⟩
  have s0 := hs.2
  have p0 := hp.2
  have b0 := hb.2
  rw [hm] at p0 hlen
  have q1 : (0 : Int) ≤ 1 := by omega
  have q2 : (1 : Int) < (m : Int) := by omega
  clear e1 hm h hl k4 hs hp hb
  go_enter Try.func49, Try.ntmps49
  refine wp_region_still_tail 5 (by kernel_rfl) (by kernel_rfl) ?_
  change wpStill _ _ w.drew (fun a' => wpList _ _ _ _ a' w.drew) _ _
  obtain ⟨w1, hw1⟩ : ∃ w1, w1 = w.drew := ⟨_, rfl⟩
  rw [← hw1] at HC E1 ⊢
  have ec : ∀ A, w.cell? A = w1.cell? A := by intro A; rw [hw1]; rfl
  rw [ec] at s0 p0 b0 k1
  clear hw1 ec
  simp only [List.take_succ_cons, List.take_zero, List.drop_succ_cons, List.drop_zero]
  repeat still_step
  refine wpStill_nil ?_
  go_wp2_with fail
  go_at_call 32
  refine HC.out.mono ?_
  rintro e w2 ⟨rfl, g2, hm2, he2⟩
  have HM2 := Lib.hid hm2
  have HE2 := Lib.hid (E1.out.trans he2)
  clear hm2 he2
  go_wp2
  go_end0
  exact ⟨rfl, g2, HM2.out, HE2.out⟩
end
end Go.Proofs.Ytbhfjjlfpgineaa
