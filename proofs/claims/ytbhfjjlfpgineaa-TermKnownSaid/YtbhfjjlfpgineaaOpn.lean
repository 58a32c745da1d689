/- open has the second part of what is sealed known as soon as it is known itself, and its first part is. Conditions: at most 65535 terms; MaxLen holds some number. -/
import Derived.Test.YtbhfjjlfpgineaaBui
import Derived.StillTailTactics
namespace Go.Proofs.Ytbhfjjlfpgineaa
open Go.RowKit

/-- What open leaves. -/
def OpnE (C : Cs) (T : List Trm) (seen sw : List (List UInt8)) (bb n M : Nat) (w : World) (g : Gh) (bx : Nat → Prop) (e : Ending) (w' : World) : Prop :=
  e = .returned (.tuple #[]) ∧ ∃ g' σ', Mem C T w' g' bx σ' ∧ Ex w w' g g' bx ∧ Inv T seen sw bb (n + 1) 0 [] σ' ∧ tot σ' ≤ M
section
variable {C : Cs} {T : List Trm} {w w' : World} {g g' : Gh} {bx bx' : Nat → Prop} {σ : Sch} {seen sw : List (List UInt8)} {bb bo : Nat}
set_option maxRecDepth 100000 in
set_option maxHeartbeats 4000000 in
theorem open_any {M n : Nat} {A : Option Addr} {c : Nat} (E : Env C T w) (h : Mem C T w g bx σ) (hI : Inv T seen sw bb n 0 [] σ) (hN : C.N = T.length + 1) (ht : tot σ ≤ M) (hM : M ≤ 99999900) (h1 : 1 ≤ n) (hn : n ≤ T.length) (hl : Lst w (Still w g) A (tm T n).2) :
    Calls Try.prog 34 #[ptr C.sb, .int .i64 n, .int .i64 (kd T n : Nat), .slice A (pn T n) c] w (OpnE C T seen sw bb n (M + 1) w g bx) := by
  have hNN := E.N
  have h64 := (tm_fit E.tok n).1
  have hT16 := E.tok.2
  obtain ⟨k, hkk⟩ : ∃ k, kd T n = k := ⟨_, rfl⟩
  obtain ⟨m, hm⟩ : ∃ m, pn T n = m := ⟨_, rfl⟩
  have hb3 : ∀ w3, w3 = ((w.alloc (.cells #[ptr C.sb] 81)).alloc (.cells #[.int .i64 (n : Int)] 3)).alloc (.cells #[.slice A m c] 31) → Below w.heap.size w w3 ∧ Cel w3 g w.heap.size (ptr C.sb) ∧ Cel w3 g (w.heap.size + 1) (.int .i64 (n : Int)) ∧ Cel w3 g (w.heap.size + 1 + 1) (.slice A m c) := fun w3 hw3 => by
    subst hw3
    have b1 := below_alloc w (.cells #[ptr C.sb] 81)
    have b2 := below_alloc (w.alloc (.cells #[ptr C.sb] 81)) (.cells #[.int .i64 (n : Int)] 3)
    have b3 := below_alloc ((w.alloc (.cells #[ptr C.sb] 81)).alloc (.cells #[.int .i64 (n : Int)] 3)) (.cells #[.slice A m c] 31)
    have a1 := cel_new h (ptr C.sb) 81
    have m1 := h.below b1
    have a2 := cel_new m1 (.int .i64 (n : Int)) 3
    have m2 := m1.below b2
    have a3 := cel_new m2 (.slice A m c) 31
    have hb : Below w.heap.size w (((w.alloc (.cells #[ptr C.sb] 81)).alloc (.cells #[.int .i64 (n : Int)] 3)).alloc (.cells #[.slice A m c] 31)) := ((Below.refl _ _).alloc (Nat.le_refl _) _).alloc (by simp) _ |>.alloc (by simp; omega) _
    rw [alloc_size] at a2
    rw [alloc_size, alloc_size] at a3
    exact ⟨hb, (a1.tr (R := NotStill) (bx := bx) (Tr.of_below b2) not_ns).tr (R := NotStill) (bx := bx) (Tr.of_below b3) not_ns, a2.tr (R := NotStill) (bx := bx) (Tr.of_below b3) not_ns, a3⟩
  by_cases hk : k ≠ 8 ∨ m < 2
  · have HI := Lib.hid (hI.plain hn (by rw [hkk, hm]; exact hk))
    have HM := Lib.hid h
    have HT := Lib.hid ht
    have HB := Lib.hid (hb3 _ rfl).1
    rw [hkk, hm]
    clear h hI ht E hl hkk hm hb3
    by_cases h8 : k = 8
    · subst h8
      have d2 : (m : Int) < 2 := by omega
      go_enter Try.func34, Try.ntmps34
      go_wp2_with fail
      go_end0
      exact ⟨rfl, g, σ, HM.out.below HB.out, Tr.of_below HB.out, HI.out, Nat.le_trans HT.out (by omega)⟩
    · have d1 : ((k : Int) == 8) = false := by rw [beq_eq_false_iff_ne]; omega
      go_enter Try.func34, Try.ntmps34
      go_wp2_with fail
      go_end0
      exact ⟨rfl, g, σ, HM.out.below HB.out, Tr.of_below HB.out, HI.out, Nat.le_trans HT.out (by omega)⟩
  · obtain rfl : k = 8 := by omega
    have hm2 : 2 ≤ m := by omega
    have HIS := Lib.hid (hI.shut h1 hn hkk (by omega))
    have HM := Lib.hid h
    have HT := Lib.hid ht
    have HL := Lib.hid hl
    have HE := Lib.hid E
    have HPN := Lib.hid hm
    have HB := Lib.hid hb3
    have hnN : n < C.N := by omega
    have HNM := Lib.hid (fun W => name_any n W (by omega))
    rw [hkk, hm]
    clear h hI ht E hl hkk hm hb3 hk
    have d2 : ¬ ((m : Int) < 2) := by omega
    go_enter Try.func34, Try.ntmps34
    go_wp2_with fail
    go_at_call 31
    refine (HNM.out _).mono ?_
    rintro e w4 ⟨rfl, hb4⟩
    obtain ⟨w3, hw3⟩ : ∃ w3, ((w.alloc (.cells #[ptr C.sb] 81)).alloc (.cells #[.int .i64 (n : Int)] 3)).alloc (.cells #[.slice A m c] 31) = w3 := ⟨_, rfl⟩
    rw [hw3] at hb4
    obtain ⟨b3, k1, k2, k3⟩ := HB.out w3 hw3.symm
    have B4 := Lib.hid (b3.trans (hb4.mono b3.size))
    have t34 : Tr NotStill w3 w4 g g bx := Tr.of_below hb4
    have K1 := Lib.hid (k1.tr t34 not_ns)
    have K2 := Lib.hid (k2.tr t34 not_ns)
    have K3 := Lib.hid (k3.tr t34 not_ns)
    clear hb4 b3 k1 k2 k3 t34 hw3 HB
    go_wp2_with (refine wpList_alloc32 i49 rfl rfl ?_)
    intro w5 ha5 hb5 hz5
    have A5 := Lib.hid ha5
    have B5 := Lib.hid hb5
    clear ha5 hb5 hz5
    go_wp2_with (refine wpList_store32 i49 rfl _ _ rfl w4.heap.size z32 (nm n) rfl rfl A5.out z32_length (nm_length n) w4.heap.size (Nat.le_refl _) ?_)
    intro w6 ha6 hb6 _ _
    have b46 : Below w4.heap.size w4 w6.drew := (B5.out.trans hb6).drew
    have b6 : Below w.heap.size w w6.drew := B4.out.trans (b46.mono B4.out.size)
    have t46 : Tr NotStill w4 w6.drew g g bx := Tr.of_below b46
    have t6 : Tr NotStill w w6.drew g g bx := Tr.of_below b6
    have y1 := K1.out.tr t46 not_ns
    have y2 := K2.out.tr t46 not_ns
    have y3 := K3.out.tr t46 not_ns
    have hL6 := HL.out.tr t6 not_ns
    have m6 := HM.out.below b6
    have E6 := HE.out.tr HM.out t6
    have hx6 : Byt w6.drew (Still w6.drew g) (some ⟨w4.heap.size, 0, none⟩) (nm n) := (show Arr w6.drew 49 w4.heap.size (nm n) from ha6).byt ⟨Arr.lt ha6, HM.out.fresh _ B4.out.size⟩
    have hv := HIS.out.fly (.O n) (by simp)
    have hcan := HIS.out.can E6.tok hN hv
    have hS : Short σ := fun i => by
      have := row_tot σ i
      have := HT.out
      omega
    have HC := Lib.hid (await_any (n := 32) (c := 32) (below := n + 1) (d := .O n) (run := fun σ => runO T σ n) (vd := .func (.func 48) #[] #[ptr w.heap.size, ptr (w.heap.size + 1 + 1), ptr (w.heap.size + 1)]) m6 E6.mx hNN (nm_length n) hx6 (Nat.le_refl _) (by decide) (by decide) (by omega)
      ⟨_, _, _, A, c, rfl, y1, by rw [show (tm T n).2.length = m from HPN.out]; exact y3, h64, hL6, y2⟩ hS (fun w' g' hm' he' f caps hf => by
        injection hf with hf1 _ hf3
        injection hf1 with hf1
        subst hf1 hf3
        exact runO_any (E6.tr m6 he') hm' hS hnN (y1.tr he' not_ns) (by rw [show (tm T n).2.length = m from HPN.out]; exact y3.tr he' not_ns) (hL6.tr he' not_ns) hcan.2 (y2.tr he' not_ns)))
    have T6 := Lib.hid t6
    have s0 := y1.2
    have b0 := y2.2
    have q7 : (n : Int) + 1 ≤ 100000000 := by omega
    have q8 : (0 : Int) ≤ (n : Int) := by omega
    clear K1 K2 K3 y1 y2 y3 hL6 m6 E6 hx6 hv hcan hS b6 b46 t6 t46 ha6 hb6 A5 B5 B4
    go_wp2_with fail
    refine wp_region_still_tail 5 (by kernel_rfl) (by kernel_rfl) ?_
    change wpStill _ _ w6.drew (fun a' => wpList _ _ _ _ a' w6.drew) _ _
    obtain ⟨w7, hw7⟩ : ∃ w7, w6.drew = w7 := ⟨_, rfl⟩
    rw [hw7] at HC T6 s0 b0 ⊢
    simp only [List.take_succ_cons, List.take_zero, List.drop_succ_cons, List.drop_zero]
    repeat still_step
    refine wpStill_nil ?_
    go_wp2_with fail
    go_at_call 46
    refine HC.out.mono ?_
    rintro e w8 ⟨rfl, g8, hm8, he8⟩
    have HM8 := Lib.hid hm8
    have HE8 := Lib.hid (T6.out.trans he8)
    clear hm8 he8
    go_wp2_with fail
    go_end0
    refine ⟨rfl, g8, _, HM8.out, HE8.out, HIS.out.await (d := .O n) ⟨[], rfl, by simp⟩ (run := fun σ => runO T σ n) fun hk => HIS.out.runO (hk n ?_), ?_⟩
    · show n ∈ nms (nm n) (n + 1)
      rw [nms_self h1 (by omega)]
      simp
    · have := tot_await (σ := σ) (run := fun σ => runO T σ n) (b := nm n) (below := n + 1) (d := .O n) (tot_runO n)
      have := HT.out
      exact Nat.le_trans (by assumption) (by omega)
end
end Go.Proofs.Ytbhfjjlfpgineaa
