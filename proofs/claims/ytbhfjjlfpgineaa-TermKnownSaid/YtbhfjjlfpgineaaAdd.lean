/- add takes a name as known. Conditions: the number is a name's. -/
import Derived.Test.YtbhfjjlfpgineaaMemo
namespace Go.Proofs.Ytbhfjjlfpgineaa
open Go.RowKit

theorem size4 : (Try.prog.info? 4).map (·.size) = some 1 := by kernel_rfl
theorem size42 : (Try.prog.info? 42).map (·.size) = some 1 := by kernel_rfl
section
variable {C : Cs} {T : List Trm} {w w' : World} {g g' : Gh} {bx : Nat → Prop} {σ : Sch}
theorem Mem.ne_sn (h : Mem C T w g bx σ) : C.sb ≠ C.nb := fun e => by have := h.sbR; rw [e, h.nbR] at this; cases this
theorem Mem.ne_sw (h : Mem C T w g bx σ) : C.sb ≠ C.wb := fun e => by have := h.sbR; rw [e, h.wbR] at this; cases this
theorem Mem.ne_nw (h : Mem C T w g bx σ) : C.nb ≠ C.wb := fun e => by have := h.nbR; rw [e, h.wbR] at this; cases this
theorem Mem.ne_ks (h : Mem C T w g bx σ) : C.kb ≠ C.sb := fun e => by have := h.kbC.1.2; rw [e, h.sbR] at this; cases this
theorem Mem.ne_kn (h : Mem C T w g bx σ) : C.kb ≠ C.nb := fun e => by have := h.kbC.1.2; rw [e, h.nbR] at this; cases this
theorem kn_cell (h : Mem C T w g bx σ) {n : Nat} (hn : n < C.N) : w.cell? ⟨C.nb, n, none⟩ = some (.bool (kn σ n)) := by
  rw [cell_of_block h.nbB]
  have hl : n < σ.names.length := by rw [h.namesN]; exact hn
  unfold kn
  simp [hl]

theorem ownsRow_one {w : World} {base e size n : Nat} {v : Value} {xs : List Value} (h : w.ownsRow base e size v n xs) : v.oneCell' = true := by
  rcases h.2 with ⟨rfl, _⟩ | ⟨_, _, _, rfl, _⟩ <;> rfl
def RAdd (r : Role) : Prop := r = .nb ∨ r = .news ∨ r = .sb
/-- A slice has grown: its block has its role. -/
theorem dub_row {R : Role → Prop} {r : Role} {w w3 : World} {g : Gh} {bx : Nat → Prop} {v v' : Value} {b0 base : Nat} (t : Tr R w w3 g g bx) (hv : ∀ b, v.ownBlock = some b → g.role b = r) (hat : v'.ownBlock = v.ownBlock ∨ v'.ownBlock = some b0) (h0 : w.heap.size ≤ b0) (h3 : ∀ b, v'.ownBlock = some b → b < w3.heap.size)
    (fresh : ∀ b, w.heap.size ≤ b → g.role b = .still) (old : ∀ b, g.role b ≠ .still → base ≤ b) (hb : base ≤ w.heap.size) :
    ∃ g', Tr R w w3 g g' bx ∧ (∀ b, v'.ownBlock = some b → g'.role b = r) ∧ (∀ b, w3.heap.size ≤ b → g'.role b = .still) ∧ (∀ b, g'.role b ≠ .still → base ≤ b) ∧ g'.lf = g.lf ∧ ∀ b, b < w.heap.size → g'.role b = g.role b := by
  rcases hat with hat | hat
  · exact ⟨g, t, fun b hb => hv b (by rw [← hat]; exact hb), fun b hb => fresh b (Nat.le_trans t.size hb), old, rfl, fun _ _ => rfl⟩
  · refine ⟨_, t.dub h0 r, fun b hb => ?_, fun b hb' => ?_, fun b hb' => ?_, rfl, fun b hb' => if_neg (by omega)⟩
    · rw [hat] at hb
      obtain rfl : b0 = b := by simpa using hb
      exact if_pos rfl
    · have := h3 b0 hat
      show (if b = b0 then r else g.role b) = _
      rw [if_neg (by omega)]
      exact fresh b (Nat.le_trans t.size hb')
    · by_cases e : b = b0
      · omega
      · exact old b (by simpa [e] using hb')
theorem add_end {n : Nat} {w1 w2 w3 : World} {nv v2 : Value} (h : Mem C T w g bx σ) (hk : kn σ n = false) (hn : n < C.N) (hb1 : w1.heap[C.nb]? = some (.cells ((σ.names.map Value.bool).set n (.bool true)).toArray 4 (0, 0))) (hw1 : Wr C.nb w w1)
    (hs3 : ∀ b, nv.ownBlock = some b → g.role b = .news) {o : Obj}
    (hown2 : w2.ownsRow 0 3 1 v2 (σ.news.length + 1) ((σ.news.map fun n : Nat => Value.int .i64 n) ++ [.int .i64 n])) (hgrow2 : (w1.alloc o).grownBy w2 nv.ownBlock) (hat2 : v2.ownBlock = nv.ownBlock ∨ v2.ownBlock = some (w1.heap.size + 1))
    (hb3 : w3.heap[C.sb]? = some (.cells [ptr C.kb, v2, .slice (some ⟨C.wb, 0, none⟩) C.N C.N].toArray 86 (0, 0))) (hw3 : Wr C.sb w2 w3) : ∃ g', Mem C T w3 g' bx (addS σ n) ∧ Ex w w3 g g' bx := by
  have t1 : Tr RAdd w w1 g g bx := Tr.of_wr hw1 (.inl h.nbR)
  have t2 : Tr RAdd w1 (w1.alloc o) g g bx := Tr.of_below ((Below.refl _ _).alloc (Nat.le_refl _) o)
  have t3 : Tr RAdd (w1.alloc o) w2 g g bx := Tr.of_grown hgrow2 fun b hb => .inr (.inl (hs3 b hb))
  have t4 : Tr RAdd w2 w3 g g bx := Tr.of_wr hw3 (.inr (.inr h.sbR))
  have t := ((t1.trans t2).trans t3).trans t4
  obtain ⟨g', t', hv2, hfresh, hold, hlf, hro⟩ := dub_row t hs3 hat2 (by rw [hw1.size]; omega) (fun b hb => by rw [hw3.size]; exact (hown2.lt b hb).2) h.fresh h.old h.base
  have hns : ¬ RAdd .still := fun e => by rcases e with e | e | e <;> cases e
  have hnw : ¬ RAdd .wb := fun e => by rcases e with e | e | e <;> cases e
  have hkeep : ∀ b, b < w.heap.size → ∀ r, g.role b = r → g'.role b = r := fun b hb r hr => (hro b hb).trans hr
  have hsl : C.sb < w.heap.size := by obtain ⟨v, h1, _⟩ := h.sbB; exact lt_of_block h1
  have hnl := lt_of_block h.nbB
  obtain ⟨wv, hw4, hw5, hw6⟩ := h.wbB
  have hwl := lt_of_block hw4
  have hlen : n < σ.names.length := by rw [h.namesN]; exact hn
  have eA : addS σ n = { σ with names := σ.names.set n true, news := σ.news ++ [n] } := by unfold addS; rw [if_neg (by simp [hk])]
  refine ⟨g', ?_, t'.imp fun r hr e => by subst e; exact hns hr⟩
  rw [eA]
  refine ⟨hfresh, hold, Nat.le_trans h.base t.size, hkeep _ hsl _ h.sbR, hkeep _ hnl _ h.nbR, hkeep _ hwl _ h.wbR, h.kbC.tr t' hns, ⟨v2, hb3, ?_, hv2⟩, ?_, ?_, ⟨wv, (t'.block _ hwl (by rw [h.wbR]; exact hnw)).trans hw4, hw5, fun m hm hne => ?_⟩, h.waitN, fun i hi => ?_, ?_, h.ex.imp (fun e => e) fun e => by rw [← eA]; exact kn_up_add σ n e⟩
  · have e1 : (σ.news ++ [n]).length = σ.news.length + 1 := by simp
    have e2 : (σ.news ++ [n]).map (fun n : Nat => Value.int .i64 n) = (σ.news.map fun n : Nat => Value.int .i64 n) ++ [.int .i64 n] := by simp
    show w3.ownsRow 0 3 1 v2 (σ.news ++ [n]).length ((σ.news ++ [n]).map fun n : Nat => Value.int .i64 n)
    rw [e1, e2]
    refine ownsRow_keep hown2 fun b hb => hw3.block b fun e => ?_
    have h1 := hv2 b hb
    rw [e, hkeep _ hsl _ h.sbR] at h1
    cases h1
  · have e : w3.heap[C.nb]? = w1.heap[C.nb]? := by
      rw [hw3.block _ h.ne_sn.symm, hgrow2.block C.nb (by rw [alloc_size, hw1.size]; omega) (fun e => by have := hs3 _ e.symm; rw [h.nbR] at this; cases this)]
      exact Below.heap_alloc _ _ _ (by rw [hw1.size]; exact hnl)
    rw [e, hb1]
    simp only [List.map_set]
  · simp only [List.length_set]; exact h.namesN
  · refine (hw6 m hm hne).tr t' hns fun e => ?_
    rcases e with e | e | e <;> cases e
  · obtain ⟨a, b⟩ := h.lefts i hi
    have hl := lt_of_block a
    rw [hlf]
    exact ⟨(t'.block _ hl (by rw [b]; intro e; rcases e with e | e | e <;> cases e)).trans a, hkeep _ hl _ b⟩
  · have := count_set σ.names n hk hlen
    have := h.cnt
    simp only [List.length_append, List.length_cons, List.length_nil]
    omega

set_option maxRecDepth 100000 in
set_option maxHeartbeats 1000000 in
theorem add_any {n : Nat} (h : Mem C T w g bx σ) (hn : n < C.N) (hN : C.N ≤ 70000) : Calls Try.prog 45 #[ptr C.sb, .int .i64 n] w (Ends C T w g bx (addS σ n)) := by
  obtain ⟨nv, hs1, hs2, hs3⟩ := h.sbB
  have c0 : w.cell? ⟨C.sb, 0, none⟩ = some (ptr C.kb) := by rw [cell_of_block hs1]; rfl
  have k0 := h.kbC.2
  have n0 := kn_cell h hn
  have q1 : (0 : Int) ≤ (n : Int) := by omega
  have q2 : (n : Int) < (C.N : Int) := by omega
  have HH := Lib.hid h
  obtain ⟨sb, kb, nb, wb, N, base, x⟩ := C
  simp only at *
  cases hk : kn σ n with
  | true =>
    have e : addS σ n = σ := by unfold addS; rw [if_pos hk]
    rw [e]
    rw [hk] at n0
    clear e hk hs1 hs2 hs3
    go_enter Try.func45, Try.ntmps45
    go_wp2
    go_end0
    exact ends_same HH.out
  | false =>
    rw [hk] at n0
    have HB := Lib.hid h.nbB
    have hl : n < (σ.names.map Value.bool).length := by rw [List.length_map, h.namesN]; exact hn
    have HL := Lib.hid hl
    have HK := Lib.hid hk
    have hlen : σ.news.length ≤ 70000 := by
      have h1 := h.cnt
      have h2 := List.count_le_length (a := true) (l := σ.names)
      have h3 := h.namesN
      simp only at h3
      omega
    have HS1 := Lib.hid hs1
    have HS2 := Lib.hid hs2
    have HS3 := Lib.hid hs3
    have NE := Lib.hid (And.intro h.ne_sn (And.intro h.ne_sw (And.intro h.ne_nw (And.intro h.ne_ks h.ne_kn))))
    clear hl hk h hs1 hs2 hs3
    obtain ⟨i3, hi3, hy0, hy1, hy2⟩ := info_parts Try.info3
    go_enter Try.func45, Try.ntmps45
    go_wp2_with (first | (refine wpList_store_cell rfl 4 _ _ rfl size4 nb n (.bool true) rfl rfl rfl _ _ HB.out HL.out ?_) | fail)
    intro w1 hb1 hw1
    have hS1 : Hid (w1.heap[sb]? = some (.cells [ptr kb, nv, .slice (some ⟨wb, 0, none⟩) N N].toArray 86 (0, 0))) := (hw1.out.block _ NE.out.1).trans HS1.out
    have c01 : w1.cell? ⟨sb, 0, none⟩ = some (ptr kb) := by rw [cell_of_block hS1.out]; rfl
    have c11 : w1.cell? ⟨sb, 1, none⟩ = some nv := by rw [cell_of_block hS1.out]; rfl
    have hown1 : w1.ownsRow 0 3 1 nv σ.news.length (σ.news.map fun n : Nat => Value.int .i64 n) := ownsRow_keep HS2.out fun b hb => hw1.out.block b fun e => by
      have h1 := HS3.out b hb
      have h2 := HH.out.nbR
      simp only at h2
      rw [e, h2] at h1
      cases h1
    clear c0 n0 k0
    go_wp2_with (first | (at_builtin; refine wpList_append_own_at _ rfl _ _ 42 rfl 0 3 i3 (.int .i64 0) 1 8 Try.underlying42 hi3 hy0 hy1 hy2 rfl (by omega) nv σ.news.length _ rfl (hown1.alloc _) ⟨w1.heap.size, 0, none⟩ 1 1 [.int .i64 n] rfl rfl ?n1 ?n2 ?n3 ?n4 ?n5 ?_) | fail)
    case n1 => exact World.news_of_block (heap_alloc_new w1 _)
    case n2 =>
      intro u hu
      obtain rfl : u = .int .i64 n := by simpa using hu
      rfl
    case n3 => unfold maxLen; omega
    case n4 => omega
    case n5 => omega
    intro v2 w2 hown2 hgrow2 hnil2 hat2
    have hz2 : w1.heap.size + 1 ≤ w2.heap.size := by have := hgrow2.size; rw [alloc_size] at this; omega
    have hS2 : Hid (w2.heap[sb]? = some (.cells [ptr kb, nv, .slice (some ⟨wb, 0, none⟩) N N].toArray 86 (0, 0))) := by
      refine ((hgrow2.block sb (by rw [alloc_size]; have := lt_of_block hS1.out; omega) (fun e => ?_)).trans (Below.heap_alloc _ _ _ (lt_of_block hS1.out))).trans hS1.out
      have h1 := HS3.out sb e.symm
      have h2 := HH.out.sbR
      simp only at h2
      rw [h2] at h1
      cases h1
    have H2 := Lib.hid hown2
    have G2 := Lib.hid hgrow2
    have A2 := Lib.hid hat2
    clear hown2 hgrow2 hat2 hnil2 c01 c11 hown1
    go_wp2_with (first | (refine wpList_store_cell rfl 42 _ _ rfl size42 sb 1 v2 rfl rfl (ownsRow_one H2.out) _ _ hS2.out (by simp) ?_) | fail)
    intro w3 hb3 hw3
    go_wp2
    go_end0
    exact ⟨rfl, add_end HH.out HK.out hn hb1.out hw1.out HS3.out H2.out G2.out A2.out hb3.out hw3.out⟩
end
end Go.Proofs.Ytbhfjjlfpgineaa
