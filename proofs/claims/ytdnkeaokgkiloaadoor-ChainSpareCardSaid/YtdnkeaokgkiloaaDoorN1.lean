/- The suites' small calls, arrays of bytes of either type, lists of bytes that a call puts together; what is mixed, in plain mathematics. Conditions: none. -/
import Derived.Test.YtdnkeaokgkiloaaDoorTd
import Derived.Test.YtdnkeaokgkiloaaDoorCc
import Derived.Test.YtdnkeaokgkiloaaDoorSf
import Derived.Test.YtdnkeaokgkiloaaDoorTf
import Derived.Test.YtdnkeaokgkiloaaDoorTh
namespace Go.Proofs.YtdnkeaokgkiloaaDoor
open Go.RowKit T
theorem grown_below {w w' : World} (h : w.grownBy w' none) : Below w.heap.size w w' := ⟨h.os, h.tape, h.output, h.size, fun k hk => h.block k hk (by simp)⟩
theorem below_grown {w w' : World} (h : Below w.heap.size w w') : w.grownBy w' none := ⟨h.os, h.tape, h.output, h.size, fun k hk _ => h.block k hk⟩
/-- The value of a suite. -/
def sui (p : Option Addr) : Value := .agg #[.pointer p]
theorem real_yes (w : World) : Calls Tryd.prog 39 #[sui none] w fun e w' => e = .returned (.bool true) ∧ w.grownBy w' none := by
  unfold sui
  go_enter Tryd.func39, Tryd.ntmps39
  go_wp2
  go_ret
  exact ⟨rfl, World.grownBy_alloc _ _ _⟩
theorem real_no (w : World) (b : Nat) : Calls Tryd.prog 39 #[sui (some ⟨b, 0, none⟩)] w fun e w' => e = .returned (.bool false) ∧ w.grownBy w' none := by
  unfold sui
  go_enter Tryd.func39, Tryd.ntmps39
  go_wp2
  go_ret
  exact ⟨rfl, World.grownBy_alloc _ _ _⟩
theorem size30 : (Tryd.prog.info? 29).map (·.size) = some 1 := by kernel_rfl
theorem sui_out {w' : World} {g : Nat} {p : Option Addr} {fn : Func} {tmps : Array Value} {t : Tmp} (h : fn.results = #[.cell t 29]) (hp : tmps.getD t undef = .pointer (some ⟨g, 0, none⟩)) (hb : C.Blk w' g 29 [.pointer p]) :
    (results fn tmps).run Tryd.prog w' = .ok (sui p) w' := results_cell_row h tmps w' g 29 #[.pointer p] (0, 0) _ hp hb Tryd.underlying29 rfl size30
theorem realnew_any (w : World) : Calls Tryd.prog 25 #[] w fun e w' => e = .returned (sui none) ∧ w.grownBy w' none := by
  go_enter Tryd.func25, Tryd.ntmps25
  go_wp2
  exact bodyPost_ret (sui_out (g := w.heap.size) rfl rfl (C.Blk.of_alloc _ _ _)) rfl ⟨rfl, World.grownBy_alloc _ _ _⟩
/-- A new free suite: its table lies behind. -/
def NewS (w : World) (e : Ending) (w' : World) : Prop := ∃ tb, e = .returned (sui (some ⟨tb, 0, none⟩)) ∧ Tbl w' (fun b => w.heap.size ≤ b ∧ b < w'.heap.size) tb [] ∧ w.grownBy w' none
theorem free_any (w : World) : Calls Tryd.prog 24 #[] w (NewS w) := by
  go_enter Tryd.func24, Tryd.ntmps24
  go_wp2_with fail
  go_at_call 33
  refine (new_any _).mono ?_
  rintro _ w2 ⟨tb, rfl, h1, h2, h3⟩
  rw [World.size_alloc] at h1 h2 h3
  have hb2 : C.Blk w2 w.heap.size 29 [.pointer none] := (C.Blk.of_alloc w #[.pointer none] 29).keep (h3.block _ (by omega))
  have hc : w2.cell? ⟨w.heap.size, 0, none⟩ = some (.pointer none) := hb2.get 0 _ rfl
  have hf : w2.frozen? ⟨w.heap.size, 0, none⟩ = false := hb2.frozen 0
  have h3' : Below w.heap.size w w2 := (grown_below (World.grownBy_alloc w (.cells #[.pointer none] 29) none)).trans (h3.mono (Nat.le_succ _))
  have H1 := Lib.hid h1
  have H2 := Lib.hid h2
  have H3 := Lib.hid h3'
  have HB := Lib.hid hb2
  clear h1 h2 h3 hb2 h3'
  go_wp2
  refine bodyPost_ret (sui_out (g := w.heap.size) (p := some ⟨tb, 0, none⟩) rfl rfl (HB.out.set 0 _)) rfl ⟨tb, rfl, ?_, ?_⟩
  · rw [C.size_set]
    refine (H2.out.keep fun b hb _ => ?_).imp fun b _ hb => ⟨by omega, hb.2⟩
    exact (C.grown_set w2 w.heap.size 0 _).block b hb.2 (by simp; omega)
  · exact below_grown (H3.out.trans ⟨rfl, rfl, rfl, by rw [C.size_set]; exact Nat.le_refl _, fun k hk => (C.grown_set w2 w.heap.size 0 _).block k (by have := H3.out.size; omega) (by simp; omega)⟩)
theorem suite_real (w : World) : Calls Tryd.prog 11 #[.bool false] w fun e w' => e = .returned (sui none) ∧ w.grownBy w' none := by
  go_enter Tryd.func11, Tryd.ntmps11
  go_wp2_with fail
  go_at_call 25
  refine (realnew_any _).mono ?_
  rintro _ w2 ⟨rfl, h2⟩
  have hb2 : C.Blk w2 w.heap.size 29 [.pointer none] := (C.Blk.of_alloc w #[.pointer none] 29).grown h2 (by simp)
  have hc : w2.cell? ⟨w.heap.size, 0, none⟩ = some (.pointer none) := hb2.get 0 _ rfl
  have hf : w2.frozen? ⟨w.heap.size, 0, none⟩ = false := hb2.frozen 0
  have hg := World.grownBy.trans (World.grownBy_alloc w (.cells #[.pointer none] 29) none) h2
  have HG := Lib.hid hg
  have HB := Lib.hid hb2
  clear h2 hb2 hg
  unfold sui
  go_wp2
  exact bodyPost_ret (sui_out (g := w.heap.size) rfl rfl (HB.out.set 0 _)) rfl ⟨rfl, C.grown_new HG.out (Nat.le_refl _) 0 _⟩
theorem suite_free (w : World) : Calls Tryd.prog 11 #[.bool true] w (NewS w) := by
  go_enter Tryd.func11, Tryd.ntmps11
  go_wp2_with fail
  go_at_call 24
  refine (free_any _).mono ?_
  rintro _ w2 ⟨tb, rfl, h1, h2⟩
  rw [World.size_alloc] at h1
  have hb2 : C.Blk w2 w.heap.size 29 [.pointer none] := (C.Blk.of_alloc w #[.pointer none] 29).grown h2 (by simp)
  have hc : w2.cell? ⟨w.heap.size, 0, none⟩ = some (.pointer none) := hb2.get 0 _ rfl
  have hf : w2.frozen? ⟨w.heap.size, 0, none⟩ = false := hb2.frozen 0
  have hg := World.grownBy.trans (World.grownBy_alloc w (.cells #[.pointer none] 29) none) h2
  have H1 := Lib.hid h1
  have HG := Lib.hid hg
  have HB := Lib.hid hb2
  clear h1 h2 hb2 hg
  unfold sui
  go_wp2
  refine bodyPost_ret (sui_out (g := w.heap.size) rfl rfl (HB.out.set 0 _)) rfl ⟨tb, rfl, ?_, C.grown_new HG.out (Nat.le_refl _) 0 _⟩
  rw [C.size_set]
  refine (H1.out.keep fun b hb _ => ?_).imp fun b _ hb => ⟨by omega, hb.2⟩
  exact (C.grown_set w2 w.heap.size 0 _).block b hb.2 (by simp; omega)
/-- n bytes 0. -/
def zz (n : Nat) : List UInt8 := List.replicate n 0
theorem zz_length (n : Nat) : (zz n).length = n := by simp [zz]
/-- A type that is an array of n bytes. -/
structure Ar (t : TypeId) (n : Nat) : Prop where
  size : (Tryd.prog.info? t).map (·.size) = some n
  und : Tryd.prog.underlying t = some (.array n 5)
  alloc : ∀ w, (Instr.alloc t true (.tuple #[])).run Tryd.prog w = .ok (.pointer (some ⟨w.heap.size, 0, none⟩)) (w.alloc (.cells (u8s (zz n)).toArray t))
theorem ar25 : Ar 22 32 := ⟨by kernel_rfl, Tryd.underlying22, fun _ => by kernel_rfl⟩
theorem ar26 : Ar 24 32 := ⟨by kernel_rfl, Tryd.underlying24, fun _ => by kernel_rfl⟩
theorem Arr.grown {w w' : World} {t : TypeId} {g : Nat} {xs : List UInt8} {row : Option Nat} (h : Arr w t g xs) (hg : w.grownBy w' row) (hr : some g ≠ row) : Arr w' t g xs := h.keep (hg.block g h.lt hr)
section
variable {w : World} {ops : Array Oper} {rest : List Oper} {S : World → Prop} {o : Oper} {a : Act} {K : Act → World → Prop} {Q : Exit → Act → World → Prop} {t : TypeId} {n : Nat}
theorem run_load_ar (hT : Ar t n) (w : World) (ad : Addr) (xs : List UInt8) (hl : xs.length = n) (hc : ∀ j v, (u8s xs)[j]? = some v → w.cell? (ad.add j) = some v) : (Instr.loadAt t (.pointer (some ad))).run Tryd.prog w = .ok (.agg (u8s xs).toArray) w := by
  have hl' : (loadCells ad (u8s xs).length).run Tryd.prog w = .ok (u8s xs).toArray w := run_loadCells_list (P := Tryd.prog) w ad (u8s xs) hc
  have hq : (Tryd.prog.info? t).map (·.size) = some (u8s xs).length := by rw [hT.size, u8s_length, hl]
  generalize u8s xs = z at hl' hq
  simp only [Instr.loadAt, Instr.sureAddr, Sem.run_bind, Sem.run_pure, Result.andThen_ok]
  cases hi : Tryd.prog.info? t with
  | none => simp [hi] at hq
  | some i =>
    have hs : i.size = z.length := by simpa [hi] using hq
    have hagg : (isAgg t).run Tryd.prog w = .ok true w := by
      unfold isAgg
      rw [Sem.run_bind, run_underlying hT.und w]
      rfl
    simp [loadVar, Sem.run_bind, hagg, sizeOf, typeInfo, hi, hs, hl']
theorem yieldsIf_load_ar (hT : Ar t n) (hw : Region.wanted o (yielded ops a.tmps) = true) (x : Operand) (ho : o.op = .load t x) (ad : Addr) (hx : a.eval x = .pointer (some ad)) (xs : List UInt8) (hl : xs.length = n)
    (hS : ∀ w, S w → ∀ j v, (u8s xs)[j]? = some v → w.cell? (ad.add j) = some v) : YieldsIf Tryd.prog ops S o (.agg (u8s xs).toArray) a :=
  .inl ⟨hw, fun w hs => by
    have hrun := run_load_ar hT w ad xs hl (hS w hs)
    unfold execOp
    simp only [ho, hx, hrun, Sem.run_bind, Sem.run_pure, Result.andThen_ok]⟩
theorem wpList_load_ar (hT : Ar t n) (hw : Region.wanted o (yielded ops a.tmps) = true) (x : Operand) (ho : o.op = .load t x) (g : Nat) (hx : a.eval x = .pointer (some ⟨g, 0, none⟩)) (xs : List UInt8) (hk : Arr w t g xs) (hl : xs.length = n)
    (h : wpList Tryd.prog ops Q rest (a.put o.dst (.agg (u8s xs).toArray)) w) : wpList Tryd.prog ops Q (o :: rest) a w :=
  wpList_step fun K hK => by
    rw [if_pos hw]
    exact wp_load_row t x ho g hx t _ (0, 0) _ hk hT.und rfl (by simp [hT.size, u8s_length, hl]) (hK _ _ h)
theorem wp_store_ar (hT : Ar t n) (x y : Operand) (ho : o.op = .store t x y) (g : Nat) (xs ys : List UInt8) (hx : a.eval x = .pointer (some ⟨g, 0, none⟩)) (hy : a.eval y = .agg (u8s ys).toArray) (hk : Arr w t g xs) (hxl : xs.length = n) (hyl : ys.length = n)
    (h : ∀ w', Arr w' t g ys → w.grownBy w' (some g) → w'.heap.size = w.heap.size → K (a.put o.dst undef) w') : o.wp Tryd.prog a w K Q := by
  refine wp_store_row t x y ho g _ hx hy t _ hk (by simp [hT.size, u8s_length, hyl]) (by simp [u8s_length, hxl, hyl]) (all_oneCell_toArray (u8s_one ys)) ?_
  exact h _ (setRow_heap w g _ _ t _ hk) ⟨rfl, rfl, rfl, by simp, fun i _ hi => setRow_other w g i _ fun e => hi (by rw [e])⟩ (by simp)
theorem wpList_store_ar (hT : Ar t n) (hgd : o.guard = none) (x y : Operand) (ho : o.op = .store t x y) (g : Nat) (xs ys : List UInt8) (hx : a.eval x = .pointer (some ⟨g, 0, none⟩)) (hy : a.eval y = .agg (u8s ys).toArray) (hk : Arr w t g xs) (hxl : xs.length = n) (hyl : ys.length = n)
    (h : ∀ w', Arr w' t g ys → w.grownBy w' (some g) → w'.heap.size = w.heap.size → wpList Tryd.prog ops Q rest (a.put o.dst undef) w') : wpList Tryd.prog ops Q (o :: rest) a w :=
  wpList_plain hgd fun _ hK => wp_store_ar hT x y ho g xs ys hx hy hk hxl hyl fun w' h1 h2 h3 => hK _ _ (h w' h1 h2 h3)
theorem wp_alloc_ar (hT : Ar t n) (ho : o.op = .alloc t)
    (h : ∀ w', Arr w' t w.heap.size (zz n) → w.grownBy w' none → w'.heap.size = w.heap.size + 1 → K (a.put o.dst (.pointer (some ⟨w.heap.size, 0, none⟩))) w') : o.wp Tryd.prog a w K Q := by
  have hrun := hT.alloc w
  obtain ⟨z, hz⟩ : ∃ z, z = u8s (zz n) := ⟨_, rfl⟩
  have hA : Arr (w.alloc (.cells z.toArray t)) t w.heap.size (zz n) := by rw [hz]; exact heap_alloc_new w _
  rw [← hz] at hrun
  clear hz
  unfold Oper.wp
  simp only [execOp, ho, Sem.run_bind, hrun, Result.andThen_ok, Sem.run_pure]
  exact h _ hA (World.grownBy_alloc w _ none) (World.size_alloc w _)
theorem wpList_alloc_ar (hT : Ar t n) (hgd : o.guard = none) (ho : o.op = .alloc t)
    (h : ∀ w', Arr w' t w.heap.size (zz n) → w.grownBy w' none → w'.heap.size = w.heap.size + 1 → wpList Tryd.prog ops Q rest (a.put o.dst (.pointer (some ⟨w.heap.size, 0, none⟩))) w') : wpList Tryd.prog ops Q (o :: rest) a w :=
  wpList_plain hgd fun _ hK => wp_alloc_ar hT ho fun w' h1 h2 h3 => hK _ _ (h w' h1 h2 h3)
end
theorem byt_mark (w : World) (x : List UInt8) (fr : Nat × Nat) : Byt (w.alloc (.cells (u8s x).toArray 5 fr)) (fun b => b = w.heap.size) (some ⟨w.heap.size, 0, none⟩) x := fun j hj => by
  refine ⟨_, rfl, rfl, ?_⟩
  rw [Addr.add_lit, Nat.zero_add, World.cell?_alloc_mark]
  unfold u8s
  rw [List.getElem?_toArray, List.getElem?_map, List.getElem?_eq_getElem hj]
  rfl
theorem list_at {α : Type} {Q : Nat → α → Prop} : ∀ n, (∀ i, i < n → ∃ a, Q i a) → ∃ l : List α, l.length = n ∧ ∀ i (h : i < l.length), Q i l[i]
  | 0, _ => ⟨[], rfl, fun i h => by simp at h⟩
  | n + 1, h => by
    obtain ⟨l, hl, hq⟩ := list_at n fun i hi => h i (by omega)
    obtain ⟨a, ha⟩ := h n (by omega)
    refine ⟨l ++ [a], by simp [hl], fun i hi => ?_⟩
    by_cases hn : i < l.length
    · rw [List.getElem_append_left hn]
      exact hq i hn
    · have hin : i = n := by simp at hi; omega
      subst hin
      simp [hl, ha]
/-- A row of the call's own that holds these lists. -/
def Row22 (B : Nat) (w : World) (v : Value) (n : Nat) (L : List (List UInt8)) : Prop :=
  ∃ ss : List Value, w.ownsRow B 66 1 v n ss ∧ L.length = n ∧ ∀ i (h : i < L.length), ∃ A c, ss[i]? = some (.slice A L[i].length c) ∧ L[i].length ≤ c ∧ c ≤ maxLen ∧ Byt w (fun b => b < w.heap.size ∧ some b ≠ v.ownBlock) A L[i]
section
variable {B n m : Nat} {w w' : World} {v : Value} {L L2 : List (List UInt8)} {A A2 : Option Addr}
theorem Row22.up (h : Row22 B w v n L) (hb : Below w.heap.size w w') : Row22 B w' v n L := by
  obtain ⟨ss, h1, h2, h3⟩ := h
  refine ⟨ss, ownsRow_keep h1 fun g hg => hb.block g (h1.lt g hg).2, h2, fun i hi => ?_⟩
  obtain ⟨A, c, q1, q2, q3, q4⟩ := h3 i hi
  exact ⟨A, c, q1, q2, q3, (q4.keep fun b hb' => hb.block b hb'.1).imp fun b hb' => ⟨Nat.lt_of_lt_of_le hb'.1 hb.size, hb'.2⟩⟩
theorem Row22.own (h : Row22 B w v n L) : ∀ g, v.ownBlock = some g → B ≤ g ∧ g < w.heap.size := by
  obtain ⟨ss, h1, _⟩ := h
  exact h1.lt
theorem Row22.new (hB : B ≤ w.heap.size) : Row22 B (w.alloc (.cells #[] 66)) (.slice (some ⟨w.heap.size, 0, none⟩) 0 0) 0 [] :=
  ⟨[], ⟨rfl, .inr ⟨w.heap.size, 0, #[], rfl, hB, heap_alloc_new w _, Nat.le_refl _, Nat.zero_le _, rfl, rfl⟩⟩, rfl, fun i hi => by simp at hi⟩
theorem Row22.lst (h : Row22 B w v n L) : ∃ A c, v = .slice A n c ∧ Lst w (fun b => b < w.heap.size) A L := by
  obtain ⟨ss, o1, h2, o2⟩ := h
  rcases o1.2 with ⟨e, h0⟩ | ⟨gb, cap, cur, e, _⟩
  · refine ⟨none, 0, by rw [e, h0], fun j hj => by omega⟩
  · subst e
    refine ⟨_, cap, rfl, fun j hj => ?_⟩
    obtain ⟨A', c', q1, q2, q3, q4⟩ := o2 j hj
    have hgb := o1.lt gb rfl
    refine ⟨⟨gb, 0, none⟩, A', c', rfl, hgb.2, ?_, q2, q3, q4.imp fun b hb => hb.1⟩
    rw [Addr.add_lit, Nat.zero_add]
    exact ownsRow_cell1 o1 q1
theorem run_app22 {ty : TypeId} {c2 k : Nat} (h : Row22 B w v n L) (h2 : Lst w (fun b => b < w.heap.size ∧ some b ≠ v.ownBlock) A2 L2) (hm : L2.length = m) (hk : n + m = k) (hle : k ≤ 1000) (hB : B ≤ w.heap.size) :
    ∃ A c w', (Builtin.append_ #[75, 75] ty #[v, .slice A2 m c2]).run Tryd.prog w = .ok (.slice A k c) w' ∧ Row22 B w' (.slice A k c) k (L ++ L2) ∧ Below B w w' := by
  subst hk
  obtain ⟨i41, hi41, hx0, hx1, hx2⟩ := info_parts info41
  obtain ⟨ss, o1, hL, o2⟩ := h
  have hown := o1.lt
  have hssl : ss.length = n := by have := o1.1; omega
  -- what is put behind
  have hsrc : ∃ ss2 : List Value, ss2.length = m ∧ (∀ ad, A2 = some ad → ∀ j u, ss2[j]? = some u → w.cell? (ad.add j) = some u) ∧ (∀ u ∈ ss2, u.oneCell' = true) ∧ ∀ i (h : i < L2.length), ∃ A c, ss2[i]? = some (.slice A L2[i].length c) ∧ L2[i].length ≤ c ∧ c ≤ maxLen ∧ Byt w (fun b => b < w.heap.size ∧ some b ≠ v.ownBlock) A L2[i] := by
    obtain ⟨ss2, hl, hq⟩ := list_at (Q := fun i (u : Value) => (∀ ad, A2 = some ad → w.cell? (ad.add i) = some u) ∧ u.oneCell' = true ∧ ∃ h : i < L2.length, ∃ A c, u = .slice A L2[i].length c ∧ L2[i].length ≤ c ∧ c ≤ maxLen ∧ Byt w (fun b => b < w.heap.size ∧ some b ≠ v.ownBlock) A L2[i]) m fun i hi => by
      have hi2 : i < L2.length := by omega
      obtain ⟨ad, A', c', rfl, _, q1, q2, q3, q4⟩ := h2 i hi2
      refine ⟨.slice A' L2[i].length c', fun ad' e => ?_, rfl, hi2, A', c', rfl, q2, q3, q4⟩
      cases e
      exact q1
    refine ⟨ss2, hl, fun ad e j u hu => ?_, fun u hu => ?_, fun i hi => ?_⟩
    · obtain ⟨hj, rfl⟩ := List.getElem?_eq_some_iff.1 hu
      exact (hq j hj).1 ad e
    · obtain ⟨j, hj, rfl⟩ := List.getElem_of_mem hu
      exact (hq j hj).2.1
    · obtain ⟨_, _, _, A, c, e, q2, q3, q4⟩ := hq i (by omega)
      exact ⟨A, c, by rw [List.getElem?_eq_getElem (by omega), e], q2, q3, q4⟩
  obtain ⟨ss2, hl2, hs1, hs2, hs3⟩ := hsrc
  rcases A2 with _ | ad
  · have hm0 : m = 0 := by
      rcases Nat.eq_zero_or_pos m with h0 | h0
      · exact h0
      · obtain ⟨ad, _, _, e, _⟩ := h2 0 (by omega)
        cases e
    subst hm0
    obtain rfl : L2 = [] := List.eq_nil_of_length_eq_zero hm
    obtain ⟨A, c, rfl⟩ : ∃ A c, v = .slice A n c := by
      rcases o1.2 with ⟨rfl, rfl⟩ | ⟨g, cap, cur, rfl, _⟩
      · exact ⟨none, 0, rfl⟩
      · exact ⟨_, cap, rfl⟩
    refine ⟨A, c, w, ?_, ⟨ss, by simpa using o1, by simpa using hL, by simpa using o2⟩, Below.refl _ _⟩
    rcases o1.2 with ⟨e, rfl⟩ | ⟨g, cap, cur, e, _, _, hnc, _⟩
    · cases e
      simp [Builtin.append_, run_underlying Tryd.underlying75, sizeOf, typeInfo, hi41, Builtin.lenOf, Builtin.firstCells]
    · cases e
      simp [Builtin.append_, run_underlying Tryd.underlying75, sizeOf, typeInfo, hi41, Builtin.lenOf, Builtin.firstCells, hnc, storeCells]
  · obtain ⟨v', w', hr, ho, hg, _, hat⟩ := run_append_own_at (P := Tryd.prog) w B 75 ty 66 i41 (.slice none 0 0) 1 24 Tryd.underlying75 hi41 hx0 hx1 hx2 rfl Nat.one_pos v n ss o1 ad m c2 ss2 (by omega) (hs1 ad rfl) hs2 (by unfold maxLen; omega) (by omega) hB
    have hbl : Below B w w' := ⟨hg.os, hg.tape, hg.output, hg.size, fun b hb => hg.block b (by omega) fun e => by have := (hown b e.symm).1; omega⟩
    have hne : ∀ b, b < w.heap.size → some b ≠ v.ownBlock → some b ≠ v'.ownBlock := fun b hb hn => by
      rcases hat with e | e
      · rw [e]; exact hn
      · rw [e]; intro e2; have := Option.some.inj e2; omega
    have hfin : Row22 B w' v' (n + m) (L ++ L2) := by
      refine ⟨ss ++ ss2, ho, by simp [hL, hm], fun i hi => ?_⟩
      have hkeep : ∀ {A : Option Addr} {xs : List UInt8}, Byt w (fun b => b < w.heap.size ∧ some b ≠ v.ownBlock) A xs → Byt w' (fun b => b < w'.heap.size ∧ some b ≠ v'.ownBlock) A xs := fun q => (q.keep fun b hb => hg.block b hb.1 hb.2).imp fun b hb => ⟨Nat.lt_of_lt_of_le hb.1 hg.size, hne b hb.1 hb.2⟩
      by_cases hin : i < L.length
      · obtain ⟨A, c, q1, q2, q3, q4⟩ := o2 i hin
        have e : (L ++ L2)[i] = L[i] := List.getElem_append_left hin
        rw [e]
        exact ⟨A, c, by rw [List.getElem?_append_left (by omega)]; exact q1, q2, q3, hkeep q4⟩
      · have hi2 : i - L.length < L2.length := by simp at hi; omega
        obtain ⟨A, c, q1, q2, q3, q4⟩ := hs3 (i - L.length) hi2
        have e : (L ++ L2)[i] = L2[i - L.length] := List.getElem_append_right (by omega)
        rw [e]
        exact ⟨A, c, by rw [List.getElem?_append_right (by omega), hssl, ← hL]; exact q1, q2, q3, hkeep q4⟩
    obtain ⟨A, c, rfl, _⟩ := hfin.lst
    exact ⟨A, c, w', hr, hfin, hbl⟩
theorem op_app22 {o : Oper} {a : Act} {K : Act → World → Prop} {Q : Exit → Act → World → Prop} (s x : Operand) (ho : o.op = .call { callee := .builtin .append, args := #[s, x], argTypes := #[75, 75] })
    {c2 k : Nat} (hs : a.eval s = v) (hx : a.eval x = .slice A2 m c2) (h1 : Row22 B w v n L) (h2 : Lst w (fun b => b < w.heap.size ∧ some b ≠ v.ownBlock) A2 L2) (hm : L2.length = m) (hk : n + m = k) (hle : k ≤ 1000) (hB : B ≤ w.heap.size)
    (h : ∀ A c w', Row22 B w' (.slice A k c) k (L ++ L2) → Below B w w' → K (a.put o.dst (.slice A k c)) w') : Oper.wp Tryd.prog o a w K Q := by
  obtain ⟨A, c, w', hr, q1, q2⟩ := run_app22 (ty := o.type) (c2 := c2) h1 h2 hm hk hle hB
  unfold Oper.wp execOp
  simp only [ho, resolve, invoke, builtin, Sem.run_bind, Sem.run_pure, Result.andThen_ok, List.map_toArray, List.map_cons, List.map_nil, hs, hx, hr]
  exact h A c w' q1 q2
theorem wpList_app22 {ops : Array Oper} {rest : List Oper} {o : Oper} {a : Act} {Q : Exit → Act → World → Prop} (hgd : o.guard = none) (s x : Operand) (ho : o.op = .call { callee := .builtin .append, args := #[s, x], argTypes := #[75, 75] })
    {c2 k : Nat} (hs : a.eval s = v) (hx : a.eval x = .slice A2 m c2) (h1 : Row22 B w v n L) (h2 : Lst w (fun b => b < w.heap.size ∧ some b ≠ v.ownBlock) A2 L2) (hm : L2.length = m) (hk : n + m = k) (hle : k ≤ 1000) (hB : B ≤ w.heap.size)
    (h : ∀ A c w', Row22 B w' (.slice A k c) k (L ++ L2) → Below B w w' → wpList Tryd.prog ops Q rest (a.put o.dst (.slice A k c)) w') : wpList Tryd.prog ops Q (o :: rest) a w :=
  wpList_plain hgd fun _ hK => op_app22 s x ho hs hx h1 h2 hm hk hle hB fun A c w' q1 q2 => hK _ _ (h A c w' q1 q2)
/-- A row of one list. -/
theorem Row22.one {xs : List UInt8} {xl c : Nat} {ok : Nat → Prop} (hB : B ≤ w.heap.size) (hl : xs.length = xl) (h1 : xl ≤ c) (h2 : c ≤ maxLen) (hx : Byt w ok A xs) (hok : ∀ b, ok b → b < w.heap.size) :
    Row22 B (w.alloc (.cells #[.slice A xl c] 66)) (.slice (some ⟨w.heap.size, 0, none⟩) 1 1) 1 [xs] := by
  subst hl
  refine ⟨[.slice A xs.length c], ⟨rfl, .inr ⟨w.heap.size, 1, #[.slice A xs.length c], rfl, hB, heap_alloc_new w _, Nat.le_refl _, by unfold maxLen; omega, rfl, rfl⟩⟩, rfl, fun i hi => ?_⟩
  obtain rfl : i = 0 := by simpa using hi
  refine ⟨A, c, rfl, h1, h2, (hx.keep fun b hb => Below.heap_alloc _ _ _ (hok b hb)).imp fun b hb => ⟨?_, fun e => ?_⟩⟩
  · rw [World.size_alloc]
    have := hok b hb
    omega
  · have e' : b = w.heap.size := by simpa [Value.ownBlock] using e
    have := hok b hb
    omega
theorem lst_lit1 {ok : Nat → Prop} {xs : List UInt8} {c xl : Nat} (hl : xs.length = xl) (h1 : xl ≤ c) (h2 : c ≤ maxLen) (hx : Byt w ok A xs) (hok : ∀ b, ok b → b < w.heap.size) :
    Lst (w.alloc (.cells #[.slice A xl c] 66)) (fun b => ok b ∨ b = w.heap.size) (some ⟨w.heap.size, 0, none⟩) [xs] := fun i hi => by
  obtain rfl : i = 0 := by simpa using hi
  subst hl
  refine ⟨_, A, c, rfl, .inr rfl, ?_, h1, h2, (hx.keep fun b hb => Below.heap_alloc _ _ _ (hok b hb)).imp fun b hb => .inl hb⟩
  rw [Addr.add_lit, Nat.zero_add, cell_of_block (heap_alloc_new w _)]
  rfl
end
/-- What may be mixed. -/
def MixOk (ps : List (List UInt8)) : Prop := ps.length ≤ 8 ∧ ∀ p ∈ ps, p.length ≤ 1024
theorem mixOk_fit {ps : List (List UInt8)} (h : MixOk ps) : Fit ps := ⟨by have := h.1; omega, fun p hp => by have := h.2 p hp; omega⟩
theorem mix_made {ps : List (List UInt8)} (x : UInt8) (h : MixOk ps) : mk [] 7 ([x] :: ps) = (1, [(7, [x] :: ps)]) := by
  have hg : T.Good (7, [x] :: ps) := by
    refine ⟨by show 1 ≤ 7; omega, by show 7 ≤ 8; omega, by show ([x] :: ps).length ≤ 64; have := h.1; simp; omega, fun p hp => ?_⟩
    rcases List.mem_cons.1 hp with rfl | hp
    · simp
    · have := h.2 p hp; omega
  exact mk_new (T := []) hg (by simp) (by simp)
theorem jn_len {ps : List (List UInt8)} (h : MixOk ps) : (jn ps).length ≤ 15000 := by
  have h1 := flat_length ps (mixOk_fit h).2
  have h2 : ∀ qs : List (List UInt8), (∀ p ∈ qs, p.length ≤ 1024) → (qs.flatMap enc).length ≤ 1026 * qs.length := by
    intro qs
    induction qs with
    | nil => intro _; simp
    | cons p qs ih =>
      intro hq
      have := ih fun p hp => hq p (List.mem_cons_of_mem _ hp)
      have h3 := hq p (List.mem_cons_self)
      rw [List.flatMap_cons, List.length_append, enc_length, List.length_cons]
      omega
  have := h2 ps h.2
  have := h.1
  unfold jn
  rw [List.length_cons]
  omega
theorem not_mixOk_long {ps : List (List UInt8)} (h : 8 < ps.length) : ¬ MixOk ps := fun hm => by have := hm.1; omega
theorem not_mixOk_big {ps : List (List UInt8)} {k : Nat} (hk : k < ps.length) (h : 1024 < ps[k].length) : ¬ MixOk ps := fun hm => by have := hm.2 _ (List.getElem_mem hk); omega
theorem mixOk_all {ps : List (List UInt8)} (h : ps.length ≤ 8) (ha : ∀ j (hj : j < ps.length), j < ps.length → ps[j].length ≤ 1024) : MixOk ps := ⟨h, fun p hp => by
  obtain ⟨j, hj, rfl⟩ := List.getElem_of_mem hp
  exact ha j hj hj⟩
theorem mix_good {x : UInt8} {ps : List (List UInt8)} (h : MixOk ps) : T.Good (7, [x] :: ps) := by
  refine ⟨by show 1 ≤ 7; omega, by show 7 ≤ 8; omega, by show ([x] :: ps).length ≤ 64; have := h.1; simp; omega, fun p hp => ?_⟩
  rcases List.mem_cons.1 hp with rfl | hp
  · simp
  · have := h.2 p hp; omega
/-- A suite: really, or by terms. -/
abbrev Sg := Option (List Trm)
/-- There is room for more terms; all that are there are right. -/
def Room (n : Nat) : Sg → Prop
  | none => True
  | some T => T.length ≤ n
theorem S.hmac_length (key text : List UInt8) : (S.hmac key text).length = 32 := S.sha256_length _
/-- What is mixed. -/
def mixV (σ : Sg) (x : UInt8) (ps : List (List UInt8)) : List UInt8 :=
  match σ with
  | none => S.hmac [x] (jn ps)
  | some T => nm (mk T 7 ([x] :: ps)).1
/-- What the suite is then. -/
def mixS (σ : Sg) (x : UInt8) (ps : List (List UInt8)) : Sg :=
  match σ with
  | none => none
  | some T => some (mk T 7 ([x] :: ps)).2
theorem mixV_length (σ : Sg) (x : UInt8) (ps : List (List UInt8)) : (mixV σ x ps).length = 32 := by
  cases σ with
  | none => exact S.hmac_length _ _
  | some T => exact nm_length _
theorem mk_room {T : List Trm} {x : UInt8} {ps : List (List UInt8)} (h : MixOk ps) (hr : T.length ≤ 60000) : 0 < (mk T 7 ([x] :: ps)).1 ∧ (mk T 7 ([x] :: ps)).2.length ≤ T.length + 1 := by
  obtain ⟨h1, h2, h3⟩ := mix_good (x := x) h
  unfold mk
  rw [if_pos ⟨h3, by omega, by omega⟩]
  split
  · exact ⟨Nat.succ_pos _, Nat.le_succ _⟩
  · rw [if_neg (by omega)]
    exact ⟨Nat.succ_pos _, by simp⟩
theorem Room.mix {n : Nat} {σ : Sg} {x : UInt8} {ps : List (List UInt8)} (h : Room n σ) (hm : MixOk ps) (hn : n ≤ 60000) : Room (n + 1) (mixS σ x ps) := by
  cases σ with
  | none => exact trivial
  | some T =>
    have h' : T.length ≤ n := h
    have := (mk_room (x := x) hm (show T.length ≤ 60000 by omega)).2
    show (mk T 7 ([x] :: ps)).2.length ≤ n + 1
    omega
theorem Room.mono {n m : Nat} {σ : Sg} (h : Room n σ) (hm : n ≤ m) : Room m σ := by
  cases σ with
  | none => exact trivial
  | some T => exact Nat.le_trans (show T.length ≤ n from h) hm
/-- The value of either kind of suite. -/
def tab (p : Option Nat) : Value := .agg #[.pointer (p.map fun b => ⟨b, 0, none⟩)]
/-- What Mix answers. -/
def MixA (σ : Sg) (x : UInt8) (ps : List (List UInt8)) (e : Ending) : Prop := e = .returned (.tuple #[.agg (u8s (mixV σ x ps)).toArray, .bool true])
theorem cv_tbl {w W : World} {ok : Nat → Prop} {tb : Nat} {T : List Trm} (h : Tbl w ok tb T) (hb : Below w.heap.size w W) : Tbl W (fun b => ok b ∧ b < w.heap.size) tb T := (h.imp fun _ hlt ho => ⟨ho, hlt⟩).below hb
theorem byt_one (w : World) (x : UInt8) : Byt (w.alloc (.cells #[.int .u8 (x.toNat : Int)] 5)) (fun b => b = w.heap.size) (some ⟨w.heap.size, 0, none⟩) [x] := byt_mark w [x] (0, 0)
end Go.Proofs.YtdnkeaokgkiloaaDoor
