/- Words as slices of four numbers, collected in a slice of the call's own. Conditions: none. The reference's words of a key. Conditions: the table of S lies as it should. The reference's cipher. Conditions: none. Ciphers, of the code and of the reference: made, locking, unlocking. Conditions: none. -/
import Derived.Test.YtkbffponemihoaaGreatDoorCg
import Derived.Deep.AppendLies
import Derived.Deep.RegionHeld3
namespace Go.Proofs.YtkbffponemihoaaGreatDoor.C
open Go.RowKit
/-- Numbers lie at the beginning of a block. -/
def T4 (w : World) (g : Nat) (ys : List Nat) : Prop := ∃ rest, Blk w g 3 (ints ys ++ rest)
section
variable {w w' : World} {g : Nat} {ys : List Nat}
theorem T4.keep (h : T4 w g ys) (hk : w'.heap[g]? = w.heap[g]?) : T4 w' g ys := by
  obtain ⟨rest, hb⟩ := h
  exact ⟨rest, hb.keep hk⟩
theorem T4.lt (h : T4 w g ys) : g < w.heap.size := by
  obtain ⟨rest, hb⟩ := h
  exact hb.lt
theorem T4.grown (h : T4 w g ys) {row : Option Nat} (hg : w.grownBy w' row) (hr : some g ≠ row) : T4 w' g ys := h.keep (hg.block g h.lt hr)
theorem T4.get (h : T4 w g ys) (r : Nat) (hr : r < ys.length) : w.cell? ⟨g, r, none⟩ = some (.int .i64 ((ys.getD r 0 : Nat) : Int)) := by
  obtain ⟨rest, hb⟩ := h
  refine hb.get r _ ?_
  rw [List.getElem?_append_left (by rw [ints_length]; exact hr)]
  exact ints_get _ _ hr
theorem T4.frozen (h : T4 w g ys) (r : Nat) : w.frozen? ⟨g, r, none⟩ = false := by
  obtain ⟨rest, hb⟩ := h
  exact hb.frozen r
theorem T4.set (h : T4 w g ys) (r n : Nat) (hr : r < ys.length) : T4 (w.setCell ⟨g, r, none⟩ (.int .i64 (n : Int))) g (ys.set r n) := by
  obtain ⟨rest, hb⟩ := h
  have h1 := hb.set r (.int .i64 (n : Int))
  rw [List.set_append_left _ _ (by rw [ints_length]; exact hr), ints_set] at h1
  exact ⟨rest, h1⟩
theorem T4.blk (h : Blk w g 3 (ints ys)) : T4 w g ys := ⟨[], by simpa using h⟩
theorem T4.own {B cap : Nat} (h : w.ownsRow B 3 1 (.slice (some ⟨g, 0, none⟩) 4 cap) 4 (ints ys)) : T4 w g ys ∧ 4 ≤ cap := by
  rcases h.2 with ⟨e, _⟩ | ⟨g', cap', cur, e, _, hg, hc, _, _, ht⟩
  · cases e
  · cases e
    refine ⟨⟨cur.toList.drop 4, ?_⟩, hc⟩
    unfold Blk
    rw [hg, ← ht]
    simp
end
/-- n numbers, the first k of them told. -/
def pl (n : Nat) (f old : Nat → Nat) (k : Nat) : List Nat := (List.range n).map fun j => if j < k then f j else old j
section
variable (n : Nat) (f old : Nat → Nat) (k : Nat)
theorem pl_length : (pl n f old k).length = n := by simp [pl]
theorem pl_get (j : Nat) (hj : j < n) : (pl n f old k).getD j 0 = if j < k then f j else old j := by
  unfold pl
  rw [List.getD_eq_getElem?_getD, List.getElem?_map, List.getElem?_range hj]
  rfl
theorem pl_set : (pl n f old k).set k (f k) = pl n f old (k + 1) := by
  apply List.ext_getElem (by simp [pl])
  intro q h1 h2
  rw [List.getElem_set]
  simp only [pl, List.getElem_map, List.getElem_range]
  by_cases e : k = q
  · subst e; simp
  · have : (q < k + 1) = (q < k) := by simp; omega
    simp [e, this]
end
/-- Words in a slice of the call's own: each in a block of the call's own, none in the slice's own block. -/
def Wps (w : World) (B : Nat) (v : Value) (ws : List (List Nat)) : Prop :=
  ∃ vals : List Value, w.ownsRow B 65 1 v ws.length vals ∧ ∀ n, n < ws.length → ∃ gt c, vals[n]? = some (.slice (some ⟨gt, 0, none⟩) 4 c) ∧ 4 ≤ c ∧ B ≤ gt ∧ gt < w.heap.size ∧ v.ownBlock ≠ some gt ∧ T4 w gt (ws.getD n [])
section
variable {w w1 w2 w3 : World} {B : Nat} {v : Value} {ws : List (List Nat)}
theorem Wps.nil (w : World) (B : Nat) : Wps w B (.slice none 0 0) [] := ⟨[], World.ownsRow_nil w B 65 1, fun _ h => absurd h (by simp)⟩
theorem Wps.grown (h : Wps w B v ws) (hg : w.grownBy w1 none) : Wps w1 B v ws := by
  obtain ⟨vals, ho, hp⟩ := h
  refine ⟨vals, ho.kept hg (by cases hv : v.ownBlock <;> simp), fun n hn => ?_⟩
  obtain ⟨gt, c, e1, e2, e3, e4, e5, e6⟩ := hp n hn
  exact ⟨gt, c, e1, e2, e3, Nat.lt_of_lt_of_le e4 hg.size, e5, e6.grown hg (by simp)⟩
theorem Wps.form (h : Wps w B v ws) (h0 : 0 < ws.length) : ∃ g cap, v = .slice (some ⟨g, 0, none⟩) ws.length cap := by
  obtain ⟨vals, ho, _⟩ := h
  obtain ⟨g, cap, e, _⟩ := ho.form h0
  exact ⟨g, cap, e⟩
theorem Wps.read {g cap : Nat} (h : Wps w B (.slice (some ⟨g, 0, none⟩) ws.length cap) ws) (n : Nat) (hn : n < ws.length) : ∃ gt c, w.cell? ⟨g, n, none⟩ = some (.slice (some ⟨gt, 0, none⟩) 4 c) ∧ 4 ≤ c ∧ B ≤ gt ∧ gt < w.heap.size ∧ T4 w gt (ws.getD n []) := by
  obtain ⟨vals, ho, hp⟩ := h
  obtain ⟨gt, c, e1, e2, e3, e4, _, e6⟩ := hp n hn
  have h1 := ho.cells (g := g) rfl n _ e1
  rw [Addr.add_lit, Nat.zero_add] at h1
  exact ⟨gt, c, h1, e2, e3, e4, e6⟩
theorem Wps.push {gt c g' cap : Nat} {y : List Nat} {vals : List Value} (h : Wps w B v ws) (hvals : w.ownsRow B 65 1 v ws.length vals) (hg : w.grownBy w1 none) (h1 : w.heap.size ≤ gt) (hB : B ≤ w.heap.size) (hc : 4 ≤ c) (hT : T4 w1 gt y)
    (hg2 : w1.grownBy w2 none) (hz2 : w2.heap.size = w1.heap.size + 1)
    (hown : w3.ownsRow B 65 1 (.slice (some ⟨g', 0, none⟩) (ws.length + 1) cap) (ws.length + 1) (vals ++ [.slice (some ⟨gt, 0, none⟩) 4 c])) (hg3 : w2.grownBy w3 v.ownBlock) (hat : v.ownBlock = some g' ∨ g' = w2.heap.size) :
    Wps w3 B (.slice (some ⟨g', 0, none⟩) (ws.length + 1) cap) (ws ++ [y]) := by
  obtain ⟨vals', ho, hp⟩ := h
  have hvv : vals' = vals := by
    rcases ho.2 with ⟨rfl, e0⟩ | ⟨g, cap, cur, rfl, _, hh, _, _, _, ht⟩
    · have l1 := ho.1
      have l2 := hvals.1
      have n1 : vals' = [] := List.eq_nil_of_length_eq_zero (by omega)
      have n2 : vals = [] := List.eq_nil_of_length_eq_zero (by omega)
      rw [n1, n2]
    · rcases hvals.2 with ⟨e, _⟩ | ⟨g', cap', cur', e, _, hh', _, _, _, ht'⟩
      · cases e
      · cases e
        rw [hh] at hh'
        injection hh' with hh'
        injection hh' with hcur
        rw [← ht, ← ht', hcur]
  subst hvv
  have hlen : vals'.length = ws.length := by have := ho.1; omega
  have hgt1 := hT.lt
  have hs3 := hg3.size
  have hs1 := hg.size
  have hlt := ho.lt
  refine ⟨vals' ++ [.slice (some ⟨gt, 0, none⟩) 4 c], by simpa using hown, fun n hn => ?_⟩
  by_cases e : n < ws.length
  · obtain ⟨gn, cn, e1, e2, e3, e4, e5, e6⟩ := hp n e
    refine ⟨gn, cn, by rw [List.getElem?_append_left (by omega)]; exact e1, e2, e3, by omega, fun e7 => ?_, ?_⟩
    · have e8 : g' = gn := by injection e7
      rcases hat with h | h
      · exact e5 (by rw [h, e8])
      · omega
    · rw [List.getD_eq_getElem?_getD, List.getElem?_append_left e, ← List.getD_eq_getElem?_getD]
      exact ((e6.grown hg (by simp)).grown hg2 (by simp)).grown hg3 (fun h => e5 h.symm)
  · have en : n = ws.length := by rw [List.length_append, List.length_singleton] at hn; omega
    subst en
    have hne : v.ownBlock ≠ some gt := fun h => by have := (hlt gt h).2; omega
    refine ⟨gt, c, by rw [List.getElem?_append_right (by omega), hlen, Nat.sub_self]; rfl, hc, by omega, by omega, fun e7 => ?_, ?_⟩
    · have e8 : g' = gt := by injection e7
      rcases hat with h | h
      · exact hne (by rw [h, e8])
      · omega
    · rw [List.getD_eq_getElem?_getD, List.getElem?_append_right (Nat.le_refl _), Nat.sub_self]
      exact (hT.grown hg2 (by simp)).grown hg3 (fun h => hne h.symm)
end
theorem run_words (w : World) (v0 v1 v2 v3 : Int) : (Instr.buildSlice 65 4 #[(0, .int .i64 v0), (1, .int .i64 v1), (2, .int .i64 v2), (3, .int .i64 v3)]).run Tryz.prog w = .ok (.slice (some ⟨w.heap.size, 0, none⟩) 4 4) (w.alloc (.cells #[.int .i64 v0, .int .i64 v1, .int .i64 v2, .int .i64 v3] 3)) := by kernel_rfl
theorem run_one (w : World) (A : Option Addr) (n c : Nat) : (Instr.buildSlice 66 1 #[(0, .slice A n c)]).run Tryz.prog w = .ok (.slice (some ⟨w.heap.size, 0, none⟩) 1 1) (w.alloc (.cells #[.slice A n c] 65)) := by kernel_rfl
section
variable {w : World} {ops : Array Oper} {rest : List Oper} {o : Oper} {a : Act} {Q : Exit → Act → World → Prop}
theorem wpList_words (hgd : o.guard = none) (x0 x1 x2 x3 : Operand) (ho : o.op = .buildSlice 65 4 #[(0, x0), (1, x1), (2, x2), (3, x3)]) (n0 n1 n2 n3 : Nat)
    (h0 : a.eval x0 = .int .i64 (n0 : Int)) (h1 : a.eval x1 = .int .i64 (n1 : Int)) (h2 : a.eval x2 = .int .i64 (n2 : Int)) (h3 : a.eval x3 = .int .i64 (n3 : Int))
    (h : ∀ w', Blk w' w.heap.size 3 (ints [n0, n1, n2, n3]) → w.grownBy w' none → w'.heap.size = w.heap.size + 1 → wpList Tryz.prog ops Q rest (a.put o.dst (.slice (some ⟨w.heap.size, 0, none⟩) 4 4)) w') : wpList Tryz.prog ops Q (o :: rest) a w := by
  refine wpList_plain hgd fun K hK => ?_
  have hrun := run_words w n0 n1 n2 n3
  unfold Oper.wp
  simp only [execOp, ho, List.map_toArray, List.map_cons, List.map_nil, h0, h1, h2, h3, Sem.run_bind, hrun, Result.andThen_ok, Sem.run_pure]
  exact hK _ _ (h _ (Blk.of_alloc w _ 3) (World.grownBy_alloc w _ none) (World.size_alloc w _))
theorem wpList_one (hgd : o.guard = none) (x : Operand) (ho : o.op = .buildSlice 66 1 #[(0, x)]) (A : Option Addr) (n c : Nat) (hx : a.eval x = .slice A n c)
    (h : ∀ w', Blk w' w.heap.size 65 [.slice A n c] → w.grownBy w' none → w'.heap.size = w.heap.size + 1 → wpList Tryz.prog ops Q rest (a.put o.dst (.slice (some ⟨w.heap.size, 0, none⟩) 1 1)) w') : wpList Tryz.prog ops Q (o :: rest) a w := by
  refine wpList_plain hgd fun K hK => ?_
  have hrun := run_one w A n c
  unfold Oper.wp
  simp only [execOp, ho, List.map_toArray, List.map_cons, List.map_nil, hx, Sem.run_bind, hrun, Result.andThen_ok, Sem.run_pure]
  exact hK _ _ (h _ (Blk.of_alloc w _ 65) (World.grownBy_alloc w _ none) (World.size_alloc w _))
end
theorem Tryz.infoInts : (Tryz.prog.info? 65).map (fun i => (i.zero, i.size, i.bytes)) = some (some (.slice none 0 0), 1, 24) := by kernel_rfl
theorem ints_one (l : List Nat) : ∀ u ∈ ints l, u.oneCell' = true := by
  intro u hu
  simp only [ints, List.mem_map] at hu
  obtain ⟨_, _, rfl⟩ := hu
  rfl
open Go.RowKit
theorem nw_first (ks : List UInt8) (ws : List (List Nat)) (i : Nat) (h : i < 8) : nw (kn ks) ws i = [(ks.getD (4 * i) 0).toNat, (ks.getD (4 * i + 1) 0).toNat, (ks.getD (4 * i + 2) 0).toNat, (ks.getD (4 * i + 3) 0).toNat] := by
  unfold nw
  rw [if_pos h, kn_get, kn_get, kn_get, kn_get]
theorem size_alloc2 (w : World) (o p : Obj) : ((w.alloc o).alloc p).heap.size = w.heap.size + 1 + 1 := by simp
theorem le_alloc2 {B : Nat} {w : World} (h : B ≤ w.heap.size) (o p : Obj) : B ≤ ((w.alloc o).alloc p).heap.size := by simp; omega
theorem news_alloc2 (w : World) (o : Obj) (x : Value) (ty : TypeId) : ∀ j u, [x][j]? = some u → ((w.alloc o).alloc (.cells #[x] ty)).cell? ((⟨w.heap.size + 1, 0, none⟩ : Addr).add j) = some u := by
  have h := World.news_of_block (heap_alloc_new (w.alloc o) (.cells #[x] ty))
  rw [World.size_alloc] at h
  exact h
theorem cell_alloc2 {w : World} {a : Addr} {v : Value} (h : w.cell? a = some v) (o p : Obj) : ((w.alloc o).alloc p).cell? a = some v :=
  (World.grownBy_alloc _ p none).cell ((World.grownBy_alloc w o none).cell h (by simp)) (by simp)
theorem grown_alloc2 (w : World) (o p : Obj) : w.grownBy ((w.alloc o).alloc p) none := World.grownBy.trans (World.grownBy_alloc w o none) (World.grownBy_alloc _ p none)
theorem Wps.weak {w : World} {B B' : Nat} {v : Value} {ws : List (List Nat)} (h : Wps w B' v ws) (hB : B ≤ B') : Wps w B v ws := by
  obtain ⟨vals, ho, hp⟩ := h
  refine ⟨vals, ⟨ho.1, ?_⟩, fun n hn => ?_⟩
  · rcases ho.2 with h | ⟨g, cap, cur, e, h1, h2⟩
    · exact .inl h
    · exact .inr ⟨g, cap, cur, e, Nat.le_trans hB h1, h2⟩
  · obtain ⟨gt, c, e1, e2, e3, e4⟩ := hp n hn
    exact ⟨gt, c, e1, e2, Nat.le_trans hB e3, e4⟩
theorem T4.news {w : World} {g : Nat} {ys : List Nat} (h : T4 w g ys) : ∀ j u, (ints ys)[j]? = some u → w.cell? ((⟨g, 0, none⟩ : Addr).add j) = some u := fun j u hu => by
  have hj : j < ys.length := by
    rw [← ints_length ys]
    exact (List.getElem?_eq_some_iff.1 hu).1
  rw [Addr.add_lit, Nat.zero_add, h.get j hj]
  rw [ints_get ys j hj] at hu
  exact hu
theorem four_list (l : List Nat) (h : l.length = 4) : l = [l.getD 0 0, l.getD 1 0, l.getD 2 0, l.getD 3 0] := by
  obtain ⟨a, l1, rfl⟩ := List.exists_cons_of_length_pos (l := l) (by omega)
  obtain ⟨b, l2, rfl⟩ := List.exists_cons_of_length_pos (l := l1) (by simp only [List.length_cons] at h; omega)
  obtain ⟨c, l3, rfl⟩ := List.exists_cons_of_length_pos (l := l2) (by simp only [List.length_cons] at h; omega)
  obtain ⟨d, l4, rfl⟩ := List.exists_cons_of_length_pos (l := l3) (by simp only [List.length_cons] at h; omega)
  obtain rfl : l4 = [] := List.eq_nil_of_length_eq_zero (by simp only [List.length_cons] at h; omega)
  rfl
theorem word_list (ks : List UInt8) (i n : Nat) (h : n < i) : (kws (kn ks) i).getD n [] = [wb (kws (kn ks) i) n 0, wb (kws (kn ks) i) n 1, wb (kws (kn ks) i) n 2, wb (kws (kn ks) i) n 3] :=
  four_list _ (by rw [kws_get _ _ _ h]; exact nw_length _ _ _)
theorem stab_get (x : Nat) (h : x < 256) : stab.getD x 0 = sbox x := by
  unfold stab
  rw [List.getD_eq_getElem?_getD, List.getElem?_map, List.getElem?_range h]
  rfl
theorem stab_length : stab.length = 256 := by simp [stab]
theorem nw_late (ks : List UInt8) (i : Nat) (h : 8 ≤ i) : nw (kn ks) (kws (kn ks) i) i = pl 4 (fun r => tw (kws (kn ks) i) i r ^^^ wb (kws (kn ks) i) (i - 8) r) (tw (kws (kn ks) i) i) 4 := by
  unfold nw
  rw [if_neg (by omega)]
  rfl
theorem pl_old (f old : Nat → Nat) : pl 4 f old 0 = [old 0, old 1, old 2, old 3] := rfl
theorem one_slice (A : Option Addr) (n c : Nat) : ∀ u ∈ [Value.slice A n c], u.oneCell' = true := by
  intro u hu
  obtain rfl : u = .slice A n c := by simpa using hu
  rfl
set_option maxRecDepth 100000 in
set_option maxHeartbeats 3200000 in
theorem refkeys_any {W : World} {gs : Nat} (hS : Blk W gs 3 (ints stab)) (k : Fin 32 → UInt8) :
    Calls Tryz.prog 57 #[.slice (some ⟨gs, 0, none⟩) 256 256, .agg (u8s (k32 k)).toArray] W fun e w' => ∃ v, e = .returned v ∧ Wps w' W.heap.size v (kws (kn (k32 k)) 60) ∧ W.grownBy w' none := by
  obtain ⟨ks, hks⟩ : ∃ ks, ks = k32 k := ⟨_, rfl⟩
  rw [← hks]
  have hkl : ks.length = 32 := by rw [hks, k32_length]
  have HKS := Lib.hid hks
  have HKL := Lib.hid hkl
  have HS := Lib.hid hS
  clear hS hks hkl
  go_enter Tryz.func57, Tryz.ntmps57
  go_wp2_with (refine wpList_box22 rfl _ k rfl (by rw [← HKS.out]; rfl) ?_)
  intro w2 hb2 hg2 hz2
  obtain ⟨gk, hgk⟩ : ∃ g, g = W.heap.size := ⟨_, rfl⟩
  obtain ⟨B, hB⟩ : ∃ B, B = w2.heap.size := ⟨_, rfl⟩
  rw [← hgk, ← HKS.out] at hb2
  rw [← hgk]
  have HK2 := Lib.hid hb2
  have HG2 := Lib.hid hg2
  have HB2 := Lib.hid (show B ≤ w2.heap.size by omega)
  have HBE := Lib.hid (show w2.heap.size ≤ B by omega)
  have HWB := Lib.hid (show W.heap.size ≤ B by omega)
  have HKB := Lib.hid (show gk < B by omega)
  clear hb2 hg2 hz2 hgk hB
  go_wp2_with (fail)
  go_loopw [5, 6, 7] (fun v p x wr => ∃ i : Nat, i ≤ 60 ∧ x = .int .i64 (i : Int) ∧ p = .int .i64 ((pw ((i - 1) / 8) : Nat) : Int) ∧ Wps wr B v (kws (kn ks) i) ∧ w2.grownBy wr none) (fun _ _ x _ => 60 - (intOf x).toNat)
  case atStart => exact ⟨0, by omega, rfl, rfl, Wps.nil _ _, World.grownBy.refl _ _⟩
  case round =>
    obtain ⟨i, hi, rfl, rfl, hw, hg⟩ := hrel
    have HK := Lib.hid (HK2.out.grown hg (by simp))
    have HSR := Lib.hid ((HS.out.grown HG2.out (by simp)).grown hg (by simp))
    have HBR := Lib.hid (Nat.le_trans HB2.out hg.size)
    have HW := Lib.hid hw
    have HG := Lib.hid hg
    have HI := Lib.hid hi
    clear hw hg
    by_cases hlt : i < 60
    · by_cases h8 : i < 8
      · have e0 : pw ((i - 1) / 8) = 1 := by rw [show (i - 1) / 8 = 0 by omega]; rfl
        have e1 : pw ((i + 1 - 1) / 8) = 1 := by rw [show (i + 1 - 1) / 8 = 0 by omega]; rfl
        rw [e0]
        obtain ⟨q0, h0⟩ : ∃ q, q = 4 * i := ⟨_, rfl⟩
        obtain ⟨q1, h1⟩ : ∃ q, q = 4 * i + 1 := ⟨_, rfl⟩
        obtain ⟨q2, h2⟩ : ∃ q, q = 4 * i + 2 := ⟨_, rfl⟩
        obtain ⟨q3, h3⟩ : ∃ q, q = 4 * i + 3 := ⟨_, rfl⟩
        have hnw := nw_first ks (kws (kn ks) i) i h8
        rw [← h3, ← h2, ← h1, ← h0] at hnw
        have c0 := HK.out.get q0 _ (u8s_at ks q0 (by rw [HKL.out]; omega))
        have c1 := HK.out.get q1 _ (u8s_at ks q1 (by rw [HKL.out]; omega))
        have c2 := HK.out.get q2 _ (u8s_at ks q2 (by rw [HKL.out]; omega))
        have c3 := HK.out.get q3 _ (u8s_at ks q3 (by rw [HKL.out]; omega))
        have l0 := (ks.getD q0 0).toNat_lt
        have l1 := (ks.getD q1 0).toNat_lt
        have l2 := (ks.getD q2 0).toNat_lt
        have l3 := (ks.getD q3 0).toNat_lt
        generalize (ks.getD q0 0).toNat = n0 at c0 l0 hnw
        generalize (ks.getD q1 0).toNat = n1 at c1 l1 hnw
        generalize (ks.getD q2 0).toNat = n2 at c2 l2 hnw
        generalize (ks.getD q3 0).toNat = n3 at c3 l3 hnw
        have HNW := Lib.hid hnw
        have b0 : (q0 : Int) < 32 := by omega
        have b1 : (q1 : Int) < 32 := by omega
        have b2 : (q2 : Int) < 32 := by omega
        have b3 : (q3 : Int) < 32 := by omega
        have f0 : 4 * (i : Int) = (q0 : Int) := by omega
        have f1 : (q0 : Int) + 1 = (q1 : Int) := by omega
        have f2 : (q0 : Int) + 2 = (q2 : Int) := by omega
        have f3 : (q0 : Int) + 3 = (q3 : Int) := by omega
        have g0 := i64_keep q0 (by omega)
        have g1 := i64_keep q1 (by omega)
        have g2 := i64_keep q2 (by omega)
        have g3 := i64_keep q3 (by omega)
        have m0 := i64_keep n0 (by omega)
        have m1 := i64_keep n1 (by omega)
        have m2 := i64_keep n2 (by omega)
        have m3 := i64_keep n3 (by omega)
        clear h0 h1 h2 h3 l0 l1 l2 l3 hnw e0
        obtain ⟨vals, hvals, _⟩ := HW.out
        have hlen := kws_length (kn ks) i
        rw [hlen] at hvals
        have HV := Lib.hid hvals
        obtain ⟨i0, hi0, hz0, hz1, hz2⟩ := info_parts Tryz.infoInts
        have k1 : i + 1 ≤ maxLen := by unfold maxLen; omega
        have k2 : (i + 1) * 24 ≤ 140737488355328 := by omega
        clear hvals
        have hne : some gk ≠ u5.ownBlock := fun h => by have h1 := (HV.out.lt gk h.symm).1; have h2 := HKB.out; omega
        have HNE := Lib.hid hne
        have HBD : Hid (B ≤ wr.drew.heap.size) := HBR
        clear hne
        go_wp2_with (fail)
        go_region_held3 (fun w' => w'.cell? ⟨gk, q0, none⟩ = some (.int .u8 (n0 : Int)) ∧ w'.cell? ⟨gk, q1, none⟩ = some (.int .u8 (n1 : Int)) ∧ w'.cell? ⟨gk, q2, none⟩ = some (.int .u8 (n2 : Int)) ∧ w'.cell? ⟨gk, q3, none⟩ = some (.int .u8 (n3 : Int)))
          (first
            | exact ⟨c0, c1, c2, c3⟩
            | exact ⟨hg5.cell (cell_alloc2 c0 _ _) HNE.out, hg5.cell (cell_alloc2 c1 _ _) HNE.out, hg5.cell (cell_alloc2 c2 _ _) HNE.out, hg5.cell (cell_alloc2 c3 _ _) HNE.out⟩
            | go_keep)
          (first
            | (refine step_append_lies _ rfl _ _ _ rfl B 65 i0 _ 1 24 Tryz.underlying66 hi0 hz0 hz1 hz2 rfl Nat.one_pos u5 i vals rfl ((HV.out.alloc _).alloc _) ⟨wr.heap.size + 1, 0, none⟩ 1 1 [.slice (some ⟨wr.heap.size, 0, none⟩) 4 4] rfl rfl (news_alloc2 wr.drew _ _ _) (one_slice _ _ _) Nat.one_pos k1 k2 (le_alloc2 HBR.out _ _) (wr.heap.size + 1 + 1) (size_alloc2 _ _ _) ?_
               intro g' cap w5 hown hg5 hat hlt5)
            | fail)
        have hpush := Wps.push (v := u5) (ws := kws (kn ks) i) (y := [n0, n1, n2, n3]) (gt := wr.heap.size) (c := 4) HW.out (by rw [hlen]; exact HV.out) (World.grownBy_alloc wr (.cells #[.int .i64 (n0 : Int), .int .i64 (n1 : Int), .int .i64 (n2 : Int), .int .i64 (n3 : Int)] 3) none) (Nat.le_refl _) HBR.out (Nat.le_refl _) (T4.blk (Blk.of_alloc wr _ 3)) (grown_drew (World.grownBy_alloc _ (.cells #[.slice (some ⟨wr.heap.size, 0, none⟩) 4 4] 65) none)) (World.size_alloc _ _) (by rw [hlen]; exact hown) hg5 (hat.imp id fun h => h.trans (size_alloc2 _ _ _).symm)
        rw [hlen, ← HNW.out] at hpush
        have hg5' : w2.grownBy w5 none := World.grownBy.andThen (World.grownBy.trans HG.out (grown_drew (grown_alloc2 wr _ _))) hg5 (fun j hj => .inl (Nat.le_trans HBE.out (HV.out.lt j hj).1))
        have HP := Lib.hid hpush
        have HG5 := Lib.hid hg5'
        clear hown hg5 hat hlt5 hpush hg5' b0 b1 b2 b3 f0 f1 f2 f3 g0 g1 g2 g3 m0 m1 m2 m3 c0 c1 c2 c3
        go_wp2
        go_roundw
        case rel => exact ⟨i + 1, by omega, by go_num, by rw [e1]; rfl, HP.out, HG5.out⟩
        case measure => simp [intOf]; omega
      · have hlen := kws_length (kn ks) i
        obtain ⟨gw, cw, hu⟩ := HW.out.form (by rw [hlen]; omega)
        rw [hlen] at hu
        subst hu
        have hwl : Wps wr B (.slice (some ⟨gw, 0, none⟩) (kws (kn ks) i).length cw) (kws (kn ks) i) := by rw [hlen]; exact HW.out
        obtain ⟨g1, cc1, r1, r2, r3, r4, r5⟩ := hwl.read (i - 1) (by rw [hlen]; omega)
        obtain ⟨g8, cc8, s1, s2, s3, s4, s5⟩ := hwl.read (i - 8) (by rw [hlen]; omega)
        rw [word_list ks i (i - 1) (by omega)] at r5
        obtain ⟨vals, hvals, _⟩ := HW.out
        rw [hlen] at hvals
        have HV := Lib.hid hvals
        have hx : ∀ r, wb (kws (kn ks) i) (i - 1) r < 256 := kws_lt _ (kn_lt ks) i hi (i - 1)
        have ho : ∀ r, wb (kws (kn ks) i) (i - 8) r < 256 := kws_lt _ (kn_lt ks) i hi (i - 8)
        have hl0 := hx 0
        have hl1 := hx 1
        have hl2 := hx 2
        have hl3 := hx 3
        have HO8 := Lib.hid ho
        have htw := fun r (hr : r < 4) => (kt_tw ks i r (by omega) hlt hr).2
        have HTW := Lib.hid htw
        obtain ⟨x0, hx0⟩ : ∃ x, x = wb (kws (kn ks) i) (i - 1) 0 := ⟨_, rfl⟩
        obtain ⟨x1, hx1⟩ : ∃ x, x = wb (kws (kn ks) i) (i - 1) 1 := ⟨_, rfl⟩
        obtain ⟨x2, hx2⟩ : ∃ x, x = wb (kws (kn ks) i) (i - 1) 2 := ⟨_, rfl⟩
        obtain ⟨x3, hx3⟩ : ∃ x, x = wb (kws (kn ks) i) (i - 1) 3 := ⟨_, rfl⟩
        rw [← hx0, ← hx1, ← hx2, ← hx3] at r5
        rw [← hx0] at hl0
        rw [← hx1] at hl1
        rw [← hx2] at hl2
        rw [← hx3] at hl3
        have HR5 := Lib.hid r5
        have HS1 := Lib.hid s1
        have HS5 := Lib.hid s5
        have HG8 := Lib.hid s4
        have HLEN := Lib.hid hlen
        obtain ⟨p1, hp1⟩ : ∃ p, p = i - 1 := ⟨_, rfl⟩
        have d1 : (i : Int) - 1 = (p1 : Int) := by omega
        have d2 := i64_keep p1 (by omega)
        have d3 : (p1 : Int) < (i : Int) := by omega
        rw [← hp1] at r1
        obtain ⟨q, hq⟩ : ∃ q, q = (i - 1) / 8 := ⟨_, rfl⟩
        have hq8 : q < 8 := by omega
        rw [← hq]
        have HQ := Lib.hid hq
        have HX0 := Lib.hid hx0
        have HX1 := Lib.hid hx1
        have HX2 := Lib.hid hx2
        have HX3 := Lib.hid hx3
        have hT0 : ∀ k, tw (kws (kn ks) i) i k = if i % 8 = 0 then (if k = 0 then sbox x1 ^^^ pw (i / 8 - 1) else sbox (wb (kws (kn ks) i) (i - 1) ((k + 1) % 4))) else if i % 8 = 4 then sbox (wb (kws (kn ks) i) (i - 1) k) else wb (kws (kn ks) i) (i - 1) k := fun k => by rw [hx1]; rfl
        have HT0 := Lib.hid hT0
        obtain ⟨i3, hi3, hy0, hy1, hy2⟩ := info_parts Tryz.info3
        have k0 : 0 + 4 ≤ maxLen := by unfold maxLen; omega
        have k00 : (0 + 4) * 8 ≤ 140737488355328 := by omega
        have H8 := Lib.hid (show 8 ≤ i by omega)
        have HLT := Lib.hid hlt
        have b8 : ¬ ((i : Int) < 8) := by omega
        obtain ⟨w0, hw0⟩ : ∃ w0, w0 = wr := ⟨_, rfl⟩
        have HW0 := Lib.hid hw0
        clear hw0
        clear hwl hvals hx ho htw r2 r3 r4 r5 s1 s2 s3 s4 s5 hlen hx0 hx1 hx2 hx3 hT0 hp1 hq
        rcases (show i % 8 = 0 ∨ i % 8 = 4 ∨ (i % 8 ≠ 0 ∧ i % 8 ≠ 4) by omega) with hr | hr | ⟨hr, hr4⟩
        · have b0 : ((i : Int) % 8 == 0) = true := by rw [beq_iff_eq]; omega
          have b4 : ((i : Int) % 8 == 4) = false := by rw [beq_eq_false_iff_ne]; omega
          go_wp2_with (at_builtin; refine wpList_append_lies _ rfl _ _ _ rfl wr.heap.size 3 i3 _ 1 8 Tryz.underlying65 hi3 hy0 hy1 hy2 rfl Nat.one_pos (.slice none 0 0) 0 [] rfl (World.ownsRow_nil wr wr.heap.size 3 1) ⟨g1, 0, none⟩ 4 cc1 (ints [x0, x1, x2, x3]) rfl rfl (T4.news HR5.out) (ints_one _) (by omega) k0 k00 (Nat.le_refl _) wr.heap.size rfl ?_; intro gt c w3 hown hg3 hat hlt3; have hT := T4.own (B := wr.heap.size) hown; have HT := Lib.hid hT.1; have HC := Lib.hid hT.2; have HG3 : Hid (wr.grownBy w3 none) := Lib.hid hg3; have HGT : Hid (wr.heap.size ≤ gt) := (by rcases hat with h | h; exact absurd h (by simp [Value.ownBlock]); exact Lib.hid (Nat.le_of_eq h.symm)); clear hown hg3 hat hlt3 hT)
          have S0 : w3.cell? ⟨gs, x0, none⟩ = some (.int .i64 ((sbox x0 : Nat) : Int)) := by
            have h := (HSR.out.grown HG3.out (by simp)).get x0 _ (ints_get stab x0 (by rw [stab_length]; exact hl0))
            rw [stab_get x0 hl0] at h
            exact h
          have L0 : (x0 : Int) < 256 := by omega
          have V0 := HT.out.get 0 (by simp)
          change w3.cell? ⟨gt, 0, none⟩ = some (.int .i64 (x0 : Int)) at V0
          have S1 : w3.cell? ⟨gs, x1, none⟩ = some (.int .i64 ((sbox x1 : Nat) : Int)) := by
            have h := (HSR.out.grown HG3.out (by simp)).get x1 _ (ints_get stab x1 (by rw [stab_length]; exact hl1))
            rw [stab_get x1 hl1] at h
            exact h
          have L1 : (x1 : Int) < 256 := by omega
          have V1 := HT.out.get 1 (by simp)
          change w3.cell? ⟨gt, 1, none⟩ = some (.int .i64 (x1 : Int)) at V1
          have S2 : w3.cell? ⟨gs, x2, none⟩ = some (.int .i64 ((sbox x2 : Nat) : Int)) := by
            have h := (HSR.out.grown HG3.out (by simp)).get x2 _ (ints_get stab x2 (by rw [stab_length]; exact hl2))
            rw [stab_get x2 hl2] at h
            exact h
          have L2 : (x2 : Int) < 256 := by omega
          have V2 := HT.out.get 2 (by simp)
          change w3.cell? ⟨gt, 2, none⟩ = some (.int .i64 (x2 : Int)) at V2
          have S3 : w3.cell? ⟨gs, x3, none⟩ = some (.int .i64 ((sbox x3 : Nat) : Int)) := by
            have h := (HSR.out.grown HG3.out (by simp)).get x3 _ (ints_get stab x3 (by rw [stab_length]; exact hl3))
            rw [stab_get x3 hl3] at h
            exact h
          have L3 : (x3 : Int) < 256 := by omega
          have V3 := HT.out.get 3 (by simp)
          change w3.cell? ⟨gt, 3, none⟩ = some (.int .i64 (x3 : Int)) at V3
          obtain ⟨y0, hy0'⟩ : ∃ y, y = sbox x1 ^^^ pw q := ⟨_, rfl⟩
          obtain ⟨y1, hy1'⟩ : ∃ y, y = sbox x2 := ⟨_, rfl⟩
          obtain ⟨y2, hy2'⟩ : ∃ y, y = sbox x3 := ⟨_, rfl⟩
          obtain ⟨y3, hy3'⟩ : ∃ y, y = sbox x0 := ⟨_, rfl⟩
          have hxor := xor_small (sbox x1) (pw q) (sbox_lt x1 hl1) (pw_lt q hq8)
          rw [← hy0'] at hxor
          rw [← hy1'] at S2
          rw [← hy2'] at S3
          rw [← hy3'] at S0
          have HY : Hid (y0 = tw (kws (kn ks) i) i 0 ∧ y1 = tw (kws (kn ks) i) i 1 ∧ y2 = tw (kws (kn ks) i) i 2 ∧ y3 = tw (kws (kn ks) i) i 3) := Lib.hid (by
            have hq' : i / 8 - 1 = q := by rw [HQ.out]; omega
            rw [HT0.out 0, HT0.out 1, HT0.out 2, HT0.out 3]
            simp only [if_pos hr, hq']
            exact ⟨hy0', by rw [hy1', HX2.out]; rfl, by rw [hy2', HX3.out]; rfl, by rw [hy3', HX0.out]; rfl⟩)
          have HPN : Hid (pw ((i + 1 - 1) / 8) = pw (q + 1)) := Lib.hid (by rw [HQ.out]; congr 1; have := H8.out; omega)
          have HTM : Hid (∀ V, Calls Tryz.prog 58 #[.int .i64 ((pw q : Nat) : Int), .int .i64 2] V fun e w' => e = .returned (.int .i64 ((pw (q + 1) : Nat) : Int)) ∧ w' = V) := Lib.hid (fun V => times_any (pw q) 2 (pw_lt q hq8) (by decide) V)
          generalize sbox x1 = z1 at S1 hxor
          clear hy0' hy1' hy2' hy3' HT0 hr
          go_wp2_with (fail)
          refine wp_region_still_tail 26 (by kernel_rfl) (by kernel_rfl) ?_
          change wpStill _ _ w3.drew (fun a' => wpList _ _ _ _ a' w3.drew) _ _
          simp only [List.take_succ_cons, List.take_zero, List.drop_succ_cons, List.drop_zero]
          repeat still_step
          refine wpStill_nil ?_
          clear S0 S1 S2 S3 L0 L1 L2 L3 V0 V1 V2 V3 hxor
          refine wpList_words rfl _ _ _ _ rfl y0 y1 y2 y3 rfl rfl rfl rfl ?_
          intro w4 hb4 hg4 hz4
          obtain ⟨gu, hgu⟩ : ∃ g, g = w3.drew.heap.size := ⟨_, rfl⟩
          rw [← hgu] at hb4 ⊢
          have HTT := Lib.hid (T4.blk hb4)
          have HGA : Hid (wr.grownBy w4 none) := Lib.hid (World.grownBy.trans (grown_drew HG3.out) hg4)
          have HGE : Hid (wr.heap.size ≤ gu) := Lib.hid (by rw [hgu]; exact HG3.out.size)
          have HC4 : Hid (4 ≤ 4) := Lib.hid (Nat.le_refl 4)
          clear hb4 hg4 hz4 hgu HT HG3 HGT HC
          go_wp2_with (go_at_call 58; with_reducible refine (HTM.out _).mono ?_; rintro _ V ⟨rfl, hV⟩; rw [hV]; clear hV)
          clear HTM b0 b4
          go_loopw [9] (fun v wx => ∃ j : Nat, j ≤ 4 ∧ v = .int .i64 (j : Int) ∧ T4 wx gu (pl 4 (fun r => tw (kws (kn ks) i) i r ^^^ wb (kws (kn ks) i) (i - 8) r) (tw (kws (kn ks) i) i) j) ∧ w0.grownBy wx none) (fun v _ => 4 - (intOf v).toNat)
          case atStart => exact ⟨0, by omega, rfl, by rw [pl_old, ← HY.out.1, ← HY.out.2.1, ← HY.out.2.2.1, ← HY.out.2.2.2]; exact HTT.out, by rw [HW0.out]; exact HGA.out⟩
          case round =>
            clear HTT HGA
            obtain ⟨j, hj, rfl, hT, hg⟩ := hrel
            by_cases hj4 : j < 4
            · have e0 := hT.get j (by rw [pl_length]; exact hj4)
              rw [pl_get _ _ _ _ j hj4, if_neg (Nat.lt_irrefl j)] at e0
              have hf := hT.frozen j
              have h5 := HS5.out
              have h8' := H8.out
              rw [word_list ks i (i - 8) (by omega)] at h5
              have e1 : wr.cell? ⟨g8, j, none⟩ = some (.int .i64 ((wb (kws (kn ks) i) (i - 8) j : Nat) : Int)) := by
                have h := h5.get j hj4
                have hw0 := HW0.out
                have h' := hg.cell (a := ⟨g8, j, none⟩) (by rw [hw0]; exact h) (by simp)
                rw [h']
                obtain rfl | rfl | rfl | rfl : j = 0 ∨ j = 1 ∨ j = 2 ∨ j = 3 := by omega
                all_goals rfl
              have e2 := hg.cell (by rw [HW0.out]; exact HS1.out) (by simp)
              obtain ⟨p8, hp8⟩ : ∃ p, p = i - 8 := ⟨_, rfl⟩
              rw [← hp8] at e2
              have d4 : (i : Int) - 8 = (p8 : Int) := by omega
              have d5 := i64_keep p8 (by omega)
              have d6 : (p8 : Int) < (i : Int) := by omega
              have d7 : (j : Int) < 4 := by omega
              have hx := xor_small _ _ (HTW.out j hj4) (HO8.out j)
              have hset := hT.set j (tw (kws (kn ks) i) i j ^^^ wb (kws (kn ks) i) (i - 8) j) (by rw [pl_length]; exact hj4)
              rw [pl_set 4 (fun r => tw (kws (kn ks) i) i r ^^^ wb (kws (kn ks) i) (i - 8) r) (tw (kws (kn ks) i) i) j] at hset
              obtain ⟨z, hz⟩ : ∃ z, z = tw (kws (kn ks) i) i j ^^^ wb (kws (kn ks) i) (i - 8) j := ⟨_, rfl⟩
              rw [← hz] at hx hset
              have HSET := Lib.hid hset
              have HGG := Lib.hid hg
              clear hset hz hg hT h5 h8' hp8
              generalize tw (kws (kn ks) i) i j = t at e0 hx
              generalize wb (kws (kn ks) i) (i - 8) j = o at e1 hx
              go_wp2_with (fail)
              refine wp_region_still_tail 16 (by kernel_rfl) (by kernel_rfl) ?_
              change wpStill _ _ wr.drew (fun a' => wpList _ _ _ _ a' wr.drew) _ _
              simp only [List.take_succ_cons, List.take_zero, List.drop_succ_cons, List.drop_zero]
              repeat still_step
              refine wpStill_nil ?_
              go_wp2
              go_roundw
              case rel => exact ⟨j + 1, by omega, by go_num, HSET.out.keep rfl, World.grownBy.andThen (grown_drew HGG.out) (grown_set _ _ _ _) (by rintro _ ⟨⟩; rw [HW0.out]; exact .inl HGE.out)⟩
              case measure => simp [intOf]; omega
            · have ej : j = 4 := by omega
              subst ej
              have hw0 := HW0.out
              rw [← nw_late ks i H8.out] at hT
              have HTF := Lib.hid hT
              have HGF : Hid (w0.grownBy wr none) := Lib.hid hg
              have HW' : Hid (Wps w0 B (.slice (some ⟨gw, 0, none⟩) i cw) (kws (kn ks) i)) := Lib.hid (by rw [hw0]; exact HW.out)
              have HV' : Hid (w0.ownsRow B 65 1 (.slice (some ⟨gw, 0, none⟩) i cw) i vals) := Lib.hid (by rw [hw0]; exact HV.out)
              have HGE' : Hid (w0.heap.size ≤ gu) := Lib.hid (by rw [hw0]; exact HGE.out)
              have HBR' : Hid (B ≤ w0.heap.size) := Lib.hid (by rw [hw0]; exact HBR.out)
              have HG' : Hid (w2.grownBy w0 none) := Lib.hid (by rw [hw0]; exact HG.out)
              obtain ⟨i0, hi0, hz0, hz1, hz2⟩ := info_parts Tryz.infoInts
              have hlt' := HLT.out
              have k1 : i + 1 ≤ maxLen := by unfold maxLen; omega
              have k2 : (i + 1) * 24 ≤ 140737488355328 := by omega
              clear hT hg hj4 hj hlt' hw0
              go_wp2_with (first
                | (refine wpList_one rfl _ rfl (some ⟨gu, 0, none⟩) 4 4 rfl ?_
                   intro w5 hb5 hg5 hz5
                   obtain ⟨go, hgo⟩ : ∃ g, g = wr.heap.size := ⟨_, rfl⟩
                   rw [← hgo] at hb5 ⊢
                   have HB5 := Lib.hid hb5
                   have HG5 := Lib.hid hg5
                   have HZ5 := Lib.hid hz5
                   clear hb5 hg5 hz5 hgo)
                | (at_builtin
                   refine wpList_append_lies _ rfl _ _ _ rfl B 65 i0 _ 1 24 Tryz.underlying66 hi0 hz0 hz1 hz2 rfl Nat.one_pos (.slice (some ⟨gw, 0, none⟩) i cw) i vals rfl (HV'.out.kept (World.grownBy.trans HGF.out HG5.out) (.inr (by simp [Value.ownBlock]))) ⟨go, 0, none⟩ 1 1 [.slice (some ⟨gu, 0, none⟩) 4 4] rfl rfl (World.news_of_block HB5.out) (one_slice _ _ _) Nat.one_pos k1 k2 (Nat.le_trans HBR'.out (World.grownBy.trans HGF.out HG5.out).size) w5.heap.size rfl ?_
                   intro g' cap w6 hown hg6 hat hlt6
                   have hpush := Wps.push (v := .slice (some ⟨gw, 0, none⟩) i cw) (ws := kws (kn ks) i) (y := nw (kn ks) (kws (kn ks) i) i) (gt := gu) (c := 4) HW'.out (by rw [HLEN.out]; exact HV'.out) HGF.out HGE'.out HBR'.out HC4.out HTF.out HG5.out HZ5.out (by rw [HLEN.out]; exact hown) hg6 hat
                   rw [HLEN.out] at hpush
                   have HP := Lib.hid hpush
                   have HG6 : Hid (w2.grownBy w6 none) := Lib.hid (World.grownBy.andThen (World.grownBy.trans HG'.out (World.grownBy.trans HGF.out HG5.out)) hg6 (fun j hj => .inl (Nat.le_trans HBE.out (HV'.out.lt j hj).1)))
                   clear hown hg6 hat hlt6 hpush))
              go_roundw
              case rel => exact ⟨i + 1, by have := HLT.out; omega, by go_num, by rw [HPN.out], HP.out, HG6.out⟩
              case measure => have := HLT.out; simp [intOf]; omega
        · have b0 : ((i : Int) % 8 == 0) = false := by rw [beq_eq_false_iff_ne]; omega
          have b4 : ((i : Int) % 8 == 4) = true := by rw [beq_iff_eq]; omega
          go_wp2_with (at_builtin; refine wpList_append_lies _ rfl _ _ _ rfl wr.heap.size 3 i3 _ 1 8 Tryz.underlying65 hi3 hy0 hy1 hy2 rfl Nat.one_pos (.slice none 0 0) 0 [] rfl (World.ownsRow_nil wr wr.heap.size 3 1) ⟨g1, 0, none⟩ 4 cc1 (ints [x0, x1, x2, x3]) rfl rfl (T4.news HR5.out) (ints_one _) (by omega) k0 k00 (Nat.le_refl _) wr.heap.size rfl ?_; intro gt c w3 hown hg3 hat hlt3; have hT := T4.own (B := wr.heap.size) hown; have HT := Lib.hid hT.1; have HC := Lib.hid hT.2; have HG3 : Hid (wr.grownBy w3 none) := Lib.hid hg3; have HGT : Hid (wr.heap.size ≤ gt) := (by rcases hat with h | h; exact absurd h (by simp [Value.ownBlock]); exact Lib.hid (Nat.le_of_eq h.symm)); clear hown hg3 hat hlt3 hT)
          have S0 : w3.cell? ⟨gs, x0, none⟩ = some (.int .i64 ((sbox x0 : Nat) : Int)) := by
            have h := (HSR.out.grown HG3.out (by simp)).get x0 _ (ints_get stab x0 (by rw [stab_length]; exact hl0))
            rw [stab_get x0 hl0] at h
            exact h
          have L0 : (x0 : Int) < 256 := by omega
          have V0 := HT.out.get 0 (by simp)
          change w3.cell? ⟨gt, 0, none⟩ = some (.int .i64 (x0 : Int)) at V0
          have S1 : w3.cell? ⟨gs, x1, none⟩ = some (.int .i64 ((sbox x1 : Nat) : Int)) := by
            have h := (HSR.out.grown HG3.out (by simp)).get x1 _ (ints_get stab x1 (by rw [stab_length]; exact hl1))
            rw [stab_get x1 hl1] at h
            exact h
          have L1 : (x1 : Int) < 256 := by omega
          have V1 := HT.out.get 1 (by simp)
          change w3.cell? ⟨gt, 1, none⟩ = some (.int .i64 (x1 : Int)) at V1
          have S2 : w3.cell? ⟨gs, x2, none⟩ = some (.int .i64 ((sbox x2 : Nat) : Int)) := by
            have h := (HSR.out.grown HG3.out (by simp)).get x2 _ (ints_get stab x2 (by rw [stab_length]; exact hl2))
            rw [stab_get x2 hl2] at h
            exact h
          have L2 : (x2 : Int) < 256 := by omega
          have V2 := HT.out.get 2 (by simp)
          change w3.cell? ⟨gt, 2, none⟩ = some (.int .i64 (x2 : Int)) at V2
          have S3 : w3.cell? ⟨gs, x3, none⟩ = some (.int .i64 ((sbox x3 : Nat) : Int)) := by
            have h := (HSR.out.grown HG3.out (by simp)).get x3 _ (ints_get stab x3 (by rw [stab_length]; exact hl3))
            rw [stab_get x3 hl3] at h
            exact h
          have L3 : (x3 : Int) < 256 := by omega
          have V3 := HT.out.get 3 (by simp)
          change w3.cell? ⟨gt, 3, none⟩ = some (.int .i64 (x3 : Int)) at V3
          obtain ⟨y0, hy0'⟩ : ∃ y, y = sbox x0 := ⟨_, rfl⟩
          obtain ⟨y1, hy1'⟩ : ∃ y, y = sbox x1 := ⟨_, rfl⟩
          obtain ⟨y2, hy2'⟩ : ∃ y, y = sbox x2 := ⟨_, rfl⟩
          obtain ⟨y3, hy3'⟩ : ∃ y, y = sbox x3 := ⟨_, rfl⟩
          rw [← hy0'] at S0
          rw [← hy1'] at S1
          rw [← hy2'] at S2
          rw [← hy3'] at S3
          have hr0 : ¬ i % 8 = 0 := by omega
          have HY : Hid (y0 = tw (kws (kn ks) i) i 0 ∧ y1 = tw (kws (kn ks) i) i 1 ∧ y2 = tw (kws (kn ks) i) i 2 ∧ y3 = tw (kws (kn ks) i) i 3) := Lib.hid (by
            rw [HT0.out 0, HT0.out 1, HT0.out 2, HT0.out 3]
            simp only [if_neg hr0, if_pos hr]
            exact ⟨by rw [hy0', HX0.out], by rw [hy1', HX1.out], by rw [hy2', HX2.out], by rw [hy3', HX3.out]⟩)
          have HPN : Hid (pw ((i + 1 - 1) / 8) = pw q) := Lib.hid (by rw [HQ.out]; congr 1; omega)
          clear hy0' hy1' hy2' hy3' HT0 hr hr0
          go_wp2_with (fail)
          refine wp_region_still_tail 24 (by kernel_rfl) (by kernel_rfl) ?_
          change wpStill _ _ w3.drew (fun a' => wpList _ _ _ _ a' w3.drew) _ _
          simp only [List.take_succ_cons, List.take_zero, List.drop_succ_cons, List.drop_zero]
          repeat still_step
          refine wpStill_nil ?_
          clear S0 S1 S2 S3 L0 L1 L2 L3 V0 V1 V2 V3
          refine wpList_words rfl _ _ _ _ rfl y0 y1 y2 y3 rfl rfl rfl rfl ?_
          intro w4 hb4 hg4 hz4
          obtain ⟨gu, hgu⟩ : ∃ g, g = w3.drew.heap.size := ⟨_, rfl⟩
          rw [← hgu] at hb4 ⊢
          have HTT := Lib.hid (T4.blk hb4)
          have HGA : Hid (wr.grownBy w4 none) := Lib.hid (World.grownBy.trans (grown_drew HG3.out) hg4)
          have HGE : Hid (wr.heap.size ≤ gu) := Lib.hid (by rw [hgu]; exact HG3.out.size)
          have HC4 : Hid (4 ≤ 4) := Lib.hid (Nat.le_refl 4)
          clear hb4 hg4 hz4 hgu HT HG3 HGT HC
          go_wp2_with (fail)
          clear b0 b4
          go_loopw [9] (fun v wx => ∃ j : Nat, j ≤ 4 ∧ v = .int .i64 (j : Int) ∧ T4 wx gu (pl 4 (fun r => tw (kws (kn ks) i) i r ^^^ wb (kws (kn ks) i) (i - 8) r) (tw (kws (kn ks) i) i) j) ∧ w0.grownBy wx none) (fun v _ => 4 - (intOf v).toNat)
          case atStart => exact ⟨0, by omega, rfl, by rw [pl_old, ← HY.out.1, ← HY.out.2.1, ← HY.out.2.2.1, ← HY.out.2.2.2]; exact HTT.out, by rw [HW0.out]; exact HGA.out⟩
          case round =>
            clear HTT HGA
            obtain ⟨j, hj, rfl, hT, hg⟩ := hrel
            by_cases hj4 : j < 4
            · have e0 := hT.get j (by rw [pl_length]; exact hj4)
              rw [pl_get _ _ _ _ j hj4, if_neg (Nat.lt_irrefl j)] at e0
              have hf := hT.frozen j
              have h5 := HS5.out
              have h8' := H8.out
              rw [word_list ks i (i - 8) (by omega)] at h5
              have e1 : wr.cell? ⟨g8, j, none⟩ = some (.int .i64 ((wb (kws (kn ks) i) (i - 8) j : Nat) : Int)) := by
                have h := h5.get j hj4
                have hw0 := HW0.out
                have h' := hg.cell (a := ⟨g8, j, none⟩) (by rw [hw0]; exact h) (by simp)
                rw [h']
                obtain rfl | rfl | rfl | rfl : j = 0 ∨ j = 1 ∨ j = 2 ∨ j = 3 := by omega
                all_goals rfl
              have e2 := hg.cell (by rw [HW0.out]; exact HS1.out) (by simp)
              obtain ⟨p8, hp8⟩ : ∃ p, p = i - 8 := ⟨_, rfl⟩
              rw [← hp8] at e2
              have d4 : (i : Int) - 8 = (p8 : Int) := by omega
              have d5 := i64_keep p8 (by omega)
              have d6 : (p8 : Int) < (i : Int) := by omega
              have d7 : (j : Int) < 4 := by omega
              have hx := xor_small _ _ (HTW.out j hj4) (HO8.out j)
              have hset := hT.set j (tw (kws (kn ks) i) i j ^^^ wb (kws (kn ks) i) (i - 8) j) (by rw [pl_length]; exact hj4)
              rw [pl_set 4 (fun r => tw (kws (kn ks) i) i r ^^^ wb (kws (kn ks) i) (i - 8) r) (tw (kws (kn ks) i) i) j] at hset
              obtain ⟨z, hz⟩ : ∃ z, z = tw (kws (kn ks) i) i j ^^^ wb (kws (kn ks) i) (i - 8) j := ⟨_, rfl⟩
              rw [← hz] at hx hset
              have HSET := Lib.hid hset
              have HGG := Lib.hid hg
              clear hset hz hg hT h5 h8' hp8
              generalize tw (kws (kn ks) i) i j = t at e0 hx
              generalize wb (kws (kn ks) i) (i - 8) j = o at e1 hx
              go_wp2_with (fail)
              refine wp_region_still_tail 16 (by kernel_rfl) (by kernel_rfl) ?_
              change wpStill _ _ wr.drew (fun a' => wpList _ _ _ _ a' wr.drew) _ _
              simp only [List.take_succ_cons, List.take_zero, List.drop_succ_cons, List.drop_zero]
              repeat still_step
              refine wpStill_nil ?_
              go_wp2
              go_roundw
              case rel => exact ⟨j + 1, by omega, by go_num, HSET.out.keep rfl, World.grownBy.andThen (grown_drew HGG.out) (grown_set _ _ _ _) (by rintro _ ⟨⟩; rw [HW0.out]; exact .inl HGE.out)⟩
              case measure => simp [intOf]; omega
            · have ej : j = 4 := by omega
              subst ej
              have hw0 := HW0.out
              rw [← nw_late ks i H8.out] at hT
              have HTF := Lib.hid hT
              have HGF : Hid (w0.grownBy wr none) := Lib.hid hg
              have HW' : Hid (Wps w0 B (.slice (some ⟨gw, 0, none⟩) i cw) (kws (kn ks) i)) := Lib.hid (by rw [hw0]; exact HW.out)
              have HV' : Hid (w0.ownsRow B 65 1 (.slice (some ⟨gw, 0, none⟩) i cw) i vals) := Lib.hid (by rw [hw0]; exact HV.out)
              have HGE' : Hid (w0.heap.size ≤ gu) := Lib.hid (by rw [hw0]; exact HGE.out)
              have HBR' : Hid (B ≤ w0.heap.size) := Lib.hid (by rw [hw0]; exact HBR.out)
              have HG' : Hid (w2.grownBy w0 none) := Lib.hid (by rw [hw0]; exact HG.out)
              obtain ⟨i0, hi0, hz0, hz1, hz2⟩ := info_parts Tryz.infoInts
              have hlt' := HLT.out
              have k1 : i + 1 ≤ maxLen := by unfold maxLen; omega
              have k2 : (i + 1) * 24 ≤ 140737488355328 := by omega
              clear hT hg hj4 hj hlt' hw0
              go_wp2_with (first
                | (refine wpList_one rfl _ rfl (some ⟨gu, 0, none⟩) 4 4 rfl ?_
                   intro w5 hb5 hg5 hz5
                   obtain ⟨go, hgo⟩ : ∃ g, g = wr.heap.size := ⟨_, rfl⟩
                   rw [← hgo] at hb5 ⊢
                   have HB5 := Lib.hid hb5
                   have HG5 := Lib.hid hg5
                   have HZ5 := Lib.hid hz5
                   clear hb5 hg5 hz5 hgo)
                | (at_builtin
                   refine wpList_append_lies _ rfl _ _ _ rfl B 65 i0 _ 1 24 Tryz.underlying66 hi0 hz0 hz1 hz2 rfl Nat.one_pos (.slice (some ⟨gw, 0, none⟩) i cw) i vals rfl (HV'.out.kept (World.grownBy.trans HGF.out HG5.out) (.inr (by simp [Value.ownBlock]))) ⟨go, 0, none⟩ 1 1 [.slice (some ⟨gu, 0, none⟩) 4 4] rfl rfl (World.news_of_block HB5.out) (one_slice _ _ _) Nat.one_pos k1 k2 (Nat.le_trans HBR'.out (World.grownBy.trans HGF.out HG5.out).size) w5.heap.size rfl ?_
                   intro g' cap w6 hown hg6 hat hlt6
                   have hpush := Wps.push (v := .slice (some ⟨gw, 0, none⟩) i cw) (ws := kws (kn ks) i) (y := nw (kn ks) (kws (kn ks) i) i) (gt := gu) (c := 4) HW'.out (by rw [HLEN.out]; exact HV'.out) HGF.out HGE'.out HBR'.out HC4.out HTF.out HG5.out HZ5.out (by rw [HLEN.out]; exact hown) hg6 hat
                   rw [HLEN.out] at hpush
                   have HP := Lib.hid hpush
                   have HG6 : Hid (w2.grownBy w6 none) := Lib.hid (World.grownBy.andThen (World.grownBy.trans HG'.out (World.grownBy.trans HGF.out HG5.out)) hg6 (fun j hj => .inl (Nat.le_trans HBE.out (HV'.out.lt j hj).1)))
                   clear hown hg6 hat hlt6 hpush))
              go_roundw
              case rel => exact ⟨i + 1, by have := HLT.out; omega, by go_num, by rw [HPN.out], HP.out, HG6.out⟩
              case measure => have := HLT.out; simp [intOf]; omega
        · have b0 : ((i : Int) % 8 == 0) = false := by rw [beq_eq_false_iff_ne]; omega
          have b4 : ((i : Int) % 8 == 4) = false := by rw [beq_eq_false_iff_ne]; omega
          go_wp2_with (at_builtin; refine wpList_append_lies _ rfl _ _ _ rfl wr.heap.size 3 i3 _ 1 8 Tryz.underlying65 hi3 hy0 hy1 hy2 rfl Nat.one_pos (.slice none 0 0) 0 [] rfl (World.ownsRow_nil wr wr.heap.size 3 1) ⟨g1, 0, none⟩ 4 cc1 (ints [x0, x1, x2, x3]) rfl rfl (T4.news HR5.out) (ints_one _) (by omega) k0 k00 (Nat.le_refl _) wr.heap.size rfl ?_; intro gt c w3 hown hg3 hat hlt3; have hT := T4.own (B := wr.heap.size) hown; have HT := Lib.hid hT.1; have HC := Lib.hid hT.2; have HG3 : Hid (wr.grownBy w3 none) := Lib.hid hg3; have HGT : Hid (wr.heap.size ≤ gt) := (by rcases hat with h | h; exact absurd h (by simp [Value.ownBlock]); exact Lib.hid (Nat.le_of_eq h.symm)); clear hown hg3 hat hlt3 hT)
          obtain ⟨y0, hy0'⟩ : ∃ y, y = x0 := ⟨_, rfl⟩
          obtain ⟨y1, hy1'⟩ : ∃ y, y = x1 := ⟨_, rfl⟩
          obtain ⟨y2, hy2'⟩ : ∃ y, y = x2 := ⟨_, rfl⟩
          obtain ⟨y3, hy3'⟩ : ∃ y, y = x3 := ⟨_, rfl⟩
          have HY : Hid (y0 = tw (kws (kn ks) i) i 0 ∧ y1 = tw (kws (kn ks) i) i 1 ∧ y2 = tw (kws (kn ks) i) i 2 ∧ y3 = tw (kws (kn ks) i) i 3) := Lib.hid (by
            rw [HT0.out 0, HT0.out 1, HT0.out 2, HT0.out 3]
            simp only [if_neg hr, if_neg hr4]
            exact ⟨by rw [hy0', HX0.out], by rw [hy1', HX1.out], by rw [hy2', HX2.out], by rw [hy3', HX3.out]⟩)
          have HPN : Hid (pw ((i + 1 - 1) / 8) = pw q) := Lib.hid (by rw [HQ.out]; congr 1; omega)
          have HTT : Hid (T4 w3 gt [y0, y1, y2, y3]) := Lib.hid (by rw [hy0', hy1', hy2', hy3']; exact HT.out)
          have HGA := HG3
          have HGE := HGT
          clear hy0' hy1' hy2' hy3' HT0 hr hr4 HT HG3 HGT
          clear b0 b4
          go_loopw [9] (fun v wx => ∃ j : Nat, j ≤ 4 ∧ v = .int .i64 (j : Int) ∧ T4 wx gt (pl 4 (fun r => tw (kws (kn ks) i) i r ^^^ wb (kws (kn ks) i) (i - 8) r) (tw (kws (kn ks) i) i) j) ∧ w0.grownBy wx none) (fun v _ => 4 - (intOf v).toNat)
          case atStart => exact ⟨0, by omega, rfl, by rw [pl_old, ← HY.out.1, ← HY.out.2.1, ← HY.out.2.2.1, ← HY.out.2.2.2]; exact HTT.out, by rw [HW0.out]; exact HGA.out⟩
          case round =>
            clear HTT HGA
            obtain ⟨j, hj, rfl, hT, hg⟩ := hrel
            by_cases hj4 : j < 4
            · have e0 := hT.get j (by rw [pl_length]; exact hj4)
              rw [pl_get _ _ _ _ j hj4, if_neg (Nat.lt_irrefl j)] at e0
              have hf := hT.frozen j
              have h5 := HS5.out
              have h8' := H8.out
              rw [word_list ks i (i - 8) (by omega)] at h5
              have e1 : wr.cell? ⟨g8, j, none⟩ = some (.int .i64 ((wb (kws (kn ks) i) (i - 8) j : Nat) : Int)) := by
                have h := h5.get j hj4
                have hw0 := HW0.out
                have h' := hg.cell (a := ⟨g8, j, none⟩) (by rw [hw0]; exact h) (by simp)
                rw [h']
                obtain rfl | rfl | rfl | rfl : j = 0 ∨ j = 1 ∨ j = 2 ∨ j = 3 := by omega
                all_goals rfl
              have e2 := hg.cell (by rw [HW0.out]; exact HS1.out) (by simp)
              obtain ⟨p8, hp8⟩ : ∃ p, p = i - 8 := ⟨_, rfl⟩
              rw [← hp8] at e2
              have d4 : (i : Int) - 8 = (p8 : Int) := by omega
              have d5 := i64_keep p8 (by omega)
              have d6 : (p8 : Int) < (i : Int) := by omega
              have d7 : (j : Int) < 4 := by omega
              have hx := xor_small _ _ (HTW.out j hj4) (HO8.out j)
              have hset := hT.set j (tw (kws (kn ks) i) i j ^^^ wb (kws (kn ks) i) (i - 8) j) (by rw [pl_length]; exact hj4)
              rw [pl_set 4 (fun r => tw (kws (kn ks) i) i r ^^^ wb (kws (kn ks) i) (i - 8) r) (tw (kws (kn ks) i) i) j] at hset
              obtain ⟨z, hz⟩ : ∃ z, z = tw (kws (kn ks) i) i j ^^^ wb (kws (kn ks) i) (i - 8) j := ⟨_, rfl⟩
              rw [← hz] at hx hset
              have HSET := Lib.hid hset
              have HGG := Lib.hid hg
              clear hset hz hg hT h5 h8' hp8
              generalize tw (kws (kn ks) i) i j = t at e0 hx
              generalize wb (kws (kn ks) i) (i - 8) j = o at e1 hx
              go_wp2_with (fail)
              refine wp_region_still_tail 16 (by kernel_rfl) (by kernel_rfl) ?_
              change wpStill _ _ wr.drew (fun a' => wpList _ _ _ _ a' wr.drew) _ _
              simp only [List.take_succ_cons, List.take_zero, List.drop_succ_cons, List.drop_zero]
              repeat still_step
              refine wpStill_nil ?_
              go_wp2
              go_roundw
              case rel => exact ⟨j + 1, by omega, by go_num, HSET.out.keep rfl, World.grownBy.andThen (grown_drew HGG.out) (grown_set _ _ _ _) (by rintro _ ⟨⟩; rw [HW0.out]; exact .inl HGE.out)⟩
              case measure => simp [intOf]; omega
            · have ej : j = 4 := by omega
              subst ej
              have hw0 := HW0.out
              rw [← nw_late ks i H8.out] at hT
              have HTF := Lib.hid hT
              have HGF : Hid (w0.grownBy wr none) := Lib.hid hg
              have HW' : Hid (Wps w0 B (.slice (some ⟨gw, 0, none⟩) i cw) (kws (kn ks) i)) := Lib.hid (by rw [hw0]; exact HW.out)
              have HV' : Hid (w0.ownsRow B 65 1 (.slice (some ⟨gw, 0, none⟩) i cw) i vals) := Lib.hid (by rw [hw0]; exact HV.out)
              have HGE' : Hid (w0.heap.size ≤ gt) := Lib.hid (by rw [hw0]; exact HGE.out)
              have HBR' : Hid (B ≤ w0.heap.size) := Lib.hid (by rw [hw0]; exact HBR.out)
              have HG' : Hid (w2.grownBy w0 none) := Lib.hid (by rw [hw0]; exact HG.out)
              obtain ⟨i0, hi0, hz0, hz1, hz2⟩ := info_parts Tryz.infoInts
              have hlt' := HLT.out
              have k1 : i + 1 ≤ maxLen := by unfold maxLen; omega
              have k2 : (i + 1) * 24 ≤ 140737488355328 := by omega
              clear hT hg hj4 hj hlt' hw0
              go_wp2_with (first
                | (refine wpList_one rfl _ rfl (some ⟨gt, 0, none⟩) 4 c rfl ?_
                   intro w5 hb5 hg5 hz5
                   obtain ⟨go, hgo⟩ : ∃ g, g = wr.heap.size := ⟨_, rfl⟩
                   rw [← hgo] at hb5 ⊢
                   have HB5 := Lib.hid hb5
                   have HG5 := Lib.hid hg5
                   have HZ5 := Lib.hid hz5
                   clear hb5 hg5 hz5 hgo)
                | (at_builtin
                   refine wpList_append_lies _ rfl _ _ _ rfl B 65 i0 _ 1 24 Tryz.underlying66 hi0 hz0 hz1 hz2 rfl Nat.one_pos (.slice (some ⟨gw, 0, none⟩) i cw) i vals rfl (HV'.out.kept (World.grownBy.trans HGF.out HG5.out) (.inr (by simp [Value.ownBlock]))) ⟨go, 0, none⟩ 1 1 [.slice (some ⟨gt, 0, none⟩) 4 c] rfl rfl (World.news_of_block HB5.out) (one_slice _ _ _) Nat.one_pos k1 k2 (Nat.le_trans HBR'.out (World.grownBy.trans HGF.out HG5.out).size) w5.heap.size rfl ?_
                   intro g' cap w6 hown hg6 hat hlt6
                   have hpush := Wps.push (v := .slice (some ⟨gw, 0, none⟩) i cw) (ws := kws (kn ks) i) (y := nw (kn ks) (kws (kn ks) i) i) (gt := gt) (c := c) HW'.out (by rw [HLEN.out]; exact HV'.out) HGF.out HGE'.out HBR'.out HC.out HTF.out HG5.out HZ5.out (by rw [HLEN.out]; exact hown) hg6 hat
                   rw [HLEN.out] at hpush
                   have HP := Lib.hid hpush
                   have HG6 : Hid (w2.grownBy w6 none) := Lib.hid (World.grownBy.andThen (World.grownBy.trans HG'.out (World.grownBy.trans HGF.out HG5.out)) hg6 (fun j hj => .inl (Nat.le_trans HBE.out (HV'.out.lt j hj).1)))
                   clear hown hg6 hat hlt6 hpush))
              go_roundw
              case rel => exact ⟨i + 1, by have := HLT.out; omega, by go_num, by rw [HPN.out], HP.out, HG6.out⟩
              case measure => have := HLT.out; simp [intOf]; omega
    · have ei : i = 60 := by omega
      subst ei
      have hwk := HW.out.weak HWB.out
      have hgk := World.grownBy.trans HG2.out HG.out
      clear hlt hi
      go_wp2
      go_ret
      exact ⟨u5, rfl, hwk, hgk⟩
open Go.RowKit
def none31 : List Value := [.slice none 0 0, .slice none 0 0]
theorem run_alloc31 (w : World) : (Instr.alloc 68 true (.tuple #[])).run Tryz.prog w = .ok (.pointer (some ⟨w.heap.size, 0, none⟩)) (w.alloc (.cells none31.toArray 68)) := by kernel_rfl
section
variable {w : World} {ops : Array Oper} {rest : List Oper} {o : Oper} {a : Act} {Q : Exit → Act → World → Prop}
theorem wpList_alloc31 (hgd : o.guard = none) (ho : o.op = .alloc 68)
    (h : ∀ w', Blk w' w.heap.size 68 none31 → w.grownBy w' none → w'.heap.size = w.heap.size + 1 → wpList Tryz.prog ops Q rest (a.put o.dst (.pointer (some ⟨w.heap.size, 0, none⟩))) w') : wpList Tryz.prog ops Q (o :: rest) a w := by
  refine wpList_plain hgd fun K hK => ?_
  have hrun := run_alloc31 w
  generalize none31 = z at hrun h
  unfold Oper.wp
  simp only [execOp, ho, Sem.run_bind, hrun, Result.andThen_ok, Sem.run_pure]
  exact hK _ _ (h _ (Blk.of_alloc w _ 68) (World.grownBy_alloc w _ none) (World.size_alloc w _))
end
theorem size31 : (Tryz.prog.info? 68).map (·.size) = some 2 := by kernel_rfl
theorem two_one (A B : Option Addr) (n c m d : Nat) : ∀ u ∈ [Value.slice A n c, Value.slice B m d], u.oneCell' = true := by
  intro u hu
  simp only [List.mem_cons, List.not_mem_nil, or_false] at hu
  rcases hu with rfl | rfl <;> rfl
theorem Wps.far {w w' : World} {B g : Nat} {v : Value} {ws : List (List Nat)} (h : Wps w B v ws) (hg : w.grownBy w' (some g)) (hlt : g < B) : Wps w' B v ws := by
  obtain ⟨vals, ho, hp⟩ := h
  refine ⟨vals, ho.kept hg ?_, fun n hn => ?_⟩
  · cases hv : v.ownBlock with
    | none => exact .inl rfl
    | some k => exact .inr (fun e => by have := (ho.lt k hv).1; cases e; omega)
  · obtain ⟨gt, c, e1, e2, e3, e4, e5, e6⟩ := hp n hn
    exact ⟨gt, c, e1, e2, e3, Nat.lt_of_lt_of_le e4 hg.size, e5, e6.grown hg (fun e => by cases e; omega)⟩
set_option maxRecDepth 100000 in
set_option maxHeartbeats 1600000 in
theorem refnew_any (W : World) (k : Fin 32 → UInt8) :
    Calls Tryz.prog 36 #[.agg (u8s (k32 k)).toArray] W fun e w' => ∃ gs gw cw, e = .returned (.agg #[.slice (some ⟨gs, 0, none⟩) 256 256, .slice (some ⟨gw, 0, none⟩) 60 cw]) ∧ Blk w' gs 3 (ints stab) ∧ Wps w' W.heap.size (.slice (some ⟨gw, 0, none⟩) 60 cw) (kws (kn (k32 k)) 60) ∧ W.grownBy w' none := by
  go_enter Tryz.func36, Tryz.ntmps36
  go_wp2_with (refine wpList_box22 rfl _ k rfl rfl ?_)
  intro w2 hb2 hg2 hz2
  obtain ⟨gk, hgk⟩ : ∃ g, g = W.heap.size := ⟨_, rfl⟩
  rw [← hgk] at hb2 ⊢
  have HB2 := Lib.hid hb2
  have HG2 := Lib.hid hg2
  clear hb2 hz2 hgk
  go_wp2_with (refine wpList_alloc31 rfl rfl ?_)
  intro w3 hb3 hg3 hz3
  obtain ⟨go, hgo⟩ : ∃ g, g = w2.heap.size := ⟨_, rfl⟩
  rw [← hgo] at hb3 ⊢
  have HB3 := Lib.hid hb3
  have HG3 := Lib.hid (World.grownBy.trans hg2 hg3)
  have HK3 := Lib.hid (HB2.out.grown hg3 (by simp))
  have HGO : Hid (W.heap.size ≤ go) := Lib.hid (by rw [hgo]; exact hg2.size)
  clear hb3 hg3 hz3 hgo hg2 HB2 HG2
  go_wp2_with (first
    | (go_at_call 56
       refine (table_any w3).mono ?_
       rintro _ w4 ⟨gs, rfl, hb4, hg4, hz4⟩
       have HB4 := Lib.hid hb4
       have HG4 := Lib.hid hg4
       have HZ4 := Lib.hid hz4
       clear hb4 hg4 hz4)
    | (refine wpList_load_mid rfl 22 _ rfl gk 0 rfl (u8s (k32 k)) _ (range_blk (HK3.out.grown HG4.out (by simp))) Tryz.underlying22 rfl (by rw [size22, u8s_length, k32_length]) ?_)
    | (go_at_call 57
       refine (refkeys_any HB4.out k).mono ?_
       rintro _ w5 ⟨v, rfl, hw5, hg5⟩
       obtain ⟨gw, cw, rfl⟩ := hw5.form (by rw [kws_length]; omega)
       rw [kws_length] at hw5 ⊢
       have HW5 := Lib.hid hw5
       have HG5 := Lib.hid hg5
       have HB5 := Lib.hid ((HB3.out.grown HG4.out (by simp)).grown hg5 (by simp))
       have HS5 := Lib.hid (HB4.out.grown hg5 (by simp))
       have HGO5 : Hid (W.grownBy w5 none) := Lib.hid (World.grownBy.trans HG3.out (World.grownBy.trans HG4.out hg5))
       have HGW : Hid (W.heap.size ≤ w4.heap.size) := Lib.hid (World.grownBy.trans HG3.out HG4.out).size
       have HLT : Hid (go < w4.heap.size) := Lib.hid (Nat.lt_of_lt_of_le HB3.out.lt HG4.out.size)
       have HNE : Hid (gs ≠ go) := Lib.hid (fun e => by have h1 := HZ4.out; have h2 := HB3.out.lt; omega)
       clear hw5 hg5)
    | (refine wpList_store_row rfl 68 _ _ rfl go #[.slice (some ⟨gs, 0, none⟩) 256 256, .slice (some ⟨gw, 0, none⟩) 60 cw] rfl rfl 68 _ HB5.out size31 rfl (all_oneCell_toArray (two_one _ _ _ _ _ _)) ?_))
  exact bodyPost_ret (results_cell_row rfl _ _ go 68 #[.slice (some ⟨gs, 0, none⟩) 256 256, .slice (some ⟨gw, 0, none⟩) 60 cw] (0, 0) _ rfl (setRow_heap w5 go _ _ 68 (0, 0) HB5.out) Tryz.underlying68 rfl size31) rfl
    ⟨gs, gw, cw, rfl, HS5.out.grown (grown_setRow _ _ _) (fun e => HNE.out (Option.some.inj e)), (HW5.out.far (grown_setRow _ _ _) HLT.out).weak HGW.out, World.grownBy.andThen HGO5.out (grown_setRow _ _ _) (by rintro _ ⟨⟩; exact .inl HGO.out)⟩
/-- The reference's cipher, as Lock asks for it. -/
theorem Wps.wds {w : World} {B gw cw : Nat} {ks : List UInt8} (h : Wps w B (.slice (some ⟨gw, 0, none⟩) 60 cw) (kws (kn ks) 60)) : Wds w (fun b => b < w.heap.size) ⟨gw, 0, none⟩ (kws (kn ks) 60) := fun n hn => by
  have hl := kws_length (kn ks) 60
  have h' : Wps w B (.slice (some ⟨gw, 0, none⟩) (kws (kn ks) 60).length cw) (kws (kn ks) 60) := by rw [hl]; exact h
  obtain ⟨gt, c, e1, e2, e3, e4, e5⟩ := h'.read n hn
  have hw := World.block_lt_of_cell? w _ e1
  refine ⟨⟨gt, 0, none⟩, c, by rw [Addr.add_lit, Nat.zero_add]; exact e1, hw, e4, e2, fun r hr => ?_⟩
  rw [Addr.add_lit, Nat.zero_add]
  exact e5.get r (by rw [kws_get _ _ _ (by omega), nw_length]; exact hr)
theorem reflock_any {w : World} {B gs gw cw : Nat} {ks : List UInt8} (hs : Blk w gs 3 (ints stab)) (hw : Wps w B (.slice (some ⟨gw, 0, none⟩) 60 cw) (kws (kn ks) 60)) (s : State) :
    Calls Tryz.prog 37 #[.agg #[.slice (some ⟨gs, 0, none⟩) 256 256, .slice (some ⟨gw, 0, none⟩) 60 cw], .agg (bytesOf s).toArray] w fun e w' => e = .returned (.agg (bytesOf (lockS (rk (kws (kn ks) 60)) s)).toArray) ∧ w.grownBy w' none := by
  refine lock_any (fun j hj => ?_) hw.wds (kws_length _ _) (fun n r => wb_lt ks n r) s
  have h := hs.get j _ (ints_get stab j (by rw [stab_length]; exact hj))
  rw [stab_get j hj] at h
  rw [Addr.add_lit, Nat.zero_add]
  exact h
open Go.RowKit
/-- A cipher of the code lies at g. -/
def Cip (w : World) (g : Nat) (ks : List UInt8) : Prop := Blk w g 107 (cph (tabS 256) (tabB 256) (fl 240 (kf ks) 240))
theorem Cip.grown {w w' : World} {g : Nat} {ks : List UInt8} (h : Cip w g ks) (hg : w.grownBy w' none) : Cip w' g ks := Blk.grown h hg (by simp)
theorem rks_kf (ks : List UInt8) : rks (kf ks) = rk (kws (kn ks) 60) := by
  funext n i
  exact (rk_kf ks n i).symm
theorem clock_any {W : World} {g : Nat} {ks : List UInt8} (h : Cip W g ks) (s : State) : Calls Tryz.prog 48 #[.pointer (some ⟨g, 0, none⟩), .agg (bytesOf s).toArray] W fun e w' => e = .returned (.agg (bytesOf (aesLock (kn ks) s)).toArray) ∧ W.grownBy w' none := by
  have := code_lock h s
  rw [rks_kf] at this
  exact this
theorem cunlock_any {W : World} {g : Nat} {ks : List UInt8} (h : Cip W g ks) (s : State) : Calls Tryz.prog 60 #[.pointer (some ⟨g, 0, none⟩), .agg (bytesOf s).toArray] W fun e w' => e = .returned (.agg (bytesOf (aesUnlock (kn ks) s)).toArray) ∧ W.grownBy w' none := by
  have := code_unlock h s
  rw [rks_kf] at this
  exact this
theorem rlock_any {w : World} {B gs gw cw : Nat} {ks : List UInt8} (hs : Blk w gs 3 (ints stab)) (hw : Wps w B (.slice (some ⟨gw, 0, none⟩) 60 cw) (kws (kn ks) 60)) (s : State) :
    Calls Tryz.prog 37 #[.agg #[.slice (some ⟨gs, 0, none⟩) 256 256, .slice (some ⟨gw, 0, none⟩) 60 cw], .agg (bytesOf s).toArray] w fun e w' => e = .returned (.agg (bytesOf (aesLock (kn ks) s)).toArray) ∧ w.grownBy w' none := reflock_any hs hw s
end Go.Proofs.YtkbffponemihoaaGreatDoor.C
