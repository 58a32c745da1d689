/- Plain mathematics of what Make tells twice; the parts of a term under way; arrays compared. Conditions: none. -/
import Derived.Test.YtbhfjjlfpgineaaPre
namespace Go.Proofs.Ytbhfjjlfpgineaa
open Go.RowKit
open Extern.Stop (cell)

theorem mk_pos {T T' : List Trm} {k : Int} {ps : List (List UInt8)} {n : Nat} (h : mk T k ps = (n, T')) (hn : 0 < n) : Fit ps ∧ 1 ≤ k ∧ k ≤ 8 ∧ T'[n - 1]? = some (k.toNat, ps) ∧ ∃ S, T' = T ++ S := by
  unfold mk at h
  split at h
  · rename_i hg
    obtain ⟨h1, h2, h3⟩ := hg
    refine ⟨h1, h2, h3, ?_⟩
    split at h
    · rename_i hm
      simp only [Prod.mk.injEq] at h
      obtain ⟨rfl, rfl⟩ := h
      refine ⟨?_, [], by simp⟩
      rw [Nat.add_sub_cancel]
      have hi : T.idxOf (k.toNat, ps) < T.length := List.idxOf_lt_length_of_mem hm
      rw [List.getElem?_eq_getElem hi, List.getElem_idxOf hi]
    · split at h
      · simp only [Prod.mk.injEq] at h
        omega
      · simp only [Prod.mk.injEq] at h
        obtain ⟨rfl, rfl⟩ := h
        exact ⟨by simp, _, rfl⟩
  · simp only [Prod.mk.injEq] at h
    omega
theorem mk_more {T T' : List Trm} {k : Int} {ps : List (List UInt8)} {n : Nat} (h : mk T k ps = (n, T')) : ∃ S, T' = T ++ S := by
  rcases Nat.eq_zero_or_pos n with h0 | h0
  · subst h0
    unfold mk at h
    split at h
    · split at h
      · simp at h
      · split at h
        · simp only [Prod.mk.injEq] at h
          exact ⟨[], by simp [h.2]⟩
        · simp at h
    · simp only [Prod.mk.injEq] at h
      exact ⟨[], by simp [h.2]⟩
  · exact (mk_pos h h0).2.2.2.2
theorem at_more {T T' : List Trm} {i : Nat} {x : Trm} (h : T[i]? = some x) (hs : ∃ S, T' = T ++ S) : T'[i]? = some x := by
  obtain ⟨S, rfl⟩ := hs
  have hi : i < T.length := (List.getElem?_eq_some_iff.1 h).1
  rw [List.getElem?_append_left hi]
  exact h
theorem nodup_at {T : List Trm} (hd : T.Nodup) {i j : Nat} {x : Trm} (h1 : T[i]? = some x) (h2 : T[j]? = some x) : i = j := by
  obtain ⟨hi, e1⟩ := List.getElem?_eq_some_iff.1 h1
  obtain ⟨hj, e2⟩ := List.getElem?_eq_some_iff.1 h2
  exact (List.getElem_inj hd).1 (e1.trans e2.symm)
theorem mk_again {T : List Trm} {k : Int} {ps : List (List UInt8)} {n : Nat} (hf : Fit ps) (h1 : 1 ≤ k) (h8 : k ≤ 8) (hn : 0 < n) (hd : T.Nodup) (h : T[n - 1]? = some (k.toNat, ps)) : mk T k ps = (n, T) := by
  have hm : (k.toNat, ps) ∈ T := List.mem_of_getElem? h
  have hi : T.idxOf (k.toNat, ps) < T.length := List.idxOf_lt_length_of_mem hm
  have he : T[T.idxOf (k.toNat, ps)]? = some (k.toNat, ps) := by rw [List.getElem?_eq_getElem hi, List.getElem_idxOf hi]
  have := nodup_at hd he h
  unfold mk
  rw [if_pos ⟨hf, h1, h8⟩, if_pos hm, this]
  congr 1
  omega
theorem nm_inj {m n : Nat} (h0 : 0 < m) (h : nm m = nm n) (hm : m < 4294967296) (hn : n < 4294967296) : m = n := by
  rcases Nat.eq_zero_or_pos n with e | e
  · subst e
    have h1 := num_nm m (m + 1) [] h0 (by omega) hm
    rw [List.append_nil, h] at h1
    have h2 := (num_iff (nm 0) (m + 1) m h0).1 h1
    have : nb ((nm 0).drop 4 |>.take 4) = 0 := by decide
    omega
  · have h1 := num_nm m (m + n + 1) [] h0 (by omega) hm
    have h2 := num_nm n (m + n + 1) [] e (by omega) hn
    rw [List.append_nil] at h1 h2
    rw [h] at h1
    omega
theorem nm0_eq {m n : Nat} (hm0 : 0 < m) (hn0 : 0 < n) (hm : m < 4294967296) (hn : n < 4294967296) : nm0 m = nm0 n ↔ m = n := by
  unfold nm0
  rw [if_neg (by omega), if_neg (by omega)]
  exact ⟨fun h => nm_inj hm0 h hm hn, fun h => by rw [h]⟩
/-- Two terms have one name just if they are one. -/
theorem mk_unlike {T T1 T2 : List Trm} {ka kb : Int} {xs ys : List (List UInt8)} {n m : Nat} (h1 : mk T ka xs = (n, T1)) (h2 : mk T1 kb ys = (m, T2)) (hn : 0 < n) (hm : 0 < m) (hd : T2.Nodup) : (n = m ↔ ka = kb ∧ xs = ys) ∧ mk T2 ka xs = (n, T2) := by
  obtain ⟨f1, a1, b1, c1, _⟩ := mk_pos h1 hn
  obtain ⟨f2, a2, b2, c2, s2⟩ := mk_pos h2 hm
  have d1 := at_more c1 s2
  refine ⟨⟨fun e => ?_, fun ⟨e1, e2⟩ => ?_⟩, mk_again f1 a1 b1 hn hd d1⟩
  · subst e
    rw [d1] at c2
    simp only [Option.some.injEq, Prod.mk.injEq] at c2
    exact ⟨by omega, c2.2⟩
  · subst e1 e2
    have := nodup_at hd d1 c2
    omega
/-- The first parts of a term. -/
def prtB (made : Nat) (ps : List Prt) (k : Nat) : List (List UInt8) := (ps.take k).map fun p => cutB p.1 p.2 made 5000
theorem prtB_length (made : Nat) (ps : List Prt) (k : Nat) : (prtB made ps k).length = min k ps.length := by simp [prtB]
theorem prtB_get {made : Nat} {ps : List Prt} {k j : Nat} (h : j < (prtB made ps k).length) (hj : j < ps.length) : (prtB made ps k)[j] = cutB ps[j].1 ps[j].2 made 5000 := by
  simp [prtB]
theorem prtB_le {made : Nat} {ps : List Prt} {k : Nat} : ∀ p ∈ prtB made ps k, p.length ≤ 5128 := fun p hp => by
  obtain ⟨x, _, rfl⟩ := List.mem_map.1 hp
  exact cutB_length _ _ _ _
theorem tbl_nodup {w : World} {ok : Nat → Prop} {tb : Nat} {T : List Trm} (h : Tbl w ok tb T) : T.Nodup := by
  obtain ⟨_, _, _, _, _, _, _, _, _, _, _, _, hd, _⟩ := h
  exact hd
set_option maxRecDepth 100000 in
theorem run_eql_arr (T : TypeId) (n : Nat) (hT : Try.prog.underlying T = some (.array n 5)) (xs ys : List UInt8) (hx : xs.length = n) (hy : ys.length = n) (w : World) :
    (binOp .eql T (.agg (u8s xs).toArray) (.agg (u8s ys).toArray)).run Try.prog w = .ok (.bool (xs == ys)) w := by
  have h : (binOp .eql T (.agg (xs.map cell).toArray) (.agg (ys.map cell).toArray)).run Try.prog w = .ok (.bool (xs == ys)) w := by
    rw [run_eql_struct, run_equalIn_bytes w 9998 T 5 n hT Try.underlying5 size5 xs ys hx hy]
    rfl
  exact h
section
variable {w : World} {ops : Array Oper} {rest : List Oper} {o : Oper} {a : Act} {Q : Exit → Act → World → Prop}
theorem wpList_eql32 (hw : Region.wanted o (yielded ops a.tmps) = true) (x y : Operand) (ho : o.op = .binOp .eql 49 x y 49) (xs ys : List UInt8) (hx : a.eval x = .agg (u8s xs).toArray) (hy : a.eval y = .agg (u8s ys).toArray) (hxl : xs.length = 32) (hyl : ys.length = 32) (b : Bool) (hb : (xs == ys) = b)
    (h : wpList Try.prog ops Q rest (a.put o.dst (.bool b)) w) : wpList Try.prog ops Q (o :: rest) a w :=
  wpList_step fun K hK => by
    rw [if_pos hw]
    have := run_eql_arr 49 32 Try.underlying49 xs ys hxl hyl w
    rw [hb] at this
    unfold Oper.wp execOp
    simp only [ho, hx, hy, run_eqGuard_agg _ _ _ _ _ _ _ guard49, Sem.run_bind, this, Result.andThen_ok, Sem.run_pure]
    exact hK _ _ h
theorem wpList_build32g (hw : Region.wanted o (yielded ops a.tmps) = true) (ho : o.op = .build 49 #[])
    (h : wpList Try.prog ops Q rest (a.put o.dst (.agg (u8s z32).toArray)) w) : wpList Try.prog ops Q (o :: rest) a w :=
  wpList_step fun K hK => by
    rw [if_pos hw]
    have hrun := run_build49 w
    unfold Oper.wp
    simp [execOp, ho, hrun, Result.andThen]
    exact hK _ _ h
end
section
variable {ops : Array Oper} {Cw : World → Prop} {Q : Act → Prop} {rest : List Oper} {a : Act} {o : Oper}
theorem quiet_eql32 (hw : Region.wanted o (yielded ops a.tmps) = true) (x y : Operand) (ho : o.op = .binOp .eql 49 x y 49) (xs ys : List UInt8) (hx : a.eval x = .agg (u8s xs).toArray) (hy : a.eval y = .agg (u8s ys).toArray) (hxl : xs.length = 32) (hyl : ys.length = 32) (b : Bool) (hb : (xs == ys) = b)
    (h : wpQuiet Try.prog ops Cw Q rest (a.put o.dst (.bool b))) : wpQuiet Try.prog ops Cw Q (o :: rest) a := by
  subst hb
  refine BigFrame.wpQuiet_want hw fun K hK => ⟨.bool (xs == ys), fun W _ => ?_, hK _ h⟩
  have := run_eql_arr 49 32 Try.underlying49 xs ys hxl hyl W
  unfold Oper.quietAt execOp
  simp only [ho, hx, hy, run_eqGuard_agg _ _ _ _ _ _ _ guard49, Sem.run_bind, this, Result.andThen_ok, Sem.run_pure]
  exact ⟨rfl, rfl⟩
end
/-- One more piece of a list. -/
theorem cop_app {wd wr w3 w5 : World} {L : List (List UInt8)} {v v5 : Value} {j xl c3 : Nat} {A3 : Option Addr} {o : Obj} {ss : List Value} (hbx : Below wd.heap.size wd wr) (hc : Cop wd wr L v j) (hj : j < L.length) (hb3 : Below wr.heap.size wr w3) (hy : Byt w3 (fun b => wr.heap.size ≤ b ∧ b < w3.heap.size) A3 L[j]) (hl : L[j].length = xl) (h1 : xl ≤ c3) (h2 : c3 ≤ maxLen)
    (hss : wr.ownsRow wd.heap.size 41 1 v j ss ∧ ∀ i (h : i < L.length), i < j → ∃ A c, ss[i]? = some (.slice A L[i].length c) ∧ L[i].length ≤ c ∧ c ≤ maxLen ∧ Byt wr (fun b => wd.heap.size ≤ b ∧ b < wr.heap.size ∧ some b ≠ v.ownBlock) A L[i])
    (hown : w5.ownsRow wd.heap.size 41 1 v5 (j + 1) (ss ++ [.slice A3 xl c3])) (hg : (w3.alloc o).grownBy w5 v.ownBlock) (hat : v5.ownBlock = v.ownBlock ∨ v5.ownBlock = some (w3.heap.size + 1)) : Cop wd w5 L v5 (j + 1) ∧ Below wd.heap.size wd w5 := by
  have hzx := hbx.size
  have hz3 := hb3.size
  refine ⟨hc.step (w5 := w5) (v2 := v5) (A3 := A3) (c3 := c3) (o := o) hzx hj hb3 hy (by rw [hl]; exact h1) h2 hss (by rw [hl]; exact hown) hg hat, ?_⟩
  have h3 := (hbx.trans (hb3.mono hzx)).alloc (by omega) o
  exact h3.grown hg (by rw [alloc_size]; omega) fun g hg' => (hss.1.lt g hg').1
/-- A block that isn't the table's. -/
def Free (w : World) (ok : Nat → Prop) (b : Nat) : Prop := b < w.heap.size ∧ ¬ ok b
/-- Such blocks are as they were. -/
def Stay (w w' : World) (ok ok' : Nat → Prop) : Prop := ∀ b, Free w ok b → Free w' ok' b ∧ w'.heap[b]? = w.heap[b]?
theorem Stay.trans {a b c : World} {o1 o2 o3 : Nat → Prop} (h : Stay a b o1 o2) (k : Stay b c o2 o3) : Stay a c o1 o3 := fun x hx => ⟨(k x (h x hx).1).1, (k x (h x hx).1).2.trans (h x hx).2⟩
theorem Stay.of_below {w w' : World} {ok : Nat → Prop} (h : Below w.heap.size w w') : Stay w w' ok ok := fun b hb => ⟨⟨Nat.lt_of_lt_of_le hb.1 h.size, hb.2⟩, h.block b hb.1⟩
section
variable {w w' : World} {ok ok' : Nat → Prop} {A : Option Addr}
theorem Stay.lst {ps : List (List UInt8)} (h : Stay w w' ok ok') (hl : Lst w (Free w ok) A ps) : Lst w' (Free w' ok') A ps := (hl.keep fun b hb => (h b hb).2).imp fun b hb => (h b hb).1
theorem Stay.arr {T : TypeId} {g : Nat} {xs : List UInt8} (h : Stay w w' ok ok') (hg : Free w ok g) (ha : Arr w T g xs) : Free w' ok' g ∧ Arr w' T g xs := ⟨(h g hg).1, (h g hg).2.trans ha⟩
theorem make_stay {tb n c B : Nat} {T : List Trm} {kind : Int} {ps : List (List UInt8)} (h : Tbl w ok tb T) (hok : ∀ b, ok b → B ≤ b ∧ b < w.heap.size) (hB : B ≤ w.heap.size) (hx : Lst w (Free w ok) A ps) (hn : ps.length = n) (hm : n ≤ maxLen) :
    Calls Try.prog 21 #[.pointer (some ⟨tb, 0, none⟩), .int .i64 kind, .slice A n c] w fun e w' => e = .returned (.tuple #[.agg (u8s (nm0 (mk T kind ps).1)).toArray, .bool (decide (0 < (mk T kind ps).1))]) ∧
      ∃ ok', Tbl w' ok' tb (mk T kind ps).2 ∧ (∀ b, ok' b → B ≤ b ∧ b < w'.heap.size) ∧ Stay w w' ok ok' ∧ Below B w w' := by
  have hmk := make_any (kind := kind) (c := c) h hx (fun b hb => hb.1) (by rw [hn]; exact hm)
  rw [hn] at hmk
  refine hmk.mono fun e w2 ⟨h1, h2, h3⟩ => ⟨h1, _, h2, fun b hb => ?_, fun b hb => ⟨⟨Nat.lt_of_lt_of_le hb.1 h3.size, fun hm => ?_⟩, h3.block b hb.1 hb.2⟩, h3.below hB fun b _ hb => (hok b hb).1⟩
  · rcases hb with hb | hb
    · exact ⟨(hok b hb).1, Nat.lt_of_lt_of_le (hok b hb).2 h3.size⟩
    · omega
  · rcases hm with hm | hm
    · exact hb.2 hm
    · have := hb.1; omega
end
/-- The table, lists, keys and boxes beside it. -/
structure UD (B : Nat) (w : World) (ok : Nat → Prop) (tb : Nat) (T : List Trm) (L : List (Option Addr × List (List UInt8))) (K : List (Nat × List UInt8)) (X : List (Nat × Array Value)) : Prop where
  tbl : Tbl w ok tb T
  bd : ∀ b, ok b → B ≤ b ∧ b < w.heap.size
  lst : ∀ x ∈ L, Lst w (Free w ok) x.1 x.2
  key : ∀ x ∈ K, Free w ok x.1 ∧ Arr w 49 x.1 x.2
  box : ∀ x ∈ X, Free w ok x.1 ∧ w.heap[x.1]? = some (.cells x.2 61)
section
variable {B : Nat} {w w' : World} {ok ok' : Nat → Prop} {tb : Nat} {T T' : List Trm} {L : List (Option Addr × List (List UInt8))} {K : List (Nat × List UInt8)} {X : List (Nat × Array Value)}
theorem UD.stay (h : UD B w ok tb T L K X) (hs : Stay w w' ok ok') (ht : Tbl w' ok' tb T') (ho : ∀ b, ok' b → B ≤ b ∧ b < w'.heap.size) : UD B w' ok' tb T' L K X :=
  ⟨ht, ho, fun x hx => hs.lst (h.lst x hx), fun x hx => hs.arr (h.key x hx).1 (h.key x hx).2, fun x hx => ⟨(hs _ (h.box x hx).1).1, (hs _ (h.box x hx).1).2.trans (h.box x hx).2⟩⟩
theorem UD.below (h : UD B w ok tb T L K X) (hb : Below w.heap.size w w') : UD B w' ok tb T L K X :=
  h.stay (Stay.of_below hb) (h.tbl.below hb) fun b hb' => ⟨(h.bd b hb').1, Nat.lt_of_lt_of_le (h.bd b hb').2 hb.size⟩
theorem UD.make (h : UD B w ok tb T L K X) {A : Option Addr} {n c : Nat} {kind : Int} {ps : List (List UInt8)} {p : Nat × List Trm} (hp : Ytbhfjjlfpgineaa.mk T kind ps = p) (hB : B ≤ w.heap.size) (hx : (A, ps) ∈ L) (hn : ps.length = n) (hm : n ≤ maxLen) :
    Calls Try.prog 21 #[.pointer (some ⟨tb, 0, none⟩), .int .i64 kind, .slice A n c] w fun e w' => e = .returned (.tuple #[.agg (u8s (nm0 p.1)).toArray, .bool (decide (0 < p.1))]) ∧ Below B w w' ∧ ∃ ok', UD B w' ok' tb p.2 L K X := by
  subst hp
  exact (make_stay h.tbl h.bd hB (h.lst _ hx) hn hm).mono fun e w2 ⟨h1, ok', h2, h3, h4, h5⟩ => ⟨h1, h5, ok', h.stay h4 h2 h3⟩
theorem UD.more (h : UD B w ok tb T L K X) (hb : Below w.heap.size w w') {g : Nat} {ks : List UInt8} (hg : w.heap.size ≤ g) (hk : Arr w' 49 g ks) : UD B w' ok tb T L ((g, ks) :: K) X := by
  have h' := h.below hb
  refine ⟨h'.tbl, h'.bd, h'.lst, fun x hx => ?_, h'.box⟩
  rcases List.mem_cons.1 hx with rfl | hx
  · exact ⟨⟨Arr.lt hk, fun hm => by have := (h.bd _ hm).2; simp only at this; omega⟩, hk⟩
  · exact h'.key x hx
theorem UD.cell (h : UD B w ok tb T L K X) {g : Nat} {cs : Array Value} (hx : (g, cs) ∈ X) (i : Nat) : w.cell? ⟨g, i, none⟩ = cs[i]? := cell_of_block (h.box _ hx).2 i
theorem UD.drewN (h : UD B w ok tb T L K X) (n : Nat) : UD B (w.drewN n) ok tb T L K X := h.below (below_dN (Below.refl _ _) n)
end
theorem told_quiet {w : World} {ok ok' : Nat → Prop} {A B : Option Addr} {ps qs : List (List UInt8)} {c d n m : Nat} {b : Bool} (ha : Lst w ok A ps) (hb : Lst w ok' B qs) (hn : ps.length = n) (hm : qs.length = m) (hmx : n ≤ maxLen) (he : decide (ps = qs) = b) (k : Nat) :
    Calls Try.prog 13 #[.slice A n c, .slice B m d] (w.drewN k) fun e w'' => e = .returned (.bool b) ∧ ∃ j, w'' = w.drewN j := by
  subst hn hm he
  refine (lists_any (c := c) (d := d) (ha.keep (w' := w.drewN k) fun _ _ => rfl) (hb.keep (w' := w.drewN k) fun _ _ => rfl) hmx).mono fun e w2 h => ?_
  obtain ⟨h1, j, rfl⟩ := h
  exact ⟨h1, k + j, World.drewN_drewN w k j⟩
theorem UD.load {B : Nat} {w : World} {ok : Nat → Prop} {tb : Nat} {T : List Trm} {L : List (Option Addr × List (List UInt8))} {K : List (Nat × List UInt8)} {X : List (Nat × Array Value)} (h : UD B w ok tb T L K X) {g : Nat} {ks : List UInt8} (hx : (g, ks) ∈ K) (hl : ks.length = 32) (W : World) (hW : ∃ k, W = w.drewN k) :
    (Instr.loadAt 49 (.pointer (some ⟨g, 0, none⟩))).run Try.prog W = .ok (.agg (u8s ks).toArray) W := by
  obtain ⟨k, rfl⟩ := hW
  exact run_loadAt_mid _ _ _ _ _ _ (arr_range (h.key _ hx).2) Try.underlying49 rfl (by rw [u8s_length, hl]; exact size49)
theorem nm_not_zero (n : Nat) : (nm n == z32) = false := by
  rw [beq_eq_false_iff_ne]
  intro h
  have h2 : (nm n).head? = z32.head? := by rw [h]
  cases h2
end Go.Proofs.Ytbhfjjlfpgineaa
